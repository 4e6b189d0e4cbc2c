import PyProof.Rows.All
import Wide.All
import OpenK.AllK
import Wide.FinOn
import Lean
import PyProof.EqAt
import PyProof.EqKinds
import PyProof.TupleCall
import PySem.Challenge.RW_truthgrades_k06_texts_of_no_table
set_option bootstrap.genMatcherCode false
set_option genSizeOfSpec false
local macro_rules | `(tactic| walk_at "om") => `(tactic| first | lia | omega)
set_option Elab.async false
set_option linter.all false
set_option maxRecDepth 100000
namespace L2
open PySem PySem.Spec PyProof.Rows

noncomputable abbrev Key := Sum Int Str
noncomputable def keyIs : Key → Value → Bool
  | .inl k, v => Value.isInt k v
  | .inr x, v => Value.isStrOf x v
noncomputable def keyH (w : World) : Key → Int
  | .inl k => hashInt k
  | .inr x => hashStr w x
theorem keyIs_shape : ∀ {k : Key} {v : Value}, keyIs k v = true → (∃ i t, k = Sum.inl i ∧ v = Value.int i t) ∨ (∃ x t, k = Sum.inr x ∧ v = Value.str x t)
  | .inl i, v, h => by
    obtain ⟨t, e⟩ := Value.isInt_shape (k := i) (v := v) h
    exact .inl ⟨i, t, rfl, e⟩
  | .inr x, v, h => by
    obtain ⟨t, e⟩ := Value.isStrOf_shape (x := x) (v := v) h
    exact .inr ⟨x, t, rfl, e⟩
theorem key_ll (a b : Int) : decide ((Sum.inl a : Key) = Sum.inl b) = (a == b) := by
  by_cases e : a = b
  · subst e; simp
  · have h : ¬ (Sum.inl a : Key) = Sum.inl b := fun q => e (Sum.inl.inj q)
    rw [decide_eq_false h]
    exact (beq_eq_false_iff_ne.mpr e).symm
theorem key_rr (a b : Str) : decide ((Sum.inr a : Key) = Sum.inr b) = decide (a = b) := by
  by_cases e : a = b
  · subst e; simp
  · have h : ¬ (Sum.inr a : Key) = Sum.inr b := fun q => e (Sum.inr.inj q)
    rw [decide_eq_false h, decide_eq_false e]
theorem key_lr (a : Int) (b : Str) : decide ((Sum.inl a : Key) = Sum.inr b) = false := decide_eq_false (fun q => nomatch q)
theorem key_rl (a : Str) (b : Int) : decide ((Sum.inr a : Key) = Sum.inl b) = false := decide_eq_false (fun q => nomatch q)

noncomputable def mixKind (prog : Program) (w : World) : PySem.KeyKind prog w Key where
  is := keyIs
  hash := keyH w
  inj := fun v a b ha hb => by
    rcases keyIs_shape ha with ⟨i, t, rfl, rfl⟩ | ⟨x, t, rfl, rfl⟩
    · rcases keyIs_shape hb with ⟨j, u, rfl, e⟩ | ⟨y, u, rfl, e⟩
      · injection e with e1 _; rw [e1]
      · exact nomatch e
    · rcases keyIs_shape hb with ⟨j, u, rfl, e⟩ | ⟨y, u, rfl, e⟩
      · exact nomatch e
      · injection e with e1 _; rw [e1]
  byValue := fun k v h => by
    rcases keyIs_shape h with ⟨i, t, rfl, rfl⟩ | ⟨x, t, rfl, rfl⟩ <;> rfl
  pyHash := fun hv h => by
    rcases keyIs_shape hv with ⟨i, t, rfl, rfl⟩ | ⟨x, t, rfl, rfl⟩
    · exact wpAny_pyHash_int h
    · exact wpAny_pyHash_str h
  eqBool := fun hu hv h => by
    rcases keyIs_shape hu with ⟨i, t, rfl, rfl⟩ | ⟨x, t, rfl, rfl⟩
    · rcases keyIs_shape hv with ⟨j, u, rfl, rfl⟩ | ⟨y, u, rfl, rfl⟩
      · rw [key_ll] at h; exact wpAny_eqBool_int h
      · rw [key_lr] at h; exact SeqAt.EqAt.int_str i t y u _ _ _ _ h
    · rcases keyIs_shape hv with ⟨j, u, rfl, rfl⟩ | ⟨y, u, rfl, rfl⟩
      · rw [key_rl] at h; exact SeqAt.EqAt.str_int x t j u _ _ _ _ h
      · rw [key_rr] at h; exact wpAny_eqBool_str h
  «strs» := fun k x t v h => by
    rcases keyIs_shape h with ⟨i, u, rfl, e⟩ | ⟨y, u, rfl, e⟩
    · exact nomatch e
    · injection e with e1 _
      subst e1
      cases v <;> rfl

end L2

namespace L2
open PySem PySem.Spec PyProof.Rows

inductive V where
  | non | bl (b : Bool) | int (i : Int) | str (x : Str) | byt (b : Array UInt8) | flt (b : UInt64) | ref (a : Addr) | ty (n : String)
  deriving DecidableEq

noncomputable def RelV : V → Value → Prop
  | .non, u => u = Value.none
  | .bl b, u => u = Value.bool b
  | .int i, u => ∃ t, u = Value.int i t
  | .str x, u => ∃ t, u = Value.str x t
  | .byt b, u => ∃ t, u = Value.bytes b t
  | .flt b, u => ∃ t, u = Value.float b t
  | .ref a, u => u = Value.ref a
  | .ty n, u => u = Value.type n

noncomputable abbrev Vals : List V → List Value → Prop := Paired RelV
theorem Vals.length {xs : List V} {us : List Value} (r : Vals xs us) : xs.length = us.length := Paired.length r
theorem Vals.get : ∀ {xs : List V} {us : List Value} {i : Nat} {x : V}, Vals xs us → xs[i]? = some x → ∃ u, us[i]? = some u ∧ RelV x u
  | _, _, _, _, .nil, e => by simp at e
  | _, _, 0, _, .cons r _, e => by simp at e; subst e; exact ⟨_, rfl, r⟩
  | _, _, i + 1, x, .cons _ t, e => by
    obtain ⟨u, h1, h2⟩ := Vals.get (i := i) (x := x) t (by simpa using e)
    exact ⟨u, by simpa using h1, h2⟩
theorem Vals.set {x : V} {u : Value} (r : RelV x u) : ∀ {xs : List V} {us : List Value} (i : Nat), Vals xs us → Vals (xs.set i x) (us.set i u)
  | _, _, _, .nil => .nil
  | _, _, 0, .cons _ t => .cons r t
  | _, _, i + 1, .cons q t => .cons q (Vals.set r i t)
theorem Vals.append : ∀ {xs ys : List V} {us ws : List Value}, Vals xs us → Vals ys ws → Vals (xs ++ ys) (us ++ ws)
  | _, _, _, _, .nil, s => s
  | _, _, _, _, .cons r t, s => .cons r (Vals.append t s)
theorem Vals.take : ∀ {xs : List V} {us : List Value} (n : Nat), Vals xs us → Vals (xs.take n) (us.take n)
  | _, _, 0, _ => .nil
  | _, _, _ + 1, .nil => .nil
  | _, _, n + 1, .cons r t => .cons r (Vals.take n t)
theorem Vals.drop : ∀ {xs : List V} {us : List Value} (n : Nat), Vals xs us → Vals (xs.drop n) (us.drop n)
  | _, _, 0, r => r
  | _, _, _ + 1, .nil => .nil
  | _, _, n + 1, .cons _ t => Vals.drop n t
noncomputable def RelO : Option V → Option Value → Prop
  | some v, some u => RelV v u
  | none, none => True
  | _, _ => False
noncomputable def KV {κ : Type} : List (κ × V) → List (κ × Value) → Prop := Paired fun (p : κ × V) (q : κ × Value) => p.1 = q.1 ∧ RelV p.2 q.2

noncomputable def kV : Key → V
  | .inl i => .int i
  | .inr x => .str x

noncomputable def PTup (h : Heap) (a : Addr) (items : Array Value) : Prop := ∃ o, h.get? a = some o ∧ o.cls = .type "tuple" ∧ (∃ n, o.data = .seq items n) ∧ o.dict = none
theorem PTup.lt {h : Heap} {a : Addr} {items : Array Value} (x : PTup h a items) : a < h.objs.size := let ⟨_, e, _⟩ := x; Heap.lt_size e
theorem PTup.isTup {h : Heap} {a : Addr} {items : Array Value} (x : PTup h a items) : IsTup h a items := let ⟨o, e, c, n, _⟩ := x; ⟨o, e, c, n⟩
theorem PTup.new (h : Heap) (items : Array Value) : PTup (h.push { cls := .type "tuple", data := .seq items }) h.objs.size items := ⟨_, Heap.get?_push_size _ rfl, rfl, ⟨_, rfl⟩, rfl⟩
inductive HO where
  /-- a list -/
  | lst (xs : List V)
  /-- a tuple (never changes) -/
  | tup (xs : List V)
  /-- a dict whose keys are ints and texts; one whose keys are tuples of ints and texts (the empty one is both) -/
  | dK (kvs : List (Key × V)) | dT (kvs : List (List Key × V))
  /-- a set of ints: its members, its size -/
  | set (S : Int → Bool) (n : Nat)
  /-- an instance of the class at C, its dict at dx, its attributes -/
  | ins (C dx : Addr) (fs : List (Str × V))
  /-- the dict of the instance at x -/
  | own (x : Addr)
  /-- the dict of an exception -/
  | xd (fs : List (Str × V))
  /-- a bound method, f of x -/
  | met (f x : Addr)
  /-- a range object lo, lo + 1, .. below hi -/
  | rng (lo hi : Int)
  /-- a thing that is known to the object (the script; a dict while a loop walks it): read, never written while it is so -/
  | frz (o : Obj) (u : HO)
  /-- a code object's table -/
  | tbl (ps : Array Value)
  /-- any other thing, by what is true of its one object (a def of one's own: SetO a S n := HO.ext fun h => ..) -/
  | ext (φ : Heap → Prop)

noncomputable abbrev Hp := Addr → Option HO
noncomputable def upd (H : Hp) (a : Addr) (o : HO) : Hp := fun b => if b = a then some o else H b
theorem upd_same {H : Hp} {a : Addr} {o : HO} : upd H a o a = some o := by unfold upd; rw [if_pos rfl]
theorem upd_ne {H : Hp} {a b : Addr} {o : HO} (h : b ≠ a) : upd H a o b = H b := by unfold upd; rw [if_neg h]
theorem ne_of {H : Hp} {a b : Addr} {o u : HO} (h : H a = some o) (h' : H b = some u) (d : o ≠ u) : a ≠ b := by
  intro e; subst e; rw [h] at h'; exact d (Option.some.inj h')
theorem ne_of_none {H : Hp} {a b : Addr} {o : HO} (h : H a = some o) (h' : H b = none) : a ≠ b := by
  intro e; subst e; rw [h] at h'; cases h'

section
variable (P : Program) (w : World)
noncomputable def ObjOk (H : Hp) (h : Heap) (a : Addr) : HO → Prop
  | .lst xs => xs.length ≤ sizeLine ∧ ∃ (its : List Value) (n : Nat), Vals xs its ∧ h.get? a = some { cls := .type "list", data := .seq its.toArray n }
  | .tup xs => xs.length ≤ sizeLine ∧ ∃ its : List Value, Vals xs its ∧ PTup h a its.toArray
  | .dK kvs => kvs.length ≤ sizeLine ∧ (a == sysModules) = false ∧ ∃ vs, KV kvs vs ∧ h.DictOf (mixKind P w) a vs
  | .dT kvs => kvs.length ≤ sizeLine ∧ (a == sysModules) = false ∧ ∃ xs : List (List Key × Addr × Value),
      Paired (fun (p : List Key × V) (q : List Key × Addr × Value) => p.1 = q.1 ∧ H q.2.1 = some (.tup (p.1.map kV)) ∧ RelV p.2 q.2.2) kvs xs ∧
      ∃ o es ep, h.get? a = some o ∧ o.ExactDict ∧ o.data = .dict es ep ∧ es.toList = xs.map (entryOfKey (tupleKind (mixKind P w))) ∧ (xs.map (·.1)).Nodup
  | .set S n => h.SetOf (intKind P w) a S n
  | .ins C dx fs => H dx = some (.own a) ∧ fs.length ≤ 1000 ∧ dx ≠ a ∧ h.get? a = some (PySem.W.instObj C dx) ∧
      ∃ mA, h.Ns1 dx mA ∧ (∀ f, RelO (fs.lookup f) (mA f)) ∧ PySem.Within mA (fs.map (·.1))
  | .own _ => ∃ o, h.get? a = some o
  | .xd fs => ∃ mA, h.Ns1 a mA ∧ ∀ f, RelO (fs.lookup f) (mA f)
  | .rng lo hi => ∃ t u v, h.get? a = some { cls := .type "range", data := .fields #[.int lo t, .int hi u, .int 1 v] }
  | .frz o u => h.get? a = some o ∧ ObjOk H h a u
  | .tbl ps => h.get? a = some { cls := .none, data := .fields ps }
  | .met f x => h.get? a = some (PySem.W.methodObj (.ref f) (.ref x))
  | .ext φ => φ h ∧ (∃ o, h.get? a = some o) ∧ ∀ h1 h2 : Heap, φ h1 → (∀ o, h1.get? a = some o → h2.get? a = some o) → φ h2
noncomputable def HOk (H : Hp) (h : Heap) : Prop := ∀ a o, H a = some o → ObjOk P w H h a o
end

section
variable {P : Program} {w : World} {H H' : Hp} {h h' : Heap} {a : Addr} {o : HO}
theorem ObjOk.lt (x : ObjOk P w H h a o) : a < h.objs.size := by
  cases o with
  | lst xs => obtain ⟨_, _, _, _, e⟩ := x; exact Heap.lt_size e
  | tup xs => obtain ⟨_, _, _, p⟩ := x; exact p.lt
  | dK kvs => obtain ⟨_, _, _, _, o, _, _, e, _⟩ := x; exact Heap.lt_size e
  | dT kvs => obtain ⟨_, _, _, _, o, _, _, e, _⟩ := x; exact Heap.lt_size e
  | set S n => obtain ⟨o, _, _, _, e, _⟩ := x; exact Heap.lt_size e
  | ins C dx fs => obtain ⟨_, _, _, e, _⟩ := x; exact Heap.lt_size e
  | own y => obtain ⟨_, e⟩ := x; exact Heap.lt_size e
  | xd fs => obtain ⟨_, ⟨_, _, _, e, _⟩, _⟩ := x; exact Heap.lt_size e
  | rng lo hi => obtain ⟨_, _, _, e⟩ := x; exact Heap.lt_size e
  | frz ob u => obtain ⟨e, _⟩ := x; exact Heap.lt_size e
  | tbl ps => exact Heap.lt_size (show h.get? a = some _ from x)
  | met f y => exact Heap.lt_size (show h.get? a = some _ from x)
  | ext φ => obtain ⟨_, ⟨_, e⟩, _⟩ := x; exact Heap.lt_size e
theorem Paired.mapP {α β : Type} {F G : α → β → Prop} : ∀ {l₁ : List α} {l₂ : List β}, Paired F l₁ l₂ → (∀ a b, F a b → G a b) → Paired G l₁ l₂
  | _, _, .nil, _ => .nil
  | _, _, .cons r t, f => .cons (f _ _ r) (Paired.mapP t f)
theorem ObjOk.stay (x : ObjOk P w H h a o) (k : ∀ b u, (b = a ∨ H b = some (.own a)) → h.get? b = some u → h'.get? b = some u)
    (ho : ∀ b, H b = some (.own a) → H' b = some (.own a)) (ht : ∀ b xs, H b = some (.tup xs) → H' b = some (.tup xs)) : ObjOk P w H' h' a o := by
  induction o with
  | lst xs => obtain ⟨z, its, n, r, e⟩ := x; exact ⟨z, its, n, r, k _ _ (.inl rfl) e⟩
  | tup xs => obtain ⟨z, its, r, ob, e, c⟩ := x; exact ⟨z, its, r, ob, k _ _ (.inl rfl) e, c⟩
  | dK kvs => obtain ⟨z, y, vs, r, ob, es, ep, e, c⟩ := x; exact ⟨z, y, vs, r, ob, es, ep, k _ _ (.inl rfl) e, c⟩
  | dT kvs =>
    obtain ⟨z, y, xs, r, ob, es, ep, e, c⟩ := x
    exact ⟨z, y, xs, Paired.mapP r fun p q z => ⟨z.1, ht _ _ z.2.1, z.2.2⟩, ob, es, ep, k _ _ (.inl rfl) e, c⟩
  | set S n => obtain ⟨ob, es, ep, t, e, c⟩ := x; exact ⟨ob, es, ep, t, k _ _ (.inl rfl) e, c⟩
  | ins C dx fs =>
    obtain ⟨d, z, ne, e, mA, ⟨od, es, ep, e2, c⟩, r⟩ := x
    exact ⟨ho _ d, z, ne, k _ _ (.inl rfl) e, mA, ⟨od, es, ep, k _ _ (.inr d) e2, c⟩, r⟩
  | own y => obtain ⟨ob, e⟩ := x; exact ⟨ob, k _ _ (.inl rfl) e⟩
  | xd fs => obtain ⟨mA, ⟨od, es, ep, e, c⟩, r⟩ := x; exact ⟨mA, ⟨od, es, ep, k _ _ (.inl rfl) e, c⟩, r⟩
  | rng lo hi => obtain ⟨t, u, v, e⟩ := x; exact ⟨t, u, v, k _ _ (.inl rfl) e⟩
  | frz ob u ih => obtain ⟨e, q⟩ := x; exact ⟨k _ _ (.inl rfl) e, ih q⟩
  | tbl ps =>
    have e : h.get? a = some { cls := .none, data := .fields ps } := x
    show h'.get? a = some { cls := .none, data := .fields ps }
    exact k a _ (.inl rfl) e
  | met f y =>
    have e : h.get? a = some (PySem.W.methodObj (.ref f) (.ref y)) := x
    show h'.get? a = some (PySem.W.methodObj (.ref f) (.ref y))
    exact k a _ (.inl rfl) e
  | ext φ => obtain ⟨p, ⟨o, e⟩, st⟩ := x; exact ⟨st _ _ p fun o q => k _ _ (.inl rfl) q, ⟨o, k _ _ (.inl rfl) e⟩, st⟩
theorem HOk.lt (x : HOk P w H h) (e : H a = some o) : a < h.objs.size := (x a o e).lt
theorem HOk.fresh (x : HOk P w H h) (e : h.objs.size ≤ a) : H a = none := by
  cases q : H a with
  | none => rfl
  | some u => exact absurd (Nat.lt_of_lt_of_le (x.lt q) e) (Nat.lt_irrefl _)
theorem HOk.kept (x : HOk P w H h) (k : ∀ b u, h.get? b = some u → h'.get? b = some u) : HOk P w H h' := fun a o e =>
  (x a o e).stay (fun b u _ q => k b u q) (fun _ q => q) fun _ _ q => q
theorem HOk.laid (x : HOk P w H h) (k : ∀ b u, h.get? b = some u → h'.get? b = some u) (hp : h.objs.size ≤ a) (new : ObjOk P w (upd H a o) h' a o) : HOk P w (upd H a o) h' := fun b u e => by
  have hn := x.fresh hp
  by_cases hb : b = a
  · subst hb; rw [upd_same] at e; cases e; exact new
  · rw [upd_ne hb] at e
    exact (x b u e).stay (fun c v _ q => k c v q) (fun c q => by rw [upd_ne (ne_of_none q hn)]; exact q) fun c xs q => by rw [upd_ne (ne_of_none q hn)]; exact q
end

noncomputable def Rd (H : Hp) (a : Addr) (u : HO) : Prop := H a = some u ∨ ∃ o, H a = some (.frz o u)
theorem Rd.ok {P : Program} {w : World} {H : Hp} {h : Heap} {a : Addr} {u : HO} (r : Rd H a u) (x : HOk P w H h) : ObjOk P w H h a u := by
  rcases r with r | ⟨o, r⟩
  · exact x a u r
  · obtain ⟨_, q⟩ := x a _ r
    exact q
noncomputable def Mut : Option HO → Prop
  | some (.lst _) => True
  | some (.dK _) => True
  | some (.dT _) => True
  | some (.set _ _) => True
  | some (.ins _ _ _) => True
  | some (.ext _) => True
  | _ => False
section
variable {P : Program} {w : World} {H : Hp} {h h' : Heap} {x e : Addr} {o' : HO}
theorem HOk.write (ok : HOk P w H h) (mu : Mut (H x)) (he : e = x ∨ H e = some (.own x)) (k : ∀ b u, b ≠ e → h.get? b = some u → h'.get? b = some u) (heo : ∃ u, h'.get? e = some u)
    (new : ObjOk P w (upd H x o') h' x o') : HOk P w (upd H x o') h' := fun b u q => by
  have nown : ∀ c y, H c = some (.own y) → c ≠ x := fun c y r z => by subst z; rw [r] at mu; exact mu
  have ntup : ∀ c xs, H c = some (.tup xs) → c ≠ x := fun c xs r z => by subst z; rw [r] at mu; exact mu
  by_cases hb : b = x
  · subst hb; rw [upd_same] at q; cases q; exact new
  · rw [upd_ne hb] at q
    by_cases hbe : b = e
    · have q' : H b = some (.own x) := by
        rcases he with z | z
        · exact absurd (hbe.trans z) hb
        · rw [hbe]; exact z
      rw [q] at q'; cases q'
      obtain ⟨v, hv⟩ := heo
      exact ⟨v, by rw [hbe]; exact hv⟩
    · refine (ok b u q).stay (fun c v hc r => k c v ?_ r) (fun c r => by rw [upd_ne (nown c b r)]; exact r) fun c xs r => by rw [upd_ne (ntup c xs r)]; exact r
      rcases hc with rfl | hc
      · exact hbe
      · rintro rfl
        rcases he with z | z
        · exact nown c b hc z
        · rw [hc] at z; cases z; exact hb rfl
end

structure Un (fs ex : List Addr) (H H' : Hp) (h h' : Heap) : Prop where
  keep : ∀ b o, h.get? b = some o → H b = none → b ∉ fs → b ∉ ex → h'.get? b = some o
  slot : ∀ b o, h.get? b = some o → H b = none → b ∈ fs → b ∉ ex → ∃ sl, h'.get? b = some { o with slots := sl }
  free : ∀ b o, h.get? b = some o → H b = none → b ∉ ex → H' b = none
  there : ∀ b o, h.get? b = some o → b ∉ ex → ∃ o', h'.get? b = some o'
  tups : ∀ b xs, H b = some (.tup xs) → H' b = some (.tup xs)
  frzs : ∀ b o u, H b = some (.frz o u) → H' b = some (.frz o u)
  tbls : ∀ b ps, H b = some (.tbl ps) → ∃ more, H' b = some (.tbl (ps ++ more))
section
variable {fs fs' ex ex' : List Addr} {H H1 H2 : Hp} {h h1 h2 h' : Heap} {a x e : Addr} {o : HO}
theorem Un.any (u : Un fs ex H H1 h h1) {b : Addr} {ob : Obj} (q : h.get? b = some ob) (n : H b = none) (hx : b ∉ ex) : ∃ sl, h1.get? b = some { ob with slots := sl } := by
  by_cases hb : b ∈ fs
  · exact u.slot b ob q n hb hx
  · exact ⟨ob.slots, u.keep b ob q n hb hx⟩
theorem Un.kept (k : ∀ b u, h.get? b = some u → h'.get? b = some u) : Un fs ex H H h h' :=
  ⟨fun b ob q _ _ _ => k b ob q, fun b ob q _ _ _ => ⟨ob.slots, k b ob q⟩, fun _ _ _ n _ => n, fun b ob q _ => ⟨ob, k b ob q⟩, fun _ _ q => q, fun _ _ _ q => q, fun _ ps q => ⟨#[], by rw [q]; simp⟩⟩
theorem Un.refl : Un fs ex H H h h := Un.kept fun _ _ q => q
theorem Un.laid (k : ∀ b u, h.get? b = some u → h'.get? b = some u) (hp : h.objs.size ≤ a) (hn : H a = none) : Un fs ex H (upd H a o) h h' where
  keep := fun b u q _ _ _ => k b u q
  slot := fun b u q _ _ _ => ⟨u.slots, k b u q⟩
  free := fun b u q n _ => by rw [upd_ne (Nat.ne_of_lt (Nat.lt_of_lt_of_le (Heap.lt_size q) hp))]; exact n
  there := fun b u q _ => ⟨u, k b u q⟩
  tups := fun b xs q => by rw [upd_ne (ne_of_none q hn)]; exact q
  frzs := fun b u xs q => by rw [upd_ne (ne_of_none q hn)]; exact q
  tbls := fun b ps q => ⟨#[], by rw [upd_ne (ne_of_none q hn), q]; simp⟩
theorem Un.write (mu : Mut (H x)) (he : e = x ∨ H e = some (.own x)) (k : ∀ b u, b ≠ e → h.get? b = some u → h'.get? b = some u) (heo : ∃ u, h'.get? e = some u) : Un fs ex H (upd H x o) h h' := by
  have hx : ∀ b, H b = none → b ≠ x := fun b n z => by subst z; rw [n] at mu; exact mu
  have hb : ∀ b, H b = none → b ≠ e := fun b n z => by
    subst z
    rcases he with r | r
    · exact hx b n r
    · rw [n] at r; cases r
  have hm : ∀ b u, H b = some u → ¬ Mut (some u) → b ≠ x := fun b u q nm z => by subst z; rw [q] at mu; exact nm mu
  refine ⟨fun b u q n _ _ => k b u (hb b n) q, fun b u q n _ _ => ⟨u.slots, k b u (hb b n) q⟩, fun b u q n _ => by rw [upd_ne (hx b n)]; exact n, fun b u q _ => ?_,
    fun b xs q => by rw [upd_ne (hm b _ q fun z => z)]; exact q, fun b u xs q => by rw [upd_ne (hm b _ q fun z => z)]; exact q, fun b ps q => ⟨#[], by rw [upd_ne (hm b _ q fun z => z), q]; simp⟩⟩
  by_cases hbe : b = e
  · subst hbe; exact heo
  · exact ⟨u, k b u hbe q⟩
end

noncomputable def trk (h : Heap) (H : Hp) : List Addr := (List.range h.objs.size).filter fun a => (H a).isSome
noncomputable def hidT (h : Heap) (H : Hp) : Heap := PySem.W.hideAll h (trk h H)
theorem hidT_size (h : Heap) (H : Hp) : (hidT h H).objs.size = h.objs.size := PySem.W.hideAll_size _ _
theorem hidT_get {h : Heap} {H : Hp} {b : Addr} {o : Obj} (e : h.get? b = some o) (n : H b = none) : (hidT h H).get? b = some o :=
  PySem.W.hideAll_get _ e fun hm => by
    have q : (H b).isSome = true := (List.mem_filter.mp hm).2
    rw [n] at q; simp at q
theorem of_hidT {h : Heap} {H : Hp} {b : Addr} {o : Obj} (e : (hidT h H).get? b = some o) : h.get? b = some o ∧ H b = none := by
  have e' : h.get? b = some o := PySem.W.of_hideAll (trk h H) e
  refine ⟨e', ?_⟩
  cases q : H b with
  | none => rfl
  | some x =>
    have hm : b ∈ trk h H := List.mem_filter.mpr ⟨List.mem_range.mpr (Heap.lt_size e'), by simp [q]⟩
    have z : (hidT h H).get? b = none := PySem.W.hideAll_none (trk h H) hm
    rw [z] at e; cases e

end L2

namespace L2
open PySem PySem.Spec PyProof.Rows

structure Mod (K : PySem.W.Frag) (mg : Str → Option Value) (base : Heap) : Prop where
  kin : K.In base
  glob : base.Ns mainGlobals mg
  blt : ∃ mb, base.Ns builtinsNs mb ∧ ∀ x : Str, x ≠ "__name__" → mb x = bootBuiltins x
  nolimit : base.NoLimit

structure Cx where
  prog : Program
  w : World
  K : PySem.W.Frag
  mg : Str → Option Value
  base : Heap
  A : Around
  N : List Str
  s₀ : Shared
  H₀ : Hp
  env : Env
  outer : List Env
  stack : List Env
  ex : List Addr
  fn : Str → Bool
  calm : Bool
  pn : List (Addr × Obj)
  xe : Value → Shared → Prop
noncomputable def frs (l : List Env) : List Addr := l.filterMap (·.frame)
noncomputable abbrev Cx.fs (X : Cx) : List Addr := frs X.outer

noncomputable def Vis (sc : Scope) (x : Str) : Prop := sc.names.lookup x = some .local ∨ sc.names.lookup x = some .cell ∨ sc.names.lookup x = some .free
noncomputable def Loc (sc : Scope) (x : Str) : Prop := sc.names.lookup x = some .local ∨ sc.names.lookup x = some .cell
noncomputable def Look (env : Env) (h : Heap) (m : Str → Option Value) (x : Str) (u : Value) : Prop :=
  (env.kindOf x = some .local ∧ m x = some u) ∨ ((env.kindOf x = some .cell ∨ env.kindOf x = some .free) ∧ ∃ c, env.cells.lookup x = some c ∧ h.IsCell c (some u))

structure Cx.Ok (X : Cx) : Prop where
  mod : Mod X.K X.mg X.base
  kind : X.env.scope.kind = .function
  glob : X.env.globals = mainGlobals
  blt : X.env.builtins = builtinsNs
  above : X.s₀.heap.objs.size ≤ X.env.locals
  inj : ∀ x y c, X.env.cells.lookup x = some c → X.env.cells.lookup y = some c → x = y
  has : ∀ x, (X.env.kindOf x = some .cell ∨ X.env.kindOf x = some .free) → ∃ c, X.env.cells.lookup x = some c
  cab : ∀ x c, X.fn x = true → X.env.cells.lookup x = some c → X.s₀.heap.objs.size ≤ c
  hd : X.calm = true → X.A.handled = none
  frames : X.A.frames = some X.stack
  stk : X.stack = X.outer ∨ (X.stack = X.env :: X.outer ∧ X.env.frame = some X.env.locals)
  exf : ∀ b ∈ X.ex, b ≠ X.env.locals ∧ ∀ x c, X.env.cells.lookup x = some c → c ≠ b
  bs : ∀ b o, X.base.get? b = some o → X.s₀.heap.get? b = some o ∧ X.H₀ b = none
  bsz : X.base.objs.size ≤ X.s₀.heap.objs.size
  noex : ∀ b o, X.base.get? b = some o → b ∉ X.ex
  exfs : ∀ b ∈ X.ex, b ∉ X.fs
  funs : X.s₀.heap.FunFrames X.base X.outer
  frf : ∀ b ∈ X.fs, X.H₀ b = none

structure Inv (X : Cx) (pins : List (Addr × Obj)) (σ : List (Option V)) (H : Hp) (s : Shared) : Prop where
  ok : X.Ok
  os : s.os = X.s₀.os
  bare : AllBare s.gens
  base : Un X.fs X.ex X.H₀ H X.s₀.heap s.heap
  loc : ∃ m, s.heap.Ns X.env.locals m ∧ ∀ (i : Nat) (x : Str) (v : V), X.N[i]? = some x → σ[i]? = some (some v) → Vis X.env.scope x → ∃ u, RelV v u ∧ Look X.env s.heap m x u
  cell : ∀ x c, X.env.cells.lookup x = some c → ∃ v, s.heap.IsCell c v
  free : H X.env.locals = none
  freeC : ∀ x c, X.env.cells.lookup x = some c → H c = none
  pin : ∀ p ∈ X.pn ++ pins, s.heap.get? p.1 = some p.2 ∧ H p.1 = none ∧ p.1 ≠ X.env.locals ∧ p.1 ∉ X.fs ∧ ∀ v, p.2.data ≠ .cell v
  hok : HOk X.prog X.w H s.heap
  len : σ.length = X.N.length

section
variable {X : Cx} {pins : List (Addr × Obj)} {σ : List (Option V)} {H H' : Hp} {s : Shared} {h' : Heap}

theorem Cx.Ok.nofr (ok : X.Ok) {b : Addr} {o : Obj} (e : X.base.get? b = some o) : b ∉ X.fs := fun hb => by
  have := (ok.funs.mem hb).1
  rw [e] at this; cases this
theorem Inv.bs (I : Inv X pins σ H s) : ∀ b o, X.base.get? b = some o → s.heap.get? b = some o ∧ H b = none := fun b o e =>
  ⟨I.base.keep b o (I.ok.bs b o e).1 (I.ok.bs b o e).2 (I.ok.nofr e) (I.ok.noex b o e), I.base.free b o (I.ok.bs b o e).1 (I.ok.bs b o e).2 (I.ok.noex b o e)⟩
theorem Inv.bk (I : Inv X pins σ H s) : ∀ b o, X.base.get? b = some o → s.heap.get? b = some o := fun b o e => (I.bs b o e).1
theorem Inv.mod (I : Inv X pins σ H s) : Mod X.K X.mg X.base := I.ok.mod
theorem Inv.kIn (I : Inv X pins σ H s) : X.K.In s.heap := I.ok.mod.kin.keeps I.bk
theorem Inv.lt (I : Inv X pins σ H s) : X.env.locals < s.heap.objs.size := let ⟨_, hn, _⟩ := I.loc; hn.lt
theorem Inv.sz (I : Inv X pins σ H s) : X.s₀.heap.objs.size ≤ s.heap.objs.size := Nat.le_trans I.ok.above (Nat.le_of_lt I.lt)
theorem Inv.nofs (I : Inv X pins σ H s) {a : Addr} (h : s.heap.objs.size ≤ a) : a ∉ X.fs := fun hb => by
  obtain ⟨_, o, ho, _⟩ := I.ok.funs.mem hb
  exact absurd (Nat.lt_of_lt_of_le (Heap.lt_size ho) (Nat.le_trans I.sz h)) (Nat.lt_irrefl _)
theorem Inv.cne (I : Inv X pins σ H s) : ∀ x c, X.env.cells.lookup x = some c → c ≠ X.env.locals := fun x c e z => by
  obtain ⟨v, o, ho, hd⟩ := I.cell x c e
  obtain ⟨m, ⟨o', es, ep, ho', hd', _⟩, _⟩ := I.loc
  rw [z, ho'] at ho; cases ho; rw [hd'] at hd; cases hd
theorem Inv.funs (I : Inv X pins σ H s) : s.heap.FunFrames X.base X.outer := by
  have all : ∀ (l : List Env), (∀ b ∈ frs l, b ∈ X.fs) → X.s₀.heap.FunFrames X.base l → s.heap.FunFrames X.base l := by
    intro l
    induction l with
    | nil => intro _ _; trivial
    | cons env r ih =>
      intro hs hl
      obtain ⟨hk, ⟨L, o, hf, hn, ho, hd⟩, hr⟩ := hl
      have hL : L ∈ X.fs := hs L (by unfold frs; rw [List.filterMap_cons, hf]; exact List.mem_cons_self)
      obtain ⟨sl, e⟩ := I.base.slot L o ho (I.ok.frf L hL) hL fun z => I.ok.exfs L z hL
      exact ⟨hk, ⟨L, _, hf, hn, e, hd⟩, ih (fun b hb => hs b (by unfold frs; rw [List.filterMap_cons, hf]; exact List.mem_cons_of_mem _ hb)) hr⟩
  exact all X.outer (fun _ hb => hb) I.ok.funs

theorem Inv.stack (I : Inv X pins σ H s) : s.heap.FunFrames X.base X.stack := by
  rcases I.ok.stk with e | ⟨e, hf⟩
  · rw [e]; exact I.funs
  · rw [e]
    obtain ⟨m, hn, _⟩ := I.loc
    refine .cons (by rw [I.ok.kind]; decide) hf hn ?_ I.funs
    exact Heap.get?_none_of_le (Nat.le_trans I.ok.bsz I.ok.above)
theorem Inv.stkSub (I : Inv X pins σ H s) : ∀ b ∈ frs X.stack, b ∈ X.env.locals :: X.fs := fun b hb => by
  rcases I.ok.stk with e | ⟨e, hf⟩
  · rw [e] at hb; exact List.mem_cons_of_mem _ hb
  · rw [e] at hb
    unfold frs at hb
    rw [List.filterMap_cons, hf] at hb
    exact hb
theorem Inv.stkFree (I : Inv X pins σ H s) : ∀ b ∈ frs X.stack, H b = none := fun b hb => by
  rcases List.mem_cons.mp (I.stkSub b hb) with e | hb
  · rw [e]; exact I.free
  · obtain ⟨_, o, ho, _⟩ := I.ok.funs.mem hb
    exact I.base.free b o ho (I.ok.frf b hb) fun z => I.ok.exfs b z hb

theorem Inv.step {g' : Array GenState} {t' : Nat} {d' : Drawn} {ch : List Addr} (I : Inv X pins σ H s)
    (hch : ∀ b ∈ ch, (b ∈ X.ex ∨ X.s₀.heap.objs.size ≤ b) ∧ b ≠ X.env.locals ∧ (∀ x c, X.env.cells.lookup x = some c → c ≠ b) ∧ ∀ p ∈ X.pn ++ pins, p.1 ≠ b)
    (keep : ∀ b o, b ≠ X.env.locals → b ∉ X.fs → b ∉ ch → s.heap.get? b = some o → H b = none → h'.get? b = some o)
    (slot : ∀ b o, b ≠ X.env.locals → b ∈ X.fs → b ∉ ch → s.heap.get? b = some o → H b = none → ∃ sl, h'.get? b = some { o with slots := sl }) (free : ∀ b o, b ∉ ch → s.heap.get? b = some o → H b = none → H' b = none)
    (there : ∀ b o, b ∉ ch → s.heap.get? b = some o → ∃ o', h'.get? b = some o')
    (tups : ∀ b xs, H b = some (.tup xs) → H' b = some (.tup xs)) (frzs : ∀ b o u, H b = some (.frz o u) → H' b = some (.frz o u)) (tbls : ∀ b ps, H b = some (.tbl ps) → ∃ more, H' b = some (.tbl (ps ++ more)))
    (ns : ∀ m, s.heap.Ns X.env.locals m → h'.Ns X.env.locals m) (hok : HOk X.prog X.w H' h') (hg : AllBare g') :
    Inv X pins σ H' { s with heap := h', gens := g', drawn := d', toks := t' } := by
  have neL : ∀ b o, X.s₀.heap.get? b = some o → b ≠ X.env.locals := fun b o e => Nat.ne_of_lt (Nat.lt_of_lt_of_le (Heap.lt_size e) I.ok.above)
  have neC : ∀ b o, X.s₀.heap.get? b = some o → b ∉ X.ex → b ∉ ch := fun b o e hx hb => by
    rcases (hch b hb).1 with z | z
    · exact hx z
    · exact absurd (Nat.lt_of_lt_of_le (Heap.lt_size e) z) (Nat.lt_irrefl _)
  have cellK : ∀ x c, X.env.cells.lookup x = some c → ∀ v, s.heap.IsCell c v → h'.IsCell c v := fun x c e v ⟨o, ho, hd⟩ => by
    have nch : c ∉ ch := fun z => (hch c z).2.2.1 x c e rfl
    by_cases hc : c ∈ X.fs
    · obtain ⟨sl, q⟩ := slot c o (I.cne x c e) hc nch ho (I.freeC x c e)
      exact ⟨_, q, hd⟩
    · exact ⟨o, keep c o (I.cne x c e) hc nch ho (I.freeC x c e), hd⟩
  refine ⟨I.ok, I.os, hg, ⟨fun b o e n hb hx => ?_, fun b o e n hb hx => ?_, fun b o e n hx => ?_, fun b o e hx => ?_, fun b xs e => tups b xs (I.base.tups b xs e), fun b o xs e => frzs b o xs (I.base.frzs b o xs e), fun b ps e => ?_⟩, ?_, fun x c e => ?_, ?_, fun x c e => ?_, fun p hp => ?_, hok, I.len⟩
  · exact keep b o (neL b o e) hb (neC b o e hx) (I.base.keep b o e n hb hx) (I.base.free b o e n hx)
  · obtain ⟨sl, e1⟩ := I.base.slot b o e n hb hx
    obtain ⟨sl', e2⟩ := slot b _ (neL b o e) hb (neC b o e hx) e1 (I.base.free b o e n hx)
    exact ⟨sl', e2⟩
  · obtain ⟨o', e1⟩ := I.base.there b o e hx
    exact free b o' (neC b o e hx) e1 (I.base.free b o e n hx)
  · obtain ⟨o', e1⟩ := I.base.there b o e hx
    exact there b o' (neC b o e hx) e1
  · obtain ⟨m1, e1⟩ := I.base.tbls b ps e
    obtain ⟨m2, e2⟩ := tbls b _ e1
    exact ⟨m1 ++ m2, by rw [e2, Array.append_assoc]⟩
  · obtain ⟨m, hn, hl⟩ := I.loc
    refine ⟨m, ns m hn, fun i x v e1 e2 e3 => ?_⟩
    obtain ⟨u, r, l⟩ := hl i x v e1 e2 e3
    refine ⟨u, r, ?_⟩
    rcases l with l | ⟨k, c, e, z⟩
    · exact .inl l
    · exact .inr ⟨k, c, e, cellK x c e _ z⟩
  · obtain ⟨v, z⟩ := I.cell x c e
    exact ⟨v, cellK x c e v z⟩
  · obtain ⟨m, ⟨o, _, _, ho, _⟩, _⟩ := I.loc
    exact free _ o (fun z => (hch _ z).2.1 rfl) ho I.free
  · obtain ⟨v, o, ho, hd⟩ := I.cell x c e
    exact free c o (fun z => (hch c z).2.2.1 x c e rfl) ho (I.freeC x c e)
  · obtain ⟨e, n, ne, nf, d⟩ := I.pin p hp
    have nch : p.1 ∉ ch := fun z => (hch p.1 z).2.2.2 p hp rfl
    exact ⟨keep p.1 p.2 ne nf nch e n, free p.1 p.2 nch e n, ne, nf, d⟩
theorem Inv.un {t' : Nat} (I : Inv X pins σ H s) (u : Un X.fs [] H H' s.heap h') (hok : HOk X.prog X.w H' h') : Inv X pins σ H' { s with heap := h', toks := t' } := by
  obtain ⟨m, ⟨o, es, ep, ho, r⟩, _⟩ := id I.loc
  obtain ⟨sl, hL⟩ := u.any ho I.free (by simp)
  exact I.step (g' := s.gens) (d' := s.drawn) (ch := []) (fun _ z => nomatch z) (fun b o _ hb _ e n => u.keep b o e n hb (by simp)) (fun b o _ hb _ e n => u.slot b o e n hb (by simp)) (fun b o _ e n => u.free b o e n (by simp)) (fun b o _ e => u.there b o e (by simp)) u.tups u.frzs u.tbls (fun m' hm => by
    obtain ⟨o', es', ep', ho', r'⟩ := hm
    rw [ho] at ho'; cases ho'
    exact ⟨_, es', ep', hL, r'⟩) hok I.bare
theorem Inv.call {g' : Array GenState} {t' : Nat} {d' : Drawn} {ch : List Addr} (I : Inv X pins σ H s) (u : Un (frs X.stack) ch H H' s.heap h') (hok : HOk X.prog X.w H' h') (hg : AllBare g')
    (hch : ∀ b ∈ ch, (b ∈ X.ex ∨ X.s₀.heap.objs.size ≤ b) ∧ b ≠ X.env.locals ∧ (∀ x c, X.env.cells.lookup x = some c → c ≠ b) ∧ ∀ p ∈ X.pn ++ pins, p.1 ≠ b) :
    Inv X pins σ H' { s with heap := h', gens := g', drawn := d', toks := t' } := by
  obtain ⟨m, ⟨o, es, ep, ho, r⟩, _⟩ := id I.loc
  obtain ⟨sl, hL⟩ := u.any ho I.free fun z => (hch _ z).2.1 rfl
  exact I.step (ch := ch) hch (fun b o hL hb hc e n => u.keep b o e n (fun z => (List.mem_cons.mp (I.stkSub b z)).elim hL hb) hc) (fun b o _ _ hc e n => u.any e n hc) (fun b o hc e n => u.free b o e n hc) (fun b o hc e => u.there b o e hc) u.tups u.frzs u.tbls (fun m' hm => by
    obtain ⟨o', es', ep', ho', r'⟩ := hm
    rw [ho] at ho'; cases ho'
    exact ⟨_, es', ep', hL, r'⟩) hok hg
theorem Inv.turned {t' : Nat} {it : Addr} (I : Inv X pins σ H s) (k : ∀ b o, b ≠ it → s.heap.get? b = some o → h'.get? b = some o) (hn : H it = none) (hL : it ≠ X.env.locals)
    (h1 : it ∈ X.ex ∨ X.s₀.heap.objs.size ≤ it) (h2 : ∀ x c, X.env.cells.lookup x = some c → c ≠ it) (h3 : ∀ p ∈ X.pn ++ pins, p.1 ≠ it) : Inv X pins σ H { s with heap := h', toks := t' } := by
  have nit : ∀ b u, H b = some u → b ≠ it := fun b u e z => by rw [z, hn] at e; cases e
  refine I.step (g' := s.gens) (d' := s.drawn) (ch := [it]) (fun b hb => ?_) (fun b o _ _ hc e _ => k b o (fun z => hc (by simp [z])) e) (fun b o _ _ hc e _ => ⟨o.slots, k b o (fun z => hc (by simp [z])) e⟩) (fun _ _ _ _ n => n)
    (fun b o hc e => ⟨o, k b o (fun z => hc (by simp [z])) e⟩) (fun _ _ e => e) (fun _ _ _ e => e) (fun b ps e => ⟨#[], by rw [e]; simp⟩) (fun m hm => ?_) (fun b u e => ?_) I.bare
  · have e : b = it := by simpa using hb
    subst e
    exact ⟨h1, hL, h2, h3⟩
  · obtain ⟨o, es, ep, ho, r⟩ := hm
    exact ⟨o, es, ep, k _ o (Ne.symm hL) ho, r⟩
  · refine (I.hok b u e).stay (fun c v hc q => k c v ?_ q) (fun _ q => q) fun _ _ q => q
    rcases hc with z | z
    · rw [z]; exact nit b u e
    · exact nit c _ z
theorem Inv.tok (I : Inv X pins σ H s) (t : Nat) : Inv X pins σ H { s with toks := t } := I.un (h' := s.heap) (t' := t) Un.refl I.hok
theorem Inv.kept {t' : Nat} (I : Inv X pins σ H s) (k : ∀ b u, s.heap.get? b = some u → h'.get? b = some u) : Inv X pins σ H { s with heap := h', toks := t' } := I.un (Un.kept k) (I.hok.kept k)
theorem Inv.laid {a : Addr} {o : HO} {t' : Nat} (I : Inv X pins σ H s) (k : ∀ b u, s.heap.get? b = some u → h'.get? b = some u) (hp : s.heap.objs.size ≤ a) (new : ObjOk X.prog X.w (upd H a o) h' a o) :
    Inv X pins σ (upd H a o) { s with heap := h', toks := t' } := I.un (Un.laid k hp (I.hok.fresh hp)) (I.hok.laid k hp new)
theorem Inv.write {x e : Addr} {o : HO} {t' : Nat} (I : Inv X pins σ H s) (mu : Mut (H x)) (he : e = x ∨ H e = some (.own x)) (k : ∀ b u, b ≠ e → s.heap.get? b = some u → h'.get? b = some u) (heo : ∃ u, h'.get? e = some u)
    (new : ObjOk X.prog X.w (upd H x o) h' x o) : Inv X pins σ (upd H x o) { s with heap := h', toks := t' } := I.un (Un.write mu he k heo) (I.hok.write mu he k heo new)
theorem Inv.pins_of {pins' : List (Addr × Obj)} (I : Inv X pins σ H s) (h : ∀ p ∈ pins', s.heap.get? p.1 = some p.2 ∧ H p.1 = none ∧ p.1 ≠ X.env.locals ∧ p.1 ∉ X.fs ∧ ∀ v, p.2.data ≠ .cell v) : Inv X pins' σ H s :=
  ⟨I.ok, I.os, I.bare, I.base, I.loc, I.cell, I.free, I.freeC, fun p hp => (List.mem_append.mp hp).elim (fun z => I.pin p (List.mem_append_left _ z)) (h p), I.hok, I.len⟩

theorem nodup_ix {N : List Str} (hN : N.Nodup) {i j : Nat} {x : Str} (a : N[i]? = some x) (b : N[j]? = some x) : i = j := by
  obtain ⟨h1, e1⟩ := List.getElem?_eq_some_iff.mp a
  obtain ⟨h2, e2⟩ := List.getElem?_eq_some_iff.mp b
  exact (List.getElem_inj hN).mp (e1.trans e2.symm)

theorem store_ok2 {M : Model} {A : Around} {E : Value → Shared → Prop} {i : Nat} {x : Str} {v : V} {u : Value} {Q : Unit → Shared → Prop} (I : Inv X pins σ H s) (hN : X.N.Nodup) (hi : X.N[i]? = some x) (hx : Loc X.env.scope x) (r : RelV v u)
    (h : ∀ s', Inv X pins (σ.set i (some v)) H s' → (∃ a, Heap.SameBut a s.heap s'.heap ∧ (a = X.env.locals ∨ X.env.cells.lookup x = some a)) → Q () s') (hf : X.fn x = true ∨ X.env.scope.names.lookup x = some .local := by first | exact .inl rfl | exact .inr rfl | assumption) : wpAny M A (storeName X.env x u) Q E s := by
  obtain ⟨m, hn, hl⟩ := id I.loc
  have hcls : (X.env.scope.kind == .class || (X.env.scope.kind == .module && X.env.locals != X.env.globals)) = false := by rw [I.ok.kind]; rfl
  have hiσ : i < σ.length := by rw [I.len]; exact (List.getElem?_eq_some_iff.mp hi).1
  have cne := I.cne
  have tracked : ∀ {a : Addr} {h' : Heap}, (∃ o, s.heap.get? a = some o ∧ H a = none) → Heap.SameBut a s.heap h' → HOk X.prog X.w H h' := fun {a h'} ha hs b ob e => by
    obtain ⟨_, _, hfree⟩ := ha
    refine (I.hok b ob e).stay (fun c w' hc q => (hs.2 c ?_).trans q) (fun _ q => q) fun _ _ q => q
    rintro rfl
    rcases hc with rfl | hc
    · rw [hfree] at e; cases e
    · rw [hfree] at hc; cases hc
  rcases hx with hk | hk
  · refine wpAny_storeName_local hk hn (fun h' hn' hs => ?_) hcls
    obtain ⟨oL, _, _, hoL, _⟩ := id hn
    refine h _ ⟨I.ok, I.os, I.bare, ⟨fun b o e n hb hx => ?_, fun b o e n hb hx => ?_, I.base.free, fun b o e hx => ?_, I.base.tups, I.base.frzs, I.base.tbls⟩, ⟨_, hn', fun j y v' e1 e2 e3 => ?_⟩, fun y c e => ?_, I.free, I.freeC, fun p hp => ?_, tracked ⟨oL, hoL, I.free⟩ hs, by simpa using I.len⟩ ⟨_, hs, .inl rfl⟩
    · exact (hs.2 b (Nat.ne_of_lt (Nat.lt_of_lt_of_le (Heap.lt_size e) I.ok.above))).trans (I.base.keep b o e n hb hx)
    · obtain ⟨sl, e1⟩ := I.base.slot b o e n hb hx
      exact ⟨sl, (hs.2 b (Nat.ne_of_lt (Nat.lt_of_lt_of_le (Heap.lt_size e) I.ok.above))).trans e1⟩
    · obtain ⟨o', e1⟩ := I.base.there b o e hx
      exact ⟨o', (hs.2 b (Nat.ne_of_lt (Nat.lt_of_lt_of_le (Heap.lt_size e) I.ok.above))).trans e1⟩
    · by_cases hj : j = i
      · subst hj
        rw [hi] at e1; cases e1
        rw [List.getElem?_set_self hiσ] at e2
        cases e2
        exact ⟨u, r, .inl ⟨hk, by simp⟩⟩
      · rw [List.getElem?_set_ne (Ne.symm hj)] at e2
        obtain ⟨u', r', q⟩ := hl j y v' e1 e2 e3
        refine ⟨u', r', ?_⟩
        rcases q with ⟨k, e⟩ | ⟨k, c, e, z⟩
        · refine .inl ⟨k, ?_⟩
          have : y ≠ x := fun e => hj (nodup_ix hN e1 (e ▸ hi))
          simp [this, e]
        · exact .inr ⟨k, c, e, z.sameBut hs (cne y c e)⟩
    · obtain ⟨w', z⟩ := I.cell y c e
      exact ⟨w', z.sameBut hs (cne y c e)⟩
    · obtain ⟨e, n, ne, nf, d⟩ := I.pin p hp
      exact ⟨(hs.2 p.1 ne).trans e, n, ne, nf, d⟩
  · have hfn : X.fn x = true := by
      rcases hf with z | z
      · exact z
      · rw [z] at hk; cases hk
    obtain ⟨c, hc⟩ := I.ok.has x (.inl hk)
    obtain ⟨w', z⟩ := I.cell x c hc
    refine wpAny_storeName_cell I.ok.kind hk hc z (fun h' hc' hs => ?_)
    obtain ⟨oc, hoc, hocd⟩ := id z
    refine h { s with heap := h' } ⟨I.ok, I.os, I.bare, ⟨fun b o e n hb hx => ?_, fun b o e n hb hx => ?_, I.base.free, fun b o e hx => ?_, I.base.tups, I.base.frzs, I.base.tbls⟩, ⟨m, hn.sameBut hs (Ne.symm (cne x c hc)), fun j y v' e1 e2 e3 => ?_⟩, fun y c' e => ?_, I.free, I.freeC, fun p hp => ?_, tracked ⟨oc, hoc, I.freeC x c hc⟩ hs, by simpa using I.len⟩ ⟨c, hs, .inr hc⟩
    · exact (hs.2 b (Nat.ne_of_lt (Nat.lt_of_lt_of_le (Heap.lt_size e) (I.ok.cab x c hfn hc)))).trans (I.base.keep b o e n hb hx)
    · obtain ⟨sl, e1⟩ := I.base.slot b o e n hb hx
      exact ⟨sl, (hs.2 b (Nat.ne_of_lt (Nat.lt_of_lt_of_le (Heap.lt_size e) (I.ok.cab x c hfn hc)))).trans e1⟩
    · obtain ⟨o', e1⟩ := I.base.there b o e hx
      exact ⟨o', (hs.2 b (Nat.ne_of_lt (Nat.lt_of_lt_of_le (Heap.lt_size e) (I.ok.cab x c hfn hc)))).trans e1⟩
    · by_cases hj : j = i
      · subst hj
        rw [hi] at e1; cases e1
        rw [List.getElem?_set_self hiσ] at e2
        cases e2
        exact ⟨u, r, .inr ⟨.inl hk, c, hc, hc'⟩⟩
      · rw [List.getElem?_set_ne (Ne.symm hj)] at e2
        obtain ⟨u', r', q⟩ := hl j y v' e1 e2 e3
        refine ⟨u', r', ?_⟩
        rcases q with q | ⟨k, c', e, z'⟩
        · exact .inl q
        · refine .inr ⟨k, c', e, z'.sameBut hs ?_⟩
          rintro rfl
          exact hj (nodup_ix hN e1 (I.ok.inj _ _ _ e hc ▸ hi))
    · by_cases hcc : c' = c
      · subst hcc; exact ⟨_, hc'⟩
      · obtain ⟨w2, z2⟩ := I.cell y c' e
        exact ⟨w2, z2.sameBut hs hcc⟩
    · obtain ⟨e, n, ne, nf, d⟩ := I.pin p hp
      refine ⟨(hs.2 p.1 ?_).trans e, n, ne, nf, d⟩
      intro q
      rw [q, hoc] at e
      have q' : oc = p.2 := Option.some.inj e
      exact d w' (by rw [← q']; exact hocd)
theorem store_ok {M : Model} {A : Around} {E : Value → Shared → Prop} {i : Nat} {x : Str} {v : V} {u : Value} {Q : Unit → Shared → Prop} (I : Inv X pins σ H s) (hN : X.N.Nodup) (hi : X.N[i]? = some x) (hx : Loc X.env.scope x) (r : RelV v u)
    (h : ∀ s', Inv X pins (σ.set i (some v)) H s' → Q () s') (hf : X.fn x = true ∨ X.env.scope.names.lookup x = some .local := by first | exact .inl rfl | exact .inr rfl | assumption) : wpAny M A (storeName X.env x u) Q E s :=
  store_ok2 I hN hi hx r (fun s' I' _ => h s' I') hf
theorem Inv.call' {s' : Shared} {ch : List Addr} (I : Inv X pins σ H s) (ho : s'.os = s.os) (u : Un (frs X.stack) ch H H' s.heap s'.heap) (hok : HOk X.prog X.w H' s'.heap) (hg : AllBare s'.gens)
    (hch : ∀ b ∈ ch, (b ∈ X.ex ∨ X.s₀.heap.objs.size ≤ b) ∧ b ≠ X.env.locals ∧ (∀ x c, X.env.cells.lookup x = some c → c ≠ b) ∧ ∀ p ∈ X.pn ++ pins, p.1 ≠ b) : Inv X pins σ H' s' := by
  obtain ⟨h', g', d', t', o'⟩ := s'
  have e : o' = s.os := ho
  subst e
  exact I.call (g' := g') (t' := t') (d' := d') u hok hg hch
end

noncomputable abbrev XK := Value → Option Addr → Hp → Prop
noncomputable abbrev St := List (Option V)
noncomputable abbrev VK := V → Hp → Prop
noncomputable abbrev TE := St → Hp → VK → Prop
noncomputable abbrev TT := St → Hp → (Bool → Hp → Prop) → Prop
noncomputable abbrev TA := St → Hp → (List V → Hp → Prop) → Prop
structure Ends where
  nx : St → Hp → Prop
  rt : VK
  bk : St → Hp → Prop := fun _ _ => False
  ct : St → Hp → Prop := fun _ _ => False
noncomputable abbrev TS := Ends → St → Hp → Prop

noncomputable def EP (X : Cx) (pins : List (Addr × Obj)) (σ : St) (Q : VK) (u : Value) (s' : Shared) : Prop := ∃ v H', Inv X pins σ H' s' ∧ RelV v u ∧ Q v H'
noncomputable def TP (X : Cx) (pins : List (Addr × Obj)) (σ : St) (Q : Bool → Hp → Prop) (b : Bool) (s' : Shared) : Prop := ∃ H', Inv X pins σ H' s' ∧ Q b H'
noncomputable def AP (X : Cx) (pins : List (Addr × Obj)) (σ : St) (Q : List V → Hp → Prop) (us : List Value) (s' : Shared) : Prop := ∃ vs H', Inv X pins σ H' s' ∧ Vals vs us ∧ Q vs H'
noncomputable def SP (X : Cx) (pins : List (Addr × Obj)) (D : Ends) (f : Flow) (s' : Shared) : Prop :=
  match f with
  | .next => ∃ σ' H', Inv X pins σ' H' s' ∧ D.nx σ' H'
  | .brk => ∃ σ' H', Inv X pins σ' H' s' ∧ D.bk σ' H'
  | .cont => ∃ σ' H', Inv X pins σ' H' s' ∧ D.ct σ' H'
  | .ret u => ∃ v σ' H', Inv X pins σ' H' s' ∧ RelV v u ∧ D.rt v H'

noncomputable def PE (X : Cx) (e : Expr) (t : TE) : Prop :=
  ∀ (pins : List (Addr × Obj)) (s : Shared) (σ : St) (H : Hp) (Q : VK), Inv X pins σ H s → t σ H Q → wpAny (model X.prog X.w) X.A (eval e X.env) (EP X pins σ Q) X.xe s
noncomputable def PT (X : Cx) (e : Expr) (t : TT) : Prop :=
  ∀ (pins : List (Addr × Obj)) (s : Shared) (σ : St) (H : Hp) (Q : Bool → Hp → Prop), Inv X pins σ H s → t σ H Q → wpAny (model X.prog X.w) X.A (isTrue e X.env (eval e X.env)) (TP X pins σ Q) X.xe s
noncomputable def PW (X : Cx) (e : Expr) (t : TT) : Prop :=
  ∀ (whole : Sem Value) (pins : List (Addr × Obj)) (s : Shared) (σ : St) (H : Hp) (Q : Bool → Hp → Prop), Inv X pins σ H s → t σ H Q → wpAny (model X.prog X.w) X.A (isTrue e X.env whole) (TP X pins σ Q) X.xe s
theorem PW.pt {X : Cx} {e : Expr} {t : TT} (h : PW X e t) : PT X e t := h _
noncomputable def PA (X : Cx) (es : List Expr) (t : TA) : Prop :=
  ∀ (pos : Pos) (pins : List (Addr × Obj)) (s : Shared) (σ : St) (H : Hp) (Q : List V → Hp → Prop), Inv X pins σ H s → t σ H Q → wpAny (model X.prog X.w) X.A (spliced (backTo pos (starEach es X.env))) (AP X pins σ Q) X.xe s
noncomputable def PS (X : Cx) (st : Stmt) (t : TS) : Prop :=
  ∀ (pins : List (Addr × Obj)) (s : Shared) (σ : St) (H : Hp) (D : Ends), Inv X pins σ H s → t D σ H → wpAny (model X.prog X.w) X.A (exec st X.env) (SP X pins D) X.xe s
noncomputable def PSs (X : Cx) (st : List Stmt) (t : TS) : Prop :=
  ∀ (pins : List (Addr × Obj)) (s : Shared) (σ : St) (H : Hp) (D : Ends), Inv X pins σ H s → t D σ H → wpAny (model X.prog X.w) X.A (execs st X.env) (SP X pins D) X.xe s
theorem thn {α : Type} {t : Sem α} {Q Q' : α → Shared → Prop} {M : Model} {A : Around} {E : Value → Shared → Prop} {s : Shared} (h : wpAny M A t Q E s) (hQ : ∀ a s, Q a s → Q' a s) : wpAny M A t Q' E s := wpAny_mono h hQ fun _ _ x => x
end L2

namespace L2
open PySem PySem.Spec PyProof.Rows
section
variable {X : Cx}

noncomputable def tVar (i : Nat) : TE := fun σ H Q => ∃ v, σ[i]? = some (some v) ∧ Q v H
noncomputable def tC (v : V) : TE := fun _ H Q => Q v H
theorem pe_var {i : Nat} {x : Str} {pos : Pos} (hN : X.N[i]? = some x) (hv : Vis X.env.scope x) (hd : (x == ("__debug__" : Str)) = false := by decide) (hcd : (x == ("__classdict__" : Str)) = false := by decide) : PE X (.Name x pos) (tVar i) := by
  intro pins s σ H Q I h
  obtain ⟨v, e, h⟩ := h
  obtain ⟨m, hn, hl⟩ := I.loc
  obtain ⟨u, r, l⟩ := hl i x v hN e hv
  have fin : EP X pins σ Q u s := ⟨v, H, I, r, h⟩
  rcases l with ⟨hk, hm⟩ | ⟨hk, c, hc, hcell⟩
  · exact wpAny_Name (wpAny_loadName_local I.ok.kind hk hn hm fin) hd
  · rcases hk with hk | hk
    · exact wpAny_Name (wpAny_loadName_cell I.ok.kind hk hc hcell fin) hd
    · exact wpAny_Name (wpAny_loadName_free I.ok.kind hk hc hcell fin hcd) hd
theorem pe_int {i j pos} : PE X (.Constant (.int i) j pos) (tC (.int i)) := fun _ _ _ H _ I h => wpAny_Constant_int ⟨.int i, H, I.tok _, ⟨_, rfl⟩, h⟩
theorem pe_bl {b j pos} : PE X (.Constant (.bool b) j pos) (tC (.bl b)) := fun _ _ _ H _ I h => Constant_bool ⟨.bl b, H, I, rfl, h⟩
theorem pe_non {j pos} : PE X (.Constant .none j pos) (tC .non) := fun _ _ _ H _ I h => Constant_none ⟨.non, H, I, rfl, h⟩
theorem pe_str {x j pos} : PE X (.Constant (.str x) j pos) (tC (.str x)) := fun _ _ _ H _ I h => Calls.Constant_str ⟨.str x, H, I.tok _, ⟨_, rfl⟩, h⟩

noncomputable def Gl (X : Cx) (x : Str) : Prop := X.env.kindOf x = some .globalImplicit
theorem ld_glob {E : Value → Shared → Prop} {pins : List (Addr × Obj)} {s : Shared} {σ : St} {H : Hp} {x : Str} {u : Value} {pos : Pos} {Q : Value → Shared → Prop} (I : Inv X pins σ H s) (hg : Gl X x) (hm : X.mg x = some u) (h : Q u s)
    (hd : (x == ("__debug__" : Str)) = false := by decide) : wpAny (model X.prog X.w) X.A (eval (.Name x pos) X.env) Q E s :=
  Calls.Name_function_global I.ok.kind hg (Calls.loadGlobal_global (by rw [I.ok.glob]; exact I.mod.glob.keeps I.bk) hm h) hd
theorem ld_blt {E : Value → Shared → Prop} {pins : List (Addr × Obj)} {s : Shared} {σ : St} {H : Hp} {x : Str} {u : Value} {pos : Pos} {Q : Value → Shared → Prop} (I : Inv X pins σ H s) (hg : Gl X x) (hm : X.mg x = none) (hv : bootBuiltins x = some u) (h : Q u s)
    (hn : x ≠ "__name__" := by decide) (hd : (x == ("__debug__" : Str)) = false := by decide) : wpAny (model X.prog X.w) X.A (eval (.Name x pos) X.env) Q E s := by
  obtain ⟨mb, h1, h2⟩ := I.mod.blt
  exact Calls.Name_function_global I.ok.kind hg (Calls.loadGlobal_builtin (by rw [I.ok.glob]; exact I.mod.glob.keeps I.bk) hm (by rw [I.ok.blt]; exact h1.keeps I.bk) ((h2 x hn).trans hv) h) hd
theorem pe_glob {x : Str} {v : V} {u : Value} {pos : Pos} (hg : Gl X x) (hm : X.mg x = some u) (r : RelV v u) (hd : (x == ("__debug__" : Str)) = false := by decide) : PE X (.Name x pos) (tC v) :=
  fun _ _ _ H _ I h => ld_glob I hg hm ⟨v, H, I, r, h⟩ hd
theorem pe_bltn {x : Str} {v : V} {u : Value} {pos : Pos} (hg : Gl X x) (hm : X.mg x = none) (hv : bootBuiltins x = some u) (r : RelV v u) (hn : x ≠ "__name__" := by decide) (hd : (x == ("__debug__" : Str)) = false := by decide) : PE X (.Name x pos) (tC v) :=
  fun _ _ _ H _ I h => ld_blt I hg hm hv ⟨v, H, I, r, h⟩ hn hd

variable {a b : Expr} {ta tb : TE} {pos : Pos}
noncomputable def tB (t : TE) : TT := fun σ H Q => t σ H fun x H1 => ∃ c, x = .bl c ∧ Q c H1
theorem pt_val {e : Expr} {t : TE} (h : PE X e t) (he : ∀ whole, isTrue e X.env whole = (do let v ← whole; standAt e.pos; holding [v] (truthy v)) := by intro _; rfl) : PT X e (tB t) := by
  intro pins s σ H Q I hw
  refine isTrue_plain (thn (h pins s σ H _ I hw) fun v s1 ⟨x, H1, I1, r1, q1⟩ => ?_) (he _)
  obtain ⟨d, rfl, q⟩ := q1
  cases r1
  exact wpAny_truthy_bool ⟨H1, I1, q⟩

variable {tA tB' : TT} {rest : List Expr}
noncomputable def tAnd (t u : TT) : TT := fun σ H Q => t σ H fun c H1 => if c = true then u σ H1 Q else Q false H1
noncomputable def tOr (t u : TT) : TT := fun σ H Q => t σ H fun c H1 => if c = true then Q true H1 else u σ H1 Q
noncomputable def tNot (t : TT) : TT := fun σ H Q => t σ H fun c H1 => Q (!c) H1
theorem pw_and1 (ha : PT X a tA) : PW X (.BoolOp .And [a] pos) tA := by
  intro wh pins s σ H Q I h
  refine isTrue_and (thn (ha pins s σ H Q I h) fun c s1 e => ?_)
  cases c with
  | true => exact isTrue_and_nil e
  | false => exact e
theorem pw_or1 (ha : PT X a tA) : PW X (.BoolOp .Or [a] pos) tA := by
  intro wh pins s σ H Q I h
  refine isTrue_or (thn (ha pins s σ H Q I h) fun c s1 e => ?_)
  cases c with
  | false => exact isTrue_or_nil e
  | true => exact e
theorem pw_and (ha : PT X a tA) (hb : PW X (.BoolOp .And (b :: rest) pos) tB') : PW X (.BoolOp .And (a :: b :: rest) pos) (tAnd tA tB') := by
  intro wh pins s σ H Q I h
  refine isTrue_and (thn (ha pins s σ H _ I h) fun c s1 ⟨H1, I1, q1⟩ => ?_)
  cases c with
  | true => exact hb wh pins s1 σ H1 Q I1 q1
  | false => exact ⟨H1, I1, q1⟩
theorem pw_or (ha : PT X a tA) (hb : PW X (.BoolOp .Or (b :: rest) pos) tB') : PW X (.BoolOp .Or (a :: b :: rest) pos) (tOr tA tB') := by
  intro wh pins s σ H Q I h
  refine isTrue_or (thn (ha pins s σ H _ I h) fun c s1 ⟨H1, I1, q1⟩ => ?_)
  cases c with
  | true => exact ⟨H1, I1, q1⟩
  | false => exact hb wh pins s1 σ H1 Q I1 q1
theorem pt_not (ha : PT X a tA) : PT X (.UnaryOp .Not a pos) (tNot tA) := by
  intro pins s σ H Q I h
  exact isTrue_not (ha pins s σ H (fun c H1 => Q (!c) H1) I h)
noncomputable def tAndV (ta tb : TE) : TE := fun σ H Q => ta σ H fun x H1 => ∃ c, x = .bl c ∧ if c = true then tb σ H1 Q else Q (.bl false) H1
noncomputable def tOrV (ta tb : TE) : TE := fun σ H Q => ta σ H fun x H1 => ∃ c, x = .bl c ∧ if c = true then Q (.bl true) H1 else tb σ H1 Q
noncomputable def tNotV (ta : TE) : TE := fun σ H Q => ta σ H fun x H1 => ∃ c, x = .bl c ∧ Q (.bl (!c)) H1
theorem pe_one {op} {t : TE} (h : PE X a t) : PE X (.BoolOp op [a] pos) t := fun pins s σ H Q I hw => BoolOp_one (h pins s σ H Q I hw)
theorem pe_and (ha : PE X a ta) (hb : PE X (.BoolOp .And (b :: rest) pos) tb) : PE X (.BoolOp .And (a :: b :: rest) pos) (tAndV ta tb) := by
  intro pins s σ H Q I h
  refine BoolOp_and (thn (ha pins s σ H _ I h) fun v s1 ⟨x, H1, I1, r1, q1⟩ => ?_)
  obtain ⟨c, rfl, q1⟩ := q1
  cases r1
  refine wpAny_truthy_bool ?_
  cases c with
  | true => exact hb pins s1 σ H1 Q I1 q1
  | false => exact ⟨.bl false, H1, I1, rfl, q1⟩
theorem pe_or (ha : PE X a ta) (hb : PE X (.BoolOp .Or (b :: rest) pos) tb) : PE X (.BoolOp .Or (a :: b :: rest) pos) (tOrV ta tb) := by
  intro pins s σ H Q I h
  refine BoolOp_or (thn (ha pins s σ H _ I h) fun v s1 ⟨x, H1, I1, r1, q1⟩ => ?_)
  obtain ⟨c, rfl, q1⟩ := q1
  cases r1
  refine wpAny_truthy_bool ?_
  cases c with
  | false => exact hb pins s1 σ H1 Q I1 q1
  | true => exact ⟨.bl true, H1, I1, rfl, q1⟩
theorem pe_not (ha : PE X a ta) : PE X (.UnaryOp .Not a pos) (tNotV ta) := by
  intro pins s σ H Q I h
  refine UnaryOp_ (thn (ha pins s σ H _ I h) fun v s1 ⟨x, H1, I1, r1, q1⟩ => ?_)
  obtain ⟨c, rfl, q1⟩ := q1
  cases r1
  exact not_of (wpAny_truthy_bool ⟨.bl (!c), H1, I1, rfl, q1⟩)
noncomputable def tIf (t : TT) (ta tb : TE) : TE := fun σ H Q => t σ H fun c H1 => if c = true then ta σ H1 Q else tb σ H1 Q
theorem pe_ifExp {c : Expr} (hc : PT X c tA) (ha : PE X a ta) (hb : PE X b tb) : PE X (.IfExp c a b pos) (tIf tA ta tb) := by
  intro pins s σ H Q I h
  refine wpAny_IfExp (thn (hc pins s σ H _ I h) fun d s1 ⟨H1, I1, q1⟩ => ?_)
  cases d with
  | true => exact ha pins s1 σ H1 Q I1 q1
  | false => exact hb pins s1 σ H1 Q I1 q1
end
end L2

namespace L2
open PySem PySem.Spec PyProof.Rows

noncomputable def SqL (K : PySem.W.Frag) (H : Hp) (a : Addr) (xs : List V) : Prop :=
  Rd H a (.lst xs) ∨
    ∃ (o : Obj) (its : Array Value) (n : Nat), K.lookup a = some o ∧ o.cls = .type "list" ∧ o.dict = none ∧ o.data = .seq its n ∧ its.size ≤ sizeLine ∧ Vals xs its.toList
noncomputable def SqT (K : PySem.W.Frag) (H : Hp) (a : Addr) (xs : List V) : Prop :=
  Rd H a (.tup xs) ∨
    ∃ (o : Obj) (its : Array Value) (n : Nat), K.lookup a = some o ∧ o.cls = .type "tuple" ∧ o.data = .seq its n ∧ its.size ≤ sizeLine ∧ Vals xs its.toList
noncomputable def absV : Value → Option V
  | .none => some .non
  | .bool b => some (.bl b)
  | .int i _ => some (.int i)
  | .str x _ => some (.str x)
  | .bytes b _ => some (.byt b)
  | .float b _ => some (.flt b)
  | .ref a => some (.ref a)
  | .type n => some (.ty n)
  | _ => none
theorem RelV.abs {x : V} {u : Value} (r : RelV x u) : absV u = some x := by
  cases x with
  | non => cases r; rfl
  | bl _ => cases r; rfl
  | int _ => obtain ⟨t, rfl⟩ := r; rfl
  | str _ => obtain ⟨t, rfl⟩ := r; rfl
  | byt _ => obtain ⟨t, rfl⟩ := r; rfl
  | flt _ => obtain ⟨t, rfl⟩ := r; rfl
  | ref _ => cases r; rfl
  | ty _ => cases r; rfl
theorem RelV.inj {x y : V} {u : Value} (r : RelV x u) (q : RelV y u) : x = y := Option.some.inj (r.abs.symm.trans q.abs)
theorem Vals.inj : ∀ {xs ys : List V} {us : List Value}, Vals xs us → Vals ys us → xs = ys
  | _, _, _, .nil, .nil => rfl
  | _, _, _, .cons r t, .cons r' t' => by rw [r.inj r', Vals.inj t t']
section
variable {X : Cx} {pins : List (Addr × Obj)} {σ : St} {H : Hp} {s : Shared} {a : Addr} {xs ys : List V}
theorem SqL.of {K : PySem.W.Frag} (h : H a = some (.lst xs)) : SqL K H a xs := .inl (.inl h)
theorem SqT.of {K : PySem.W.Frag} (h : H a = some (.tup xs)) : SqT K H a xs := .inl (.inl h)
theorem Inv.list (I : Inv X pins σ H s) (h : SqL X.K H a xs) : ∃ its : List Value, Vals xs its ∧ PlainL s.heap a its.toArray ∧ xs.length ≤ sizeLine := by
  rcases h with h | ⟨o, its, n, hk, hc, hd, hs, hz, r⟩
  · obtain ⟨z, its, n, r, e⟩ := h.ok I.hok
    exact ⟨its, r, ⟨_, n, e, rfl, rfl, rfl⟩, z⟩
  · refine ⟨its.toList, r, ⟨o, n, I.kIn a o hk, hc, hd, by simpa using hs⟩, ?_⟩
    have e := r.length
    simp only [Array.length_toList] at e
    walk_at "om"
theorem Inv.tuple (I : Inv X pins σ H s) (h : SqT X.K H a xs) : ∃ its : List Value, Vals xs its ∧ IsTup s.heap a its.toArray ∧ xs.length ≤ sizeLine := by
  rcases h with h | ⟨o, its, n, hk, hc, hs, hz, r⟩
  · obtain ⟨z, its, r, p⟩ := h.ok I.hok
    exact ⟨its, r, p.isTup, z⟩
  · refine ⟨its.toList, r, ⟨o, I.kIn a o hk, hc, n, by simpa using hs⟩, ?_⟩
    have e := r.length
    simp only [Array.length_toList] at e
    walk_at "om"
theorem Inv.list_inj (I : Inv X pins σ H s) (h : SqL X.K H a xs) (h' : SqL X.K H a ys) : xs = ys := by
  obtain ⟨its, r, ⟨o, n, e, _, _, d⟩, _⟩ := I.list h
  obtain ⟨its', r', ⟨o', n', e', _, _, d'⟩, _⟩ := I.list h'
  rw [e] at e'; cases e'
  rw [d] at d'
  injection d' with d1 _
  have : its = its' := by simpa using congrArg Array.toList d1
  subst this
  exact r.inj r'
theorem Inv.tuple_inj (I : Inv X pins σ H s) (h : SqT X.K H a xs) (h' : SqT X.K H a ys) : xs = ys := by
  obtain ⟨its, r, ⟨o, e, _, n, d⟩, _⟩ := I.tuple h
  obtain ⟨its', r', ⟨o', e', _, n', d'⟩, _⟩ := I.tuple h'
  rw [e] at e'; cases e'
  rw [d] at d'
  injection d' with d1 _
  have : its = its' := by simpa using congrArg Array.toList d1
  subst this
  exact r.inj r'
end

noncomputable abbrev Cx.wish (X : Cx) (E : Value → Shared → Prop) : Cx := { X with xe := E }
noncomputable abbrev Cx.nox (X : Cx) : Cx := X.wish fun _ _ => False
theorem Cx.Ok.wish {X : Cx} (ok : X.Ok) (E : Value → Shared → Prop) : (X.wish E).Ok :=
  ⟨ok.mod, ok.kind, ok.glob, ok.blt, ok.above, ok.inj, ok.has, ok.cab, ok.hd, ok.frames, ok.stk, ok.exf, ok.bs, ok.bsz, ok.noex, ok.exfs, ok.funs, ok.frf⟩
theorem Cx.Ok.unwish {X : Cx} {E : Value → Shared → Prop} (ok : (X.wish E).Ok) : X.Ok :=
  ⟨ok.mod, ok.kind, ok.glob, ok.blt, ok.above, ok.inj, ok.has, ok.cab, ok.hd, ok.frames, ok.stk, ok.exf, ok.bs, ok.bsz, ok.noex, ok.exfs, ok.funs, ok.frf⟩
section
variable {X : Cx} {pins : List (Addr × Obj)} {σ : St} {H : Hp} {s : Shared} {E : Value → Shared → Prop}
theorem Inv.wish (I : Inv X pins σ H s) (E : Value → Shared → Prop) : Inv (X.wish E) pins σ H s := ⟨I.ok.wish E, I.os, I.bare, I.base, I.loc, I.cell, I.free, I.freeC, I.pin, I.hok, I.len⟩
theorem Inv.unwish (I : Inv (X.wish E) pins σ H s) : Inv X pins σ H s := ⟨I.ok.unwish, I.os, I.bare, I.base, I.loc, I.cell, I.free, I.freeC, I.pin, I.hok, I.len⟩
theorem SP.unwish {D : Ends} {f : Flow} {s' : Shared} (h : SP (X.wish E) pins D f s') : SP X pins D f s' := by
  cases f with
  | next => obtain ⟨σ', H', I, q⟩ := h; exact ⟨σ', H', I.unwish, q⟩
  | brk => obtain ⟨σ', H', I, q⟩ := h; exact ⟨σ', H', I.unwish, q⟩
  | cont => obtain ⟨σ', H', I, q⟩ := h; exact ⟨σ', H', I.unwish, q⟩
  | ret u => obtain ⟨v, σ', H', I, r, q⟩ := h; exact ⟨v, σ', H', I.unwish, r, q⟩
theorem PSs.nox {st : List Stmt} {t : TS} (h : PSs X.nox st t) : PSs X st t := fun pins s σ H D I hw =>
  wpAny_mono (h pins s σ H D (I.wish _) hw) (fun _ _ q => q.unwish) fun _ _ z => False.elim z
end

section
variable {X : Cx} {st : Stmt} {rest : List Stmt} {t u : TS} {e : Expr} {te : TE} {pos : Pos}
noncomputable def tNext : TS := fun D σ H => D.nx σ H
noncomputable def tSeq (t u : TS) : TS := fun D σ H => t { D with nx := u D } σ H
theorem pss_nil : PSs X [] tNext := fun _ _ σ H _ I h => wpAny_execs_nil ⟨σ, H, I, h⟩
theorem pss_cons (h1 : PS X st t) (h2 : PSs X rest u) : PSs X (st :: rest) (tSeq t u) := by
  intro pins s σ H D I h
  refine wpAny_execs_cons (thn (h1 pins s σ H { D with nx := u D } I h) fun f s1 q => ?_)
  cases f with
  | next =>
    obtain ⟨σ', H', I', q⟩ := q
    exact h2 pins s1 σ' H' D I' q
  | ret v => exact q
  | brk => exact q
  | cont => exact q
theorem pss_one (h1 : PS X st t) : PSs X [st] t := by
  intro pins s σ H D I h
  refine wpAny_execs_cons (thn (h1 pins s σ H D I h) fun f s1 q => ?_)
  cases f with
  | next => exact wpAny_execs_nil q
  | ret v => exact q
  | brk => exact q
  | cont => exact q
theorem Inv.quiet {pins : List (Addr × Obj)} {σ : St} {H : Hp} {s : Shared} (I : Inv X pins σ H s) : interactive X.env = false := by simp [interactive, I.ok.kind]
noncomputable def tDrop (te : TE) : TS := fun D σ H => te σ H fun _ H1 => D.nx σ H1
theorem ps_expr (he : PE X e te) (hs : swapsWith e none pos.line X.env = pure false := by rfl) : PS X (.Expr e pos) (tDrop te) := by
  intro pins s σ H D I h
  exact wpAny_Expr_any (thn (he pins s σ H _ I h) fun v s1 ⟨x, H1, I1, r1, q1⟩ => ⟨σ, H1, I1, q1⟩) I.quiet hs
noncomputable def tRet (te : TE) : TS := fun D σ H => te σ H D.rt
theorem ps_ret (he : PE X e te) : PS X (.Return (some e) pos) (tRet te) := by
  intro pins s σ H D I h
  exact wpAny_Return_some (thn (he pins s σ H _ I h) fun v s1 ⟨x, H1, I1, r1, q1⟩ => ⟨x, σ, H1, I1, r1, q1⟩)
noncomputable def tIfS (c : TT) (t u : TS) : TS := fun D σ H => c σ H fun b H1 => if b = true then t D σ H1 else u D σ H1
theorem ps_if {c : Expr} {a b : List Stmt} {tc : TT} (hc : PT X c tc) (ha : PSs X a t) (hb : PSs X b u) : PS X (.If c a b pos) (tIfS tc t u) := by
  intro pins s σ H D I h
  refine wpAny_If (thn (hc pins s σ H _ I h) fun d s1 ⟨H1, I1, q1⟩ => ?_)
  cases d with
  | true => exact ha pins s1 σ H1 D I1 q1
  | false => exact hb pins s1 σ H1 D I1 q1
end

noncomputable abbrev TG := V → St → Hp → (St → Hp → Prop) → Prop
noncomputable abbrev TGs := List V → St → Hp → (St → Hp → Prop) → Prop
noncomputable def PG (X : Cx) (target : Expr) (t : TG) : Prop :=
  ∀ (pins : List (Addr × Obj)) (s : Shared) (σ : St) (H : Hp) (v : V) (u : Value) (Q : St → Hp → Prop), Inv X pins σ H s → RelV v u → t v σ H Q →
    wpAny (model X.prog X.w) X.A (assign target X.env u) (fun _ s' => ∃ σ' H', Inv X pins σ' H' s' ∧ Q σ' H') X.xe s
noncomputable def PGs (X : Cx) (ts : List Expr) (t : TGs) : Prop :=
  ∀ (pins : List (Addr × Obj)) (s : Shared) (σ : St) (H : Hp) (vs : List V) (us : List Value) (Q : St → Hp → Prop), Inv X pins σ H s → Vals vs us → t vs σ H Q →
    wpAny (model X.prog X.w) X.A (assignInOrder ((assignEach ts X.env).map (·.2)) us) (fun _ s' => ∃ σ' H', Inv X pins σ' H' s' ∧ Q σ' H') X.xe s
noncomputable abbrev TSet := V → V → V → Hp → (Hp → Prop) → Prop
noncomputable def PSet (X : Cx) (t : TSet) : Prop :=
  ∀ (pins : List (Addr × Obj)) (s : Shared) (σ : St) (H : Hp) (o i v : V) (ov iv u : Value) (Q : Hp → Prop), Inv X pins σ H s → RelV o ov → RelV i iv → RelV v u → t o i v H Q →
    wpAny (model X.prog X.w) X.A (setItem ov iv u) (fun _ s' => ∃ H', Inv X pins σ H' s' ∧ Q H') X.xe s
section
variable {X : Cx} {pos : Pos}
noncomputable def gName (i : Nat) : TG := fun v σ H Q => Q (σ.set i (some v)) H
theorem pg_name {i : Nat} {x : Str} (hN : X.N.Nodup) (hi : X.N[i]? = some x) (hx : Loc X.env.scope x) (hf : X.fn x = true ∨ X.env.scope.names.lookup x = some .local := by first | exact .inl rfl | exact .inr rfl | assumption) : PG X (.Name x pos) (gName i) := by
  intro pins s σ H v u Q I r h
  exact wpAny_assign_Name (store_ok I hN hi hx r (fun s' I' => ⟨_, H, I', h⟩) hf)
noncomputable def gNil : TGs := fun vs σ H Q => vs = [] ∧ Q σ H
noncomputable def gCons (t : TG) (u : TGs) : TGs := fun vs σ H Q => ∃ v r, vs = v :: r ∧ t v σ H fun σ' H' => u r σ' H' Q
theorem pgs_nil : PGs X [] gNil := by
  intro pins s σ H vs us Q I r h
  obtain ⟨e, h⟩ := h
  subst e
  cases r
  exact assignInOrder_nil ⟨σ, H, I, h⟩
theorem pgs_cons {e : Expr} {es : List Expr} {t : TG} {u : TGs} (h1 : PG X e t) (h2 : PGs X es u)
    (hs : (assignEach (e :: es) X.env).map (·.2) = assign e X.env :: (assignEach es X.env).map (·.2) := by rfl) : PGs X (e :: es) (gCons t u) := by
  intro pins s σ H vs us Q I r h
  obtain ⟨v, vr, e1, h⟩ := h
  subst e1
  cases r with
  | cons r rr =>
    rw [hs]
    refine assignInOrder_cons (thn (h1 pins s σ H _ _ _ I r h) fun _ s1 ⟨σ1, H1, I1, q1⟩ => ?_)
    exact h2 pins s1 σ1 H1 _ _ Q I1 rr q1
noncomputable def gTup (K : PySem.W.Frag) (n : Nat) (t : TGs) : TG := fun v σ H Q => ∃ a xs, v = .ref a ∧ SqT K H a xs ∧ xs.length = n ∧ t xs σ H Q
theorem pg_tup {es : List Expr} {k : Nat} {t : TGs} {n : Nat} (hc : X.calm = true) (h : PGs X es t)
    (hn : (assignEach es X.env).length = n := by rfl) (hst : (assignEach es X.env).findIdx? (·.1) = none := by rfl) : PG X (.Tuple es k pos) (gTup X.K n t) := by
  intro pins s σ H v u Q I r hw
  obtain ⟨a, xs, e1, hq, hl, hw⟩ := hw
  subst e1
  cases r
  obtain ⟨its, rv, ht, hz⟩ := I.tuple hq
  refine assign_Tuple_tuple (I.ok.hd hc) ht (by simp [hn, ← hl, rv.length]) hst fun h' hx => ?_
  have I1 : Inv X pins σ H { s with heap := h' } := I.kept (t' := s.toks) fun b o e => hx b o (Nat.ne_of_lt (Heap.lt_size e)) e
  exact h pins _ σ H xs _ Q I1 (by simpa using rv) hw
noncomputable def gSub (to ti : TE) (t : TSet) : TG := fun v σ H Q => to σ H fun o H1 => ti σ H1 fun i H2 => t o i v H2 fun H3 => Q σ H3
theorem pg_sub {o i : Expr} {to ti : TE} {t : TSet} (ho : PE X o to) (hi : PE X i ti) (hs : PSet X t)
    (ha : ∀ v, assign (.Subscript o i pos) X.env v = (do
      let ov ← holding [v] (eval o X.env)
      let iv ← holding [v, ov] (eval i X.env)
      standAt pos
      holding [v, ov, iv] (setItem ov iv v)
      release [v, ov, iv] []) := by intro _; rfl) : PG X (.Subscript o i pos) (gSub to ti t) := by
  intro pins s σ H v u Q I r h
  rw [ha]
  refine wpAny_bind (wpAny_holding (thn (ho pins s σ H _ I h) fun ov s1 ⟨x, H1, I1, r1, q1⟩ => ?_))
  refine wpAny_bind (wpAny_holding (thn (hi pins s1 σ H1 _ I1 q1) fun iv s2 ⟨y, H2, I2, r2, q2⟩ => ?_))
  refine wpAny_bind (wpAny_standAt (wpAny_bind (wpAny_holding (thn (hs pins s2 σ H2 x y v ov iv u _ I2 r1 r2 r q2) fun _ s3 ⟨H3, I3, q3⟩ => ?_))))
  exact wpAny_release ⟨σ, H3, I3, q3⟩
noncomputable def tAsg (te : TE) (g : TG) : TS := fun D σ H => te σ H fun x H1 => g x σ H1 D.nx
theorem ps_asg {tg e : Expr} {te : TE} {g : TG} (he : PE X e te) (hg : PG X tg g) (hs : swapsWithSole [tg] e pos.line X.env = pure false := by rfl) (hw : swappedStores [tg] e X.env = pure none := by rfl)
    (h1 : (assignEach [tg] X.env).map (·.2) = [assign tg X.env] := by rfl) : PS X (.Assign [tg] e pos) (tAsg te g) := by
  intro pins s σ H D I h
  refine wpAny_Assign_stores (thn (he pins s σ H _ I h) fun v s1 ⟨x, H1, I1, r1, q1⟩ => ?_) hs hw
  rw [h1]
  exact thn (hg pins s1 σ H1 x v _ I1 r1 q1) fun _ s2 q => q
theorem ps_set {i : Nat} {x : Str} {e : Expr} {te : TE} {pos' : Pos} (hN : X.N.Nodup) (hi : X.N[i]? = some x) (hx : Loc X.env.scope x) (he : PE X e te) (hs : swapsWith e (some (.Name x pos')) pos.line X.env = pure false := by rfl) (hf : X.fn x = true ∨ X.env.scope.names.lookup x = some .local := by first | exact .inl rfl | exact .inr rfl | assumption) :
    PS X (.Assign [.Name x pos'] e pos) (tAsg te (gName i)) := by
  intro pins s σ H D I h
  refine wpAny_Assign_Name (thn (he pins s σ H _ I h) fun v s1 ⟨y, H1, I1, r1, q1⟩ => ?_) hs
  exact store_ok I1 hN hi hx r1 (fun s2 I2 => ⟨_, H1, I2, q1⟩) hf
end

section
variable {X : Cx} {pos : Pos}
end

structure It where
  go : Nat → Hp → Prop
  yld : Nat → Hp → V → Hp → Prop
  stop : Nat → Hp → Prop
noncomputable def FpOk (X : Cx) (pins : List (Addr × Obj)) (H : Hp) (b : Addr) : Prop :=
  H b = none ∧ b ≠ X.env.locals ∧ b ∉ X.fs ∧ (b ∈ X.ex ∨ X.s₀.heap.objs.size ≤ b) ∧ (∀ x c, X.env.cells.lookup x = some c → c ≠ b) ∧ ∀ p ∈ X.pn ++ pins, p.1 ≠ b
theorem Inv.fpOk {X : Cx} {pins : List (Addr × Obj)} {σ : St} {H H' : Hp} {s : Shared} {b : Addr} (I : Inv X pins σ H s) (hb : s.heap.objs.size ≤ b) (hn : H' b = none) : FpOk X pins H' b := by
  refine ⟨hn, Nat.ne_of_gt (Nat.lt_of_lt_of_le I.lt hb), I.nofs hb, .inr (Nat.le_trans I.sz hb), fun x c e z => ?_, fun p hp z => ?_⟩
  · obtain ⟨v, q⟩ := I.cell x c e
    exact absurd (Nat.lt_of_lt_of_le q.lt (by rw [z]; exact hb)) (Nat.lt_irrefl _)
  · exact absurd (Nat.lt_of_lt_of_le (Heap.lt_size (I.pin p hp).1) (by rw [z]; exact hb)) (Nat.lt_irrefl _)
structure Turn (P : Program) (w : World) (K : PySem.W.Frag) (tg : Expr) (J : It) (fp : List Addr) (it : Addr) (tn : Nat → Heap → Prop) : Prop where
  mem : it ∈ fp
  obj : ∀ i h, tn i h → ∀ b ∈ fp, ∃ o, h.get? b = some o ∧ ∀ v, o.data ≠ .cell v
  keep : ∀ i h h', tn i h → (∀ b ∈ fp, ∀ o, h.get? b = some o → h'.get? b = some o) → tn i h'
  item : ∀ (X : Cx), X.prog = P → X.w = w → X.K = K → X.calm = true → ∀ (i : Nat) (pins : List (Addr × Obj)) (s : Shared) (σ : St) (H : Hp) (E : Value → Shared → Prop), Inv X pins σ H s → (∀ b ∈ fp, FpOk X pins H b) → tn i s.heap → J.go i H →
    wpAny (model P w) X.A (pyNext (.ref it)) (fun r s1 => ∃ u, r = some u ∧
      wpAny (model P w) X.A (letOwnedTupleGo tg (.ref it) u) (fun _ s2 => ∃ x H', Inv X pins σ H' s2 ∧ RelV x u ∧ J.yld i H x H' ∧ tn (i + 1) s2.heap ∧ ∀ b ∈ fp, H' b = none) E s1) E s
  done : ∀ (X : Cx), X.prog = P → X.w = w → X.K = K → X.calm = true → ∀ (i : Nat) (pins : List (Addr × Obj)) (s : Shared) (σ : St) (H : Hp) (E : Value → Shared → Prop), Inv X pins σ H s → (∀ b ∈ fp, FpOk X pins H b) → tn i s.heap → J.stop i H →
    wpAny (model P w) X.A (pyNext (.ref it)) (fun r s1 => r = none ∧ Inv X pins σ H s1) E s
  self : ∀ (A : Around) (i : Nat) (s : Shared) (Q : Value → Shared → Prop) (E : Value → Shared → Prop), tn i s.heap → Q (.ref it) s → wpAny (model P w) A (pyIter (.ref it)) Q E s
noncomputable abbrev TI := St → Hp → (It → Hp → Prop) → Prop
noncomputable def PIE (X : Cx) (pins : List (Addr × Obj)) (σ : St) (tg : Expr) (R : It → Hp → Prop) (itv : Value) (s2 : Shared) : Prop :=
  ∃ (it : Addr) (fp : List Addr) (tn : Nat → Heap → Prop) (J : It) (H' : Hp), itv = .ref it ∧ Inv X pins σ H' s2 ∧ Turn X.prog X.w X.K tg J fp it tn ∧ tn 0 s2.heap ∧ (∀ b ∈ fp, FpOk X pins H' b) ∧ R J H'
noncomputable def PI (X : Cx) (tg iter : Expr) (wi : TI) : Prop :=
  ∀ (pins : List (Addr × Obj)) (s : Shared) (σ : St) (H : Hp) (R : It → Hp → Prop), Inv X pins σ H s → wi σ H R →
    wpAny (model X.prog X.w) X.A (eval iter X.env) (fun v s1 => wpAny (model X.prog X.w) X.A (pyIter v) (PIE X pins σ tg R) X.xe s1) X.xe s

theorem go_of {M : Model} {A : Around} {E : Value → Shared → Prop} {s : Shared} {tg : Expr} {it : Addr} {u : Value} {o : Obj} {n : String} {vs : Array Value} {Q : Unit → Shared → Prop} (ho : s.heap.get? it = some o) (hc : o.cls = .type n) (hd : o.data = .fields vs)
    (hn : ["enumerate", "zip", "dict_itemiterator", "dict_reverseitemiterator", "odict_iterator", "itertools.zip_longest", "itertools.pairwise"].contains n = false) (hQ : Q () s) : wpAny M A (letOwnedTupleGo tg (.ref it) u) Q E s := by
  unfold letOwnedTupleGo
  cases tg <;> first
    | exact wpAny_pure hQ
    | (cases u <;> first
        | exact wpAny_pure hQ
        | (refine wpAny_bind (wpAny_load ho ?_)
           rw [hc, hd]
           show wpAny M A (if (["enumerate", "zip", "dict_itemiterator", "dict_reverseitemiterator", "odict_iterator", "itertools.zip_longest", "itertools.pairwise"].contains n && vs[0]? == some (rawInt _)) = true then _ else _) Q E s
           rw [if_neg (by intro h; rw [hn, Bool.false_and] at h; cases h)]
           exact wpAny_pure hQ))

noncomputable def Itl (K : PySem.W.Frag) (a : Addr) : It :=
  ⟨fun i H => ∃ xs x, SqL K H a xs ∧ xs[i]? = some x, fun i H x H' => H' = H ∧ ∀ xs, SqL K H a xs → xs[i]? = some x, fun i H => ∃ xs, SqL K H a xs ∧ xs.length ≤ i⟩
noncomputable def Itt (K : PySem.W.Frag) (a : Addr) : It :=
  ⟨fun i H => ∃ xs x, SqT K H a xs ∧ xs[i]? = some x, fun i H x H' => H' = H ∧ ∀ xs, SqT K H a xs → xs[i]? = some x, fun i H => ∃ xs, SqT K H a xs ∧ xs.length ≤ i⟩
noncomputable def Itr (lo : Int) (n : Nat) : It := ⟨fun i _ => i < n, fun i H x H' => H' = H ∧ x = .int (lo + i), fun i _ => n ≤ i⟩
theorem turn_list {P : Program} {w : World} {K : PySem.W.Frag} {tg : Expr} (a it : Addr) : Turn P w K tg (Itl K a) [it] it (fun i h => h.IsListIter it a i) where
  mem := by simp
  obj := fun i h st b hb => by
    have e : b = it := by simpa using hb
    subst e
    obtain ⟨o, e, c, d⟩ := st
    exact ⟨o, e, fun v z => by rw [d] at z; cases z⟩
  keep := fun i h h' st k => st.at fun o e => k it (by simp) o e
  item := by
    intro X hP hw hK hc i pins s σ H E I hf st hg
    subst hP hw hK
    obtain ⟨xs, x, hq, hx⟩ := hg
    obtain ⟨its, rv, p, hz⟩ := I.list hq
    obtain ⟨u, hu, ru⟩ := rv.get hx
    obtain ⟨f0, f1, f2, f3, f4, f5⟩ := hf it (by simp)
    refine wpAny_pyNext_list_item st p.isList (x := u) (by simpa using hu) fun h' st' sb => ?_
    have I1 : Inv X pins σ H { s with heap := h' } := I.turned (t' := s.toks) (fun b o hb e => (sb.2 b hb).trans e) f0 f1 f3 f4 f5
    obtain ⟨o, e, c, d⟩ := id st'
    exact ⟨u, rfl, go_of (s := { s with heap := h' }) e c d (by decide) ⟨x, H, I1, ru, ⟨rfl, fun ys hy => by rw [I.list_inj hy hq]; exact hx⟩, st', fun b hb => (hf b hb).1⟩⟩
  done := by
    intro X hP hw hK hc i pins s σ H E I hf st hg
    subst hP hw hK
    obtain ⟨xs, hq, hx⟩ := hg
    obtain ⟨its, rv, p, hz⟩ := I.list hq
    obtain ⟨f0, f1, f2, f3, f4, f5⟩ := hf it (by simp)
    have hl := rv.length
    exact wpAny_pyNext_list_end (I.ok.hd hc) st p.isList (by simp; walk_at "om") fun h' eb => ⟨rfl, I.turned (t' := s.toks) (fun b o hb e => eb b o hb e) f0 f1 f3 f4 f5⟩
  self := fun _ _ _ _ _ st h => wpAny_pyIter_listiter st h
theorem turn_tuple {P : Program} {w : World} {K : PySem.W.Frag} {tg : Expr} (a it : Addr) : Turn P w K tg (Itt K a) [it] it (fun i h => h.IsTupleIter it a i) where
  mem := by simp
  obj := fun i h st b hb => by
    have e : b = it := by simpa using hb
    subst e
    obtain ⟨o, e, c, d⟩ := st
    exact ⟨o, e, fun v z => by rw [d] at z; cases z⟩
  keep := fun i h h' st k => st.at fun o e => k it (by simp) o e
  item := by
    intro X hP hw hK hc i pins s σ H E I hf st hg
    subst hP hw hK
    obtain ⟨xs, x, hq, hx⟩ := hg
    obtain ⟨its, rv, p, hz⟩ := I.tuple hq
    obtain ⟨u, hu, ru⟩ := rv.get hx
    obtain ⟨f0, f1, f2, f3, f4, f5⟩ := hf it (by simp)
    refine wpAny_pyNext_tuple_item st (show s.heap.IsTuple a its.toArray from p) (x := u) (by simpa using hu) fun h' st' sb => ?_
    have I1 : Inv X pins σ H { s with heap := h' } := I.turned (t' := s.toks) (fun b o hb e => (sb.2 b hb).trans e) f0 f1 f3 f4 f5
    obtain ⟨o, e, c, d⟩ := id st'
    exact ⟨u, rfl, go_of (s := { s with heap := h' }) e c d (by decide) ⟨x, H, I1, ru, ⟨rfl, fun ys hy => by rw [I.tuple_inj hy hq]; exact hx⟩, st', fun b hb => (hf b hb).1⟩⟩
  done := by
    intro X hP hw hK hc i pins s σ H E I hf st hg
    subst hP hw hK
    obtain ⟨xs, hq, hx⟩ := hg
    obtain ⟨its, rv, p, hz⟩ := I.tuple hq
    obtain ⟨f0, f1, f2, f3, f4, f5⟩ := hf it (by simp)
    have hl := rv.length
    exact wpAny_pyNext_tuple_end (I.ok.hd hc) st (show s.heap.IsTuple a its.toArray from p) (by simp; walk_at "om") fun h' eb => ⟨rfl, I.turned (t' := s.toks) (fun b o hb e => eb b o hb e) f0 f1 f3 f4 f5⟩
  self := fun _ _ _ _ _ st h => wpAny_pyIter_tupleiter st h
theorem turn_range {P : Program} {w : World} {K : PySem.W.Frag} {tg : Expr} (it : Addr) (lo : Int) (n : Nat) : Turn P w K tg (Itr lo n) [it] it (fun i h => IsRangeIter h it (lo + (i : Nat) * 1) ((n : Int) - (i : Nat)) 1) where
  mem := by simp
  obj := fun i h st b hb => by
    have e : b = it := by simpa using hb
    subst e
    exact ⟨_, st, fun v z => by
      have z' : Data.fields _ = Data.cell v := z
      cases z'⟩
  keep := fun i h h' st k => k it (by simp) _ st
  item := by
    intro X hP hw hK hc i pins s σ H E I hf st hg
    subst hP hw hK
    obtain ⟨f0, f1, f2, f3, f4, f5⟩ := hf it (by simp)
    have W := Walks.range (prog := X.prog) (w := X.w) (I.ok.hd hc) it lo 1 n
    refine W.item i s _ _ hg st fun v h' tk hv st' kk => ?_
    obtain ⟨t, rfl⟩ := hv
    have I1 : Inv X pins σ H { s with heap := h', toks := tk } := I.turned (fun b o hb e => kk b o (by simpa using hb) e) f0 f1 f3 f4 f5
    refine ⟨_, rfl, go_of (s := { s with heap := h', toks := tk }) (n := "range_iterator") st' rfl rfl (by decide) ⟨.int (lo + i), H, I1, ⟨t, ?_⟩, ⟨rfl, rfl⟩, st', fun b hb => (hf b hb).1⟩⟩
    rw [Int.mul_one]
  done := by
    intro X hP hw hK hc i pins s σ H E I hf st hg
    subst hP hw hK
    obtain ⟨f0, f1, f2, f3, f4, f5⟩ := hf it (by simp)
    exact wpAny_pyNext_range_end (I.ok.hd hc) st (by have : n ≤ i := hg; walk_at "om") fun h' eb => ⟨rfl, I.turned (t' := s.toks) (fun b o hb e => eb b o hb e) f0 f1 f3 f4 f5⟩
  self := fun _ _ _ _ _ st h => wpAny_pyIter_rangeiter st h
end L2

namespace L2
open PySem PySem.Spec PyProof.Rows
section
variable {X : Cx} {tg : Expr}
noncomputable def iList (K : PySem.W.Frag) (tl : TE) : TI := fun σ H R => tl σ H fun x H1 => ∃ a, x = .ref a ∧ (∃ xs, SqL K H1 a xs) ∧ R (Itl K a) H1
noncomputable def iTup (K : PySem.W.Frag) (tl : TE) : TI := fun σ H R => tl σ H fun x H1 => ∃ a, x = .ref a ∧ (∃ xs, SqT K H1 a xs) ∧ R (Itt K a) H1
theorem pi_list {l : Expr} {tl : TE} (hl : PE X l tl) : PI X tg l (iList X.K tl) := by
  intro pins s σ H R I h
  refine thn (hl pins s σ H _ I h) fun v s1 ⟨x, H1, I1, r1, q1⟩ => ?_
  obtain ⟨a, e, ⟨xs, hq⟩, q⟩ := q1
  subst e
  cases r1
  obtain ⟨its, rv, p, hz⟩ := I1.list hq
  refine wpAny_pyIter_list p.isList ?_
  refine ⟨s1.heap.objs.size, [s1.heap.objs.size], _, _, H1, rfl, I1.kept (t' := s1.toks) fun b o e => Heap.get?_push_of_some _ e, turn_list a _, ⟨_, Heap.get?_push_size _ rfl, rfl, rfl⟩, fun b hb => ?_, q⟩
  have e : b = s1.heap.objs.size := by simpa using hb
  subst e
  exact I1.fpOk (Nat.le_refl _) (I1.hok.fresh (Nat.le_refl _))
theorem pi_tup {l : Expr} {tl : TE} (hl : PE X l tl) : PI X tg l (iTup X.K tl) := by
  intro pins s σ H R I h
  refine thn (hl pins s σ H _ I h) fun v s1 ⟨x, H1, I1, r1, q1⟩ => ?_
  obtain ⟨a, e, ⟨xs, hq⟩, q⟩ := q1
  subst e
  cases r1
  obtain ⟨its, rv, p, hz⟩ := I1.tuple hq
  refine wpAny_pyIter_tuple (show s1.heap.IsTuple a its.toArray from p) ?_
  refine ⟨s1.heap.objs.size, [s1.heap.objs.size], _, _, H1, rfl, I1.kept (t' := s1.toks) fun b o e => Heap.get?_push_of_some _ e, turn_tuple a _, ⟨_, Heap.get?_push_size _ rfl, rfl, rfl⟩, fun b hb => ?_, q⟩
  have e : b = s1.heap.objs.size := by simpa using hb
  subst e
  exact I1.fpOk (Nat.le_refl _) (I1.hok.fresh (Nat.le_refl _))
theorem range_it {pins : List (Addr × Obj)} {σ : St} {H : Hp} {s : Shared} {R : It → Hp → Prop} {E : Value → Shared → Prop} {lo hi : Int} {t u v : Tok} {tk : Nat} (I : Inv X pins σ H s) (h1 : -(2 ^ 62) ≤ lo) (h2 : lo < 2 ^ 62) (h3 : -(2 ^ 62) ≤ hi) (h4 : hi < 2 ^ 62)
    (q : R (Itr lo (hi - lo).toNat) H) : wpAny (model X.prog X.w) X.A (pyIter (.ref s.heap.objs.size)) (PIE X pins σ tg R) E { s with heap := s.heap.push { cls := .type "range", data := .fields #[.int lo t, .int hi u, .int 1 v] }, toks := tk } := by
  refine wpAny_pyIter_range (IsRange.new ..) (small_one h1 h2 h3 h4) ?_
  have I1 : Inv X pins σ H { s with heap := s.heap.push { cls := .type "range", data := .fields #[.int lo t, .int hi u, .int 1 v] }, toks := tk } := I.kept fun b o e => Heap.get?_push_of_some _ e
  refine ⟨(s.heap.push { cls := .type "range", data := .fields #[.int lo t, .int hi u, .int 1 v] }).objs.size, [(s.heap.push { cls := .type "range", data := .fields #[.int lo t, .int hi u, .int 1 v] }).objs.size], _, _, H, rfl,
    I1.kept (t' := tk) fun b o e => Heap.get?_push_of_some _ e, turn_range _ lo (hi - lo).toNat, ?_, fun b hb => ?_, q⟩
  · have e1 : lo + ((0 : Nat) : Int) * 1 = lo := by simp
    have e2 : (((hi - lo).toNat : Nat) : Int) - ((0 : Nat) : Int) = Builtin.Range.rangeSize lo hi 1 := by rw [rangeSize_one]; split <;> walk_at "om"
    show IsRangeIter _ _ (lo + ((0 : Nat) : Int) * 1) ((((hi - lo).toNat : Nat) : Int) - ((0 : Nat) : Int)) 1
    rw [e1, e2]
    exact Heap.get?_push_size _ rfl
  · have e : b = (s.heap.push { cls := .type "range", data := .fields #[.int lo t, .int hi u, .int 1 v] }).objs.size := by simpa using hb
    subst e
    exact I1.fpOk (Nat.le_refl _) (I1.hok.fresh (Nat.le_refl _))
noncomputable def iRng1 (ta : TA) : TI := fun σ H R => ta σ H fun vs H1 => ∃ j : Int, vs = [.int j] ∧ -(2 ^ 62) ≤ j ∧ j < 2 ^ 62 ∧ R (Itr 0 j.toNat) H1
theorem pi_range1 {a : Expr} {ta : TA} {p pos : Pos} (hg : Gl X "range") (hm : X.mg "range" = none) (ha : PA X [a] ta) (hs : starEach [a] X.env = [(false, eval a X.env)] := by rfl) : PI X tg (.Call (.Name "range" p) [a] [] pos) (iRng1 ta) := by
  intro pins s σ H R I h
  refine Call_ (ld_blt I hg hm boot_range (PyProof.Rows.callWith_type1 (thn (ha pos pins s σ H _ I h) fun us s1 ⟨vs, H1, I1, r1, q1⟩ => ?_) hs rfl))
  obtain ⟨j, e, q1, q2, q⟩ := q1
  subst e
  cases r1 with
  | cons r rr =>
    cases rr
    obtain ⟨t, rfl⟩ := r
    exact call_range_1 (range_it I1 (by walk_at "om") (by walk_at "om") q1 q2 (by simpa using q))
noncomputable def tFor (wi : TI) (g : TG) (tb : TS) : TS := fun D σ H => wi σ H fun J H1 => ∃ W : Nat → Nat → St → Hp → Prop, (∃ m, W 0 m σ H1) ∧ ∀ i m σ H, W i m σ H →
  (J.stop i H ∧ D.nx σ H) ∨ (J.go i H ∧ ∃ N : St → Hp → Prop, (∀ σ' H', N σ' H' → ∃ m', m' < m ∧ W (i + 1) m' σ' H') ∧ ∀ x H', J.yld i H x H' → g x σ H' fun σ2 H2 => tb { D with nx := N, ct := N, bk := D.nx } σ2 H2)
noncomputable def pinsAt (fp : List Addr) (h : Heap) : List (Addr × Obj) := fp.filterMap fun b => (h.get? b).map fun o => (b, o)
theorem mem_pinsAt {fp : List Addr} {h : Heap} {b : Addr} {o : Obj} (hb : b ∈ fp) (e : h.get? b = some o) : (b, o) ∈ pinsAt fp h := List.mem_filterMap.mpr ⟨b, hb, by rw [e]; rfl⟩
theorem of_pinsAt {fp : List Addr} {h : Heap} {p : Addr × Obj} (hp : p ∈ pinsAt fp h) : p.1 ∈ fp ∧ h.get? p.1 = some p.2 := by
  obtain ⟨b, hb, e⟩ := List.mem_filterMap.mp hp
  cases q : h.get? b with
  | none => rw [q] at e; cases e
  | some o =>
    rw [q] at e
    have e' : (b, o) = p := Option.some.inj e
    subst e'
    exact ⟨hb, q⟩
theorem Inv.pinned {pins : List (Addr × Obj)} {σ : St} {H : Hp} {s : Shared} {fp : List Addr} (I : Inv X pins σ H s) (hf : ∀ b ∈ fp, FpOk X pins H b) (ho : ∀ b ∈ fp, ∃ o, s.heap.get? b = some o ∧ ∀ v, o.data ≠ .cell v) : Inv X (pins ++ pinsAt fp s.heap) σ H s :=
  I.pins_of fun p hp => (List.mem_append.mp hp).elim (fun z => I.pin p (List.mem_append_right _ z)) fun z => by
    obtain ⟨hb, e⟩ := of_pinsAt z
    obtain ⟨f0, f1, f2, _⟩ := hf p.1 hb
    obtain ⟨o, e', d⟩ := ho p.1 hb
    rw [e] at e'; cases e'
    exact ⟨e, f0, f1, f2, d⟩
theorem Inv.unpinned {pins pl : List (Addr × Obj)} {σ : St} {H : Hp} {s : Shared} (I : Inv X (pins ++ pl) σ H s) : Inv X pins σ H s := I.pins_of fun p hp => I.pin p (List.mem_append_right _ (List.mem_append_left _ hp))
theorem ps_for {iter : Expr} {body : List Stmt} {wi : TI} {g : TG} {tb : TS} {pos : Pos} (hp : PassesOwn (model X.prog X.w) X.A X.env X.xe) (hc : X.calm = true) (hi : PI X tg iter wi) (hg : PG X tg g) (hb : PSs X body tb)
    (hs : ∀ x, foldedSetIterable iter X.env x = pure x := by intro _; rfl) : PS X (.For tg iter body [] pos) (tFor wi g tb) := by
  intro pins s σ H D I h
  refine wpAny_For (thn (hi pins s σ H _ I h) fun v s1 h1 => thn h1 fun itv s2 h2 => ?_) hs
  obtain ⟨it, fp, tn, J, H2, e, I2, T, st2, f2, W, ⟨m0, w0⟩, turn⟩ := h2
  subst e
  -- what stays true of the iterator's objects through the loop
  have stat : ∀ {H' : Hp}, (∀ b ∈ fp, H' b = none) → ∀ b ∈ fp, FpOk X pins H' b := fun hn b hb => ⟨hn b hb, (f2 b hb).2⟩
  refine codeAny_forLoop_any (fun n s' => ∃ i σ' H', Inv X pins σ' H' s' ∧ tn i s'.heap ∧ (∀ b ∈ fp, H' b = none) ∧ W i n σ' H') ?_ m0 ⟨0, σ, H2, I2, st2, fun b hb => (f2 b hb).1, w0⟩
  rintro n s3 ⟨i, σ3, H3, I3, st3, fr3, w3⟩
  rcases turn i n σ3 H3 w3 with ⟨stop, qn⟩ | ⟨go, N, hN, step⟩
  · refine wpAny_passesOwn hp (thn (T.done X rfl rfl rfl hc i pins s3 σ3 H3 X.xe I3 (stat fr3) st3 stop) fun r s4 ⟨hr, I4⟩ => ?_)
    subst hr
    exact wpAny_execs_nil ⟨σ3, H3, I4, qn⟩
  · refine wpAny_passesOwn hp (thn (T.item X rfl rfl rfl hc i pins s3 σ3 H3 X.xe I3 (stat fr3) st3 go) fun r s4 ⟨u, hr, h4⟩ => ?_)
    subst hr
    refine wpAny_passesOwn hp (thn h4 fun _ s5 ⟨x, H5, I5, r5, y5, st5, fr5⟩ => ?_)
    have I5' := I5.pinned (stat fr5) (T.obj _ _ st5)
    refine wpAny_passesOwn hp (thn (hg _ s5 σ3 H5 x u _ I5' r5 (step x H5 y5)) fun _ s6 ⟨σ6, H6, I6, q6⟩ => ?_)
    refine wpAny_passesOwn hp (thn (hb _ s6 σ6 H6 _ I6 q6) fun f s7 q7 => ?_)
    have again : ∀ {σ7 : St} {H7 : Hp}, Inv X (pins ++ pinsAt fp s5.heap) σ7 H7 s7 → N σ7 H7 → ∃ m, m < n ∧ ∃ i σ' H', Inv X pins σ' H' s7 ∧ tn i s7.heap ∧ (∀ b ∈ fp, H' b = none) ∧ W i m σ' H' := fun {σ7 H7} I7 n7 => by
      obtain ⟨m', hm, w7⟩ := hN σ7 H7 n7
      refine ⟨m', hm, i + 1, σ7, H7, I7.unpinned, T.keep _ _ _ st5 fun b hb o e => (I7.pin (b, o) (List.mem_append_right _ (List.mem_append_right _ (mem_pinsAt hb e)))).1, fun b hb => ?_, w7⟩
      obtain ⟨o, e, d⟩ := T.obj _ _ st5 b hb
      exact (I7.pin (b, o) (List.mem_append_right _ (List.mem_append_right _ (mem_pinsAt hb e)))).2.1
    cases f with
    | next => obtain ⟨σ7, H7, I7, n7⟩ := q7; exact again I7 n7
    | cont => obtain ⟨σ7, H7, I7, n7⟩ := q7; exact again I7 n7
    | brk => obtain ⟨σ7, H7, I7, q7⟩ := q7; exact ⟨σ7, H7, I7.unpinned, q7⟩
    | ret v => obtain ⟨x7, σ7, H7, I7, r7, q7⟩ := q7; exact ⟨x7, σ7, H7, I7.unpinned, r7, q7⟩
end

theorem for_list {K : PySem.W.Frag} {a : Addr} {xs : List V} {g : TG} {tb : TS} {D : Ends} {σ : St} {H : Hp} (Pv : Nat → St → Hp → Prop) (h0 : Pv 0 σ H) (hl : ∀ i σ H, i ≤ xs.length → Pv i σ H → SqL K H a xs)
    (hs : ∀ i x σ H, xs[i]? = some x → Pv i σ H → g x σ H fun σ2 H2 => tb { D with nx := Pv (i + 1), ct := Pv (i + 1), bk := D.nx } σ2 H2) (hd : ∀ σ H, Pv xs.length σ H → D.nx σ H) :
    ∃ W : Nat → Nat → St → Hp → Prop, (∃ m, W 0 m σ H) ∧ ∀ i m σ H, W i m σ H →
      ((Itl K a).stop i H ∧ D.nx σ H) ∨ ((Itl K a).go i H ∧ ∃ N : St → Hp → Prop, (∀ σ' H', N σ' H' → ∃ m', m' < m ∧ W (i + 1) m' σ' H') ∧ ∀ x H', (Itl K a).yld i H x H' → g x σ H' fun σ2 H2 => tb { D with nx := N, ct := N, bk := D.nx } σ2 H2) := by
  refine ⟨fun i m σ H => m = xs.length - i ∧ i ≤ xs.length ∧ Pv i σ H, ⟨xs.length, by simp, Nat.zero_le _, h0⟩, ?_⟩
  rintro i m σ H ⟨rfl, hi, p⟩
  have q := hl i σ H hi p
  by_cases hlt : i < xs.length
  · refine .inr ⟨⟨xs, xs[i], q, by simp [hlt]⟩, Pv (i + 1), fun σ' H' p' => ⟨xs.length - (i + 1), by walk_at "om", rfl, hlt, p'⟩, fun x H' y => ?_⟩
    obtain ⟨e, y⟩ := y
    subst e
    exact hs i x σ _ (y xs q) p
  · have e : i = xs.length := by walk_at "om"
    subst e
    exact .inl ⟨⟨xs, q, Nat.le_refl _⟩, hd σ H p⟩
theorem for_tup {K : PySem.W.Frag} {a : Addr} {xs : List V} {g : TG} {tb : TS} {D : Ends} {σ : St} {H : Hp} (Pv : Nat → St → Hp → Prop) (h0 : Pv 0 σ H) (hl : ∀ i σ H, i ≤ xs.length → Pv i σ H → SqT K H a xs)
    (hs : ∀ i x σ H, xs[i]? = some x → Pv i σ H → g x σ H fun σ2 H2 => tb { D with nx := Pv (i + 1), ct := Pv (i + 1), bk := D.nx } σ2 H2) (hd : ∀ σ H, Pv xs.length σ H → D.nx σ H) :
    ∃ W : Nat → Nat → St → Hp → Prop, (∃ m, W 0 m σ H) ∧ ∀ i m σ H, W i m σ H →
      ((Itt K a).stop i H ∧ D.nx σ H) ∨ ((Itt K a).go i H ∧ ∃ N : St → Hp → Prop, (∀ σ' H', N σ' H' → ∃ m', m' < m ∧ W (i + 1) m' σ' H') ∧ ∀ x H', (Itt K a).yld i H x H' → g x σ H' fun σ2 H2 => tb { D with nx := N, ct := N, bk := D.nx } σ2 H2) := by
  refine ⟨fun i m σ H => m = xs.length - i ∧ i ≤ xs.length ∧ Pv i σ H, ⟨xs.length, by simp, Nat.zero_le _, h0⟩, ?_⟩
  rintro i m σ H ⟨rfl, hi, p⟩
  have q := hl i σ H hi p
  by_cases hlt : i < xs.length
  · refine .inr ⟨⟨xs, xs[i], q, by simp [hlt]⟩, Pv (i + 1), fun σ' H' p' => ⟨xs.length - (i + 1), by walk_at "om", rfl, hlt, p'⟩, fun x H' y => ?_⟩
    obtain ⟨e, y⟩ := y
    subst e
    exact hs i x σ _ (y xs q) p
  · have e : i = xs.length := by walk_at "om"
    subst e
    exact .inl ⟨⟨xs, q, Nat.le_refl _⟩, hd σ H p⟩
theorem for_range {lo : Int} {n : Nat} {g : TG} {tb : TS} {D : Ends} {σ : St} {H : Hp} (Pv : Nat → St → Hp → Prop) (h0 : Pv 0 σ H)
    (hs : ∀ i σ H, i < n → Pv i σ H → g (.int (lo + i)) σ H fun σ2 H2 => tb { D with nx := Pv (i + 1), ct := Pv (i + 1), bk := D.nx } σ2 H2) (hd : ∀ σ H, Pv n σ H → D.nx σ H) :
    ∃ W : Nat → Nat → St → Hp → Prop, (∃ m, W 0 m σ H) ∧ ∀ i m σ H, W i m σ H →
      ((Itr lo n).stop i H ∧ D.nx σ H) ∨ ((Itr lo n).go i H ∧ ∃ N : St → Hp → Prop, (∀ σ' H', N σ' H' → ∃ m', m' < m ∧ W (i + 1) m' σ' H') ∧ ∀ x H', (Itr lo n).yld i H x H' → g x σ H' fun σ2 H2 => tb { D with nx := N, ct := N, bk := D.nx } σ2 H2) := by
  refine ⟨fun i m σ H => m = n - i ∧ i ≤ n ∧ Pv i σ H, ⟨n, by simp, Nat.zero_le _, h0⟩, ?_⟩
  rintro i m σ H ⟨rfl, hi, p⟩
  by_cases hlt : i < n
  · refine .inr ⟨hlt, Pv (i + 1), fun σ' H' p' => ⟨n - (i + 1), by walk_at "om", rfl, hlt, p'⟩, fun x H' y => ?_⟩
    obtain ⟨e, y⟩ := y
    subst e y
    exact hs i σ _ hlt p
  · have e : i = n := by walk_at "om"
    subst e
    exact .inl ⟨Nat.le_refl _, hd σ H p⟩
end L2

namespace L2
open PySem PySem.Spec PyProof.Rows

noncomputable abbrev R2 := V → V → Hp → VK → Prop
noncomputable def OpR (X : Cx) (f : Value → Value → Sem Value) (r : R2) : Prop :=
  ∀ (pins : List (Addr × Obj)) (s : Shared) (σ : St) (H : Hp) (x y : V) (v u : Value) (Q : VK), Inv X pins σ H s → RelV x v → RelV y u → r x y H Q →
    wpAny (model X.prog X.w) X.A (f v u) (EP X pins σ Q) X.xe s
noncomputable def UnR (X : Cx) (f : Value → Sem Value) (r : V → Hp → VK → Prop) : Prop :=
  ∀ (pins : List (Addr × Obj)) (s : Shared) (σ : St) (H : Hp) (x : V) (v : Value) (Q : VK), Inv X pins σ H s → RelV x v → r x H Q →
    wpAny (model X.prog X.w) X.A (f v) (EP X pins σ Q) X.xe s
noncomputable def CallR (X : Cx) (f : Value) (r : List V → Hp → VK → Prop) : Prop :=
  ∀ (pins : List (Addr × Obj)) (s : Shared) (σ : St) (H : Hp) (xs : List V) (us : List Value) (Q : VK), Inv X pins σ H s → Vals xs us → r xs H Q →
    wpAny (model X.prog X.w) X.A (call f us) (EP X pins σ Q) X.xe s
noncomputable def tOp (r : R2) (ta tb : TE) : TE := fun σ H Q => ta σ H fun x H1 => tb σ H1 fun y H2 => r x y H2 Q
noncomputable def tUn (r : V → Hp → VK → Prop) (ta : TE) : TE := fun σ H Q => ta σ H fun x H1 => r x H1 Q
noncomputable def rI (C : Int → Int → Prop) (g : Int → Int → V) : R2 := fun x y H Q => ∃ i j, x = .int i ∧ y = .int j ∧ C i j ∧ Q (g i j) H
noncomputable def rI0 (g : Int → Int → V) : R2 := fun x y H Q => ∃ i j, x = .int i ∧ y = .int j ∧ Q (g i j) H
noncomputable def rU (g : Int → V) : V → Hp → VK → Prop := fun x H Q => ∃ i, x = .int i ∧ Q (g i) H

section
variable {X : Cx} {a b c : Expr} {ta tb tc : TE} {pos : Pos}

theorem binT (ha : PE X a ta) (hb : PE X b tb) {pins : List (Addr × Obj)} {s : Shared} {σ : St} {H : Hp} {R : V → V → Hp → Prop} (I : Inv X pins σ H s)
    (h : ta σ H fun x H1 => tb σ H1 fun y H2 => R x y H2) {Q : Value → Shared → Prop} {f : Value → Value → Sem Value}
    (hf : ∀ v u s2 x y H2, Inv X pins σ H2 s2 → RelV x v → RelV y u → R x y H2 → wpAny (model X.prog X.w) X.A (f v u) Q X.xe s2) :
    wpAny (model X.prog X.w) X.A (eval a X.env) (fun v s₁ => wpAny (model X.prog X.w) X.A (eval b X.env) (fun u s₂ => wpAny (model X.prog X.w) X.A (f v u) Q X.xe s₂) X.xe s₁) X.xe s := by
  refine thn (ha pins s σ H _ I h) fun v s1 ⟨x, H1, I1, r1, q1⟩ => ?_
  refine thn (hb pins s1 σ H1 _ I1 q1) fun u s2 ⟨y, H2, I2, r2, q2⟩ => ?_
  exact hf v u s2 x y H2 I2 r1 r2 q2

theorem pe_op {op : Operator} {r : R2} (ho : OpR X (binaryOp op) r) (ha : PE X a ta) (hb : PE X b tb) : PE X (.BinOp a op b pos) (tOp r ta tb) := by
  intro pins s σ H Q I h
  exact wpAny_BinOp (binT ha hb I h fun v u s2 x y H2 I2 rx ry q => ho pins s2 σ H2 x y v u Q I2 rx ry q)
theorem pe_un {op : UnaryOp} {r : V → Hp → VK → Prop} (ho : UnR X (unaryOp op) r) (ha : PE X a ta) : PE X (.UnaryOp op a pos) (tUn r ta) := by
  intro pins s σ H Q I h
  exact UnaryOp_ (thn (ha pins s σ H _ I h) fun v s1 ⟨x, H1, I1, r1, q1⟩ => ho pins s1 σ H1 x v Q I1 r1 q1)
theorem opI {f : Value → Value → Sem Value} {C : Int → Int → Prop} {g : Int → Int → Int}
    (rule : ∀ (i j : Int) (t u : Tok) (s : Shared) (Q : Value → Shared → Prop) (E : Value → Shared → Prop), C i j → Q (.int (g i j) s.toks) { s with toks := s.toks + 1 } → wpAny (model X.prog X.w) X.A (f (.int i t) (.int j u)) Q E s) :
    OpR X f (rI C fun i j => .int (g i j)) := by
  intro pins s σ H x y v u Q I rx ry h
  obtain ⟨i, j, rfl, rfl, hc, q⟩ := h
  obtain ⟨t, rfl⟩ := rx
  obtain ⟨t', rfl⟩ := ry
  exact rule i j t t' s _ _ hc ⟨.int (g i j), H, I.tok _, ⟨_, rfl⟩, q⟩
theorem opI0 {f : Value → Value → Sem Value} {g : Int → Int → Int}
    (rule : ∀ (i j : Int) (t u : Tok) (s : Shared) (Q : Value → Shared → Prop) (E : Value → Shared → Prop), Q (.int (g i j) s.toks) { s with toks := s.toks + 1 } → wpAny (model X.prog X.w) X.A (f (.int i t) (.int j u)) Q E s) :
    OpR X f (rI0 fun i j => .int (g i j)) := by
  intro pins s σ H x y v u Q I rx ry h
  obtain ⟨i, j, rfl, rfl, q⟩ := h
  obtain ⟨t, rfl⟩ := rx
  obtain ⟨t', rfl⟩ := ry
  exact rule i j t t' s _ _ ⟨.int (g i j), H, I.tok _, ⟨_, rfl⟩, q⟩
theorem opB0 {f : Value → Value → Sem Value} {g : Int → Int → Bool}
    (rule : ∀ (i j : Int) (t u : Tok) (s : Shared) (Q : Value → Shared → Prop) (E : Value → Shared → Prop), Q (.bool (g i j)) s → wpAny (model X.prog X.w) X.A (f (.int i t) (.int j u)) Q E s) :
    OpR X f (rI0 fun i j => .bl (g i j)) := by
  intro pins s σ H x y v u Q I rx ry h
  obtain ⟨i, j, rfl, rfl, q⟩ := h
  obtain ⟨t, rfl⟩ := rx
  obtain ⟨t', rfl⟩ := ry
  exact rule i j t t' s _ _ ⟨.bl (g i j), H, I, rfl, q⟩

noncomputable def CDiv (i j : Int) : Prop := 0 < j ∧ j < 1073741824
noncomputable def CPow (i j : Int) : Prop := 0 ≤ j ∧ j ≤ 1000000 ∧ i.natAbs < 2 ^ 64
noncomputable def CMul (i j : Int) : Prop := (-(2 ^ 64) < i ∧ i < 2 ^ 64) ∨ (-(2 ^ 64) < j ∧ j < 2 ^ 64)
theorem CMul.ok {i j : Int} (h : CMul i j) : IntMulOk i j := by
  rcases h with ⟨h1, h2⟩ | ⟨h1, h2⟩
  · exact .of_left (intBits_le_64 h1 h2)
  · exact .of_right (intBits_le_64 h1 h2)
theorem op_add : OpR X (binaryOp .Add) (rI0 fun i j => .int (i + j)) := opI0 fun _ _ _ _ _ _ _ q => add_int q
theorem op_sub : OpR X (binaryOp .Sub) (rI0 fun i j => .int (i - j)) := opI0 fun _ _ _ _ _ _ _ q => sub_int q
theorem op_mul : OpR X (binaryOp .Mult) (rI CMul fun i j => .int (i * j)) := opI fun _ _ _ _ _ _ _ hc q => mul_int q hc.ok
theorem op_fdiv : OpR X (binaryOp .FloorDiv) (rI CDiv fun i j => .int (i / j)) := opI fun i j _ _ _ _ _ hc q => by
  have h1 : (0 : Int) < j := hc.1
  have h2 : j < 1073741824 := hc.2
  exact floordiv_int (by walk_at "om") (by rw [Int.fdiv_eq_ediv_of_nonneg i (by walk_at "om")]; exact q) (.inl (PyProof.noPylong_small (by walk_at "om")))
theorem op_mod : OpR X (binaryOp .Mod) (rI (fun _ j => 0 < j) fun i j => .int (i % j)) := opI fun i j _ _ _ _ _ hc q => by
  have h1 : (0 : Int) < j := hc
  exact mod_int' (by walk_at "om") (by rw [Int.fmod_eq_emod_of_nonneg i (by walk_at "om")]; exact q)
theorem op_pow : OpR X (binaryOp .Pow) (rI CPow fun i j => .int (i ^ j.toNat)) := opI fun _ _ _ _ _ _ _ hc q => pow_int_small hc.1 hc.2.1 hc.2.2 q
theorem unI {f : Value → Sem Value} {g : Int → Int}
    (rule : ∀ (i : Int) (t : Tok) (s : Shared) (Q : Value → Shared → Prop) (E : Value → Shared → Prop), Q (.int (g i) s.toks) { s with toks := s.toks + 1 } → wpAny (model X.prog X.w) X.A (f (.int i t)) Q E s) :
    UnR X f (rU fun i => .int (g i)) := by
  intro pins s σ H x v Q I rx h
  obtain ⟨i, rfl, q⟩ := h
  obtain ⟨t, rfl⟩ := rx
  exact rule i t s _ _ ⟨.int (g i), H, I.tok _, ⟨_, rfl⟩, q⟩
theorem un_neg : UnR X (unaryOp .USub) (rU fun i => .int (-i)) := unI fun _ _ _ _ _ q => neg_int q
end

noncomputable def scal : V → V → Bool
  | .non, .non => true | .non, .int _ => true | .int _, .non => true | .non, .bl _ => true | .bl _, .non => true | .non, .str _ => true | .str _, .non => true
  | .int _, .int _ => true | .bl _, .bl _ => true | .str _, .str _ => true | .byt _, .byt _ => true
  | .int _, .str _ => true | .str _, .int _ => true | .bl _, .str _ => true | .str _, .bl _ => true
  | _, _ => false
noncomputable def rEq : R2 := fun x y H Q => scal x y = true ∧ Q (.bl (decide (x = y))) H
noncomputable def rNe : R2 := fun x y H Q => scal x y = true ∧ Q (.bl (!decide (x = y))) H

theorem dec_int {i j : Int} : decide (V.int i = V.int j) = (i == j) := by
  rw [Bool.eq_iff_iff]
  simp
theorem dec_bl {i j : Bool} : decide (V.bl i = V.bl j) = (i == j) := by
  rw [Bool.eq_iff_iff]
  simp
theorem dec_str {i j : Str} : decide (V.str i = V.str j) = (i == j) := by
  rw [Bool.eq_iff_iff]
  simp
theorem dec_byt {i j : Array UInt8} : decide (V.byt i = V.byt j) = (i.toList == j.toList) := by
  rw [Bool.eq_iff_iff]
  cases i
  cases j
  simp

section
variable {X : Cx} {a b c : Expr} {ta tb tc : TE} {pos : Pos}
theorem fin_bl {pins : List (Addr × Obj)} {σ : St} {H : Hp} {s : Shared} {Q : VK} {k k' : Bool} (I : Inv X pins σ H s) (q : Q (.bl k) H) (e : k = k') : EP X pins σ Q (.bool k') s := by
  subst e
  exact ⟨.bl k, H, I, rfl, q⟩
theorem op_eq : OpR X (compareOp .Eq) rEq := by
  intro pins s σ H x y v u Q I rx ry h
  obtain ⟨hs, q⟩ := h
  cases x with
  | non =>
    cases rx
    cases y with
    | non => cases ry; exact PySem.EqNone.eq_none_none (fin_bl I q (by simp))
    | bl j => cases ry; exact PySem.EqNone.eq_none_bool (fin_bl I q (by simp))
    | int j => obtain ⟨t', rfl⟩ := ry; exact PySem.EqNone.eq_none_int (fin_bl I q (by simp))
    | str j => obtain ⟨t', rfl⟩ := ry; exact PySem.EqNone.eq_none_str (fin_bl I q (by simp))
    | _ => exact absurd (show false = true from hs) Bool.false_ne_true
  | bl i =>
    cases rx
    cases y with
    | non => cases ry; exact PySem.EqNone.eq_bool_none (fin_bl I q (by simp))
    | bl j => cases ry; exact eq_bool (fin_bl I q dec_bl)
    | str j => obtain ⟨t', rfl⟩ := ry; exact PySem.EqMixed.eq_bool_str (fin_bl I q (by simp))
    | _ => exact absurd (show false = true from hs) Bool.false_ne_true
  | int i =>
    obtain ⟨t, rfl⟩ := rx
    cases y with
    | non => cases ry; exact PySem.EqNone.eq_int_none (fin_bl I q (by simp))
    | int j => obtain ⟨t', rfl⟩ := ry; exact eq_int (fin_bl I q dec_int)
    | str j => obtain ⟨t', rfl⟩ := ry; exact PySem.EqMixed.eq_int_str (fin_bl I q (by simp))
    | _ => exact absurd (show false = true from hs) Bool.false_ne_true
  | str i =>
    obtain ⟨t, rfl⟩ := rx
    cases y with
    | non => cases ry; exact PySem.EqNone.eq_str_none (fin_bl I q (by simp))
    | bl j => cases ry; exact PySem.EqMixed.eq_str_bool (fin_bl I q (by simp))
    | int j => obtain ⟨t', rfl⟩ := ry; exact PySem.EqMixed.eq_str_int (fin_bl I q (by simp))
    | str j => obtain ⟨t', rfl⟩ := ry; exact eq_str (fin_bl I q dec_str)
    | _ => exact absurd (show false = true from hs) Bool.false_ne_true
  | byt i =>
    obtain ⟨t, rfl⟩ := rx
    cases y with
    | byt j => obtain ⟨t', rfl⟩ := ry; exact PySem.W.eq_bytes (fin_bl I q dec_byt)
    | _ => exact absurd (show false = true from hs) Bool.false_ne_true
  | _ => cases y <;> exact absurd (show false = true from hs) Bool.false_ne_true
theorem op_ne : OpR X (compareOp .NotEq) rNe := by
  intro pins s σ H x y v u Q I rx ry h
  obtain ⟨hs, q⟩ := h
  cases x with
  | non =>
    cases rx
    cases y with
    | non => cases ry; exact PySem.EqNone.ne_none_none (fin_bl I q (by simp))
    | bl j => cases ry; exact PySem.EqNone.ne_none_bool (fin_bl I q (by simp))
    | int j => obtain ⟨t', rfl⟩ := ry; exact PySem.EqNone.ne_none_int (fin_bl I q (by simp))
    | str j => obtain ⟨t', rfl⟩ := ry; exact PySem.EqNone.ne_none_str (fin_bl I q (by simp))
    | _ => exact absurd (show false = true from hs) Bool.false_ne_true
  | bl i =>
    cases rx
    cases y with
    | non => cases ry; exact PySem.EqNone.ne_bool_none (fin_bl I q (by simp))
    | bl j => cases ry; exact ne_bool (fin_bl I q (congrArg not dec_bl))
    | str j => obtain ⟨t', rfl⟩ := ry; exact PySem.EqMixed.ne_bool_str (fin_bl I q (by simp))
    | _ => exact absurd (show false = true from hs) Bool.false_ne_true
  | int i =>
    obtain ⟨t, rfl⟩ := rx
    cases y with
    | non => cases ry; exact PySem.EqNone.ne_int_none (fin_bl I q (by simp))
    | int j => obtain ⟨t', rfl⟩ := ry; exact ne_int (fin_bl I q (congrArg not dec_int))
    | str j => obtain ⟨t', rfl⟩ := ry; exact PySem.EqMixed.ne_int_str (fin_bl I q (by simp))
    | _ => exact absurd (show false = true from hs) Bool.false_ne_true
  | str i =>
    obtain ⟨t, rfl⟩ := rx
    cases y with
    | non => cases ry; exact PySem.EqNone.ne_str_none (fin_bl I q (by simp))
    | bl j => cases ry; exact PySem.EqMixed.ne_str_bool (fin_bl I q (by simp))
    | int j => obtain ⟨t', rfl⟩ := ry; exact PySem.EqMixed.ne_str_int (fin_bl I q (by simp))
    | str j => obtain ⟨t', rfl⟩ := ry; exact ne_str (fin_bl I q (congrArg not dec_str))
    | _ => exact absurd (show false = true from hs) Bool.false_ne_true
  | byt i =>
    obtain ⟨t, rfl⟩ := rx
    cases y with
    | byt j => obtain ⟨t', rfl⟩ := ry; exact PySem.W.ne_bytes (fin_bl I q (congrArg not dec_byt))
    | _ => exact absurd (show false = true from hs) Bool.false_ne_true
  | _ => cases y <;> exact absurd (show false = true from hs) Bool.false_ne_true

theorem op_lt : OpR X (compareOp .Lt) (rI0 fun i j => .bl (decide (i < j))) := opB0 fun _ _ _ _ _ _ _ q => lt_int q
theorem op_le : OpR X (compareOp .LtE) (rI0 fun i j => .bl (decide (i ≤ j))) := opB0 fun _ _ _ _ _ _ _ q => le_int q
theorem op_gt : OpR X (compareOp .Gt) (rI0 fun i j => .bl (decide (j < i))) := opB0 fun _ _ _ _ _ _ _ q => gt_int q
theorem op_ge : OpR X (compareOp .GtE) (rI0 fun i j => .bl (decide (j ≤ i))) := opB0 fun _ _ _ _ _ _ _ q => ge_int q
theorem op_isN : OpR X (compareOp .Is) (fun x y H Q => y = .non ∧ Q (.bl (decide (x = .non))) H) := by
  intro pins s σ H x y v u Q I rx ry h
  obtain ⟨rfl, q⟩ := h
  cases ry
  refine is_none_gen (fin_bl I q ?_)
  cases x <;> first
    | (cases rx; rfl)
    | (obtain ⟨t, rfl⟩ := rx; rfl)
theorem op_notN : OpR X (compareOp .IsNot) (fun x y H Q => y = .non ∧ Q (.bl (!decide (x = .non))) H) := by
  intro pins s σ H x y v u Q I rx ry h
  obtain ⟨rfl, q⟩ := h
  cases ry
  refine isnot_none_gen (fin_bl I q ?_)
  cases x <;> first
    | (cases rx; rfl)
    | (obtain ⟨t, rfl⟩ := rx; rfl)

theorem nomark (b : Expr) {op : CmpOp} (h : op ≠ .In := by decide) (h2 : op ≠ .NotIn := by decide) : behindInMarks op b = false := by
  have e1 : (op == CmpOp.In) = false := by cases op <;> first | rfl | exact absurd rfl h
  have e2 : (op == CmpOp.NotIn) = false := by cases op <;> first | rfl | exact absurd rfl h2
  cases b <;> simp [behindInMarks, e1, e2]
theorem pe_cmpR {op : CmpOp} {r : R2} (ho : OpR X (compareOp op) r) (ha : PE X a ta) (hb : PE X b tb) (hm : behindInMarks op b = false) : PE X (.Compare a [op] [b] pos) (tOp r ta tb) := by
  intro pins s σ H Q I h
  exact wpAny_Compare1 (binT ha hb I h fun v u s2 x y H2 I2 rx ry q => ho pins s2 σ H2 x y v u Q I2 rx ry q) hm
noncomputable def tTest (t : TE) : TT := fun σ H Q => t σ H fun x H' => ∃ k, x = .bl k ∧ Q k H'
theorem pt_cmpR {op : CmpOp} {r : R2} (ho : OpR X (compareOp op) r) (ha : PE X a ta) (hb : PE X b tb) (hm : behindInMarks op b = false) : PT X (.Compare a [op] [b] pos) (tTest (tOp r ta tb)) := by
  intro pins s σ H Q I h
  refine wpAny_isTrue_Compare1 (thn (ha pins s σ H _ I h) fun v s1 ⟨x, H1, I1, r1, q1⟩ => thn (hb pins s1 σ H1 _ I1 q1) fun u s2 ⟨y, H2, I2, r2, q2⟩ =>
    thn (ho pins s2 σ H2 x y v u _ I2 r1 r2 q2) fun c s3 ⟨z, H3, I3, r3, k, e, q3⟩ => ?_) hm
  subst e
  cases r3
  exact wpAny_truthy_bool ⟨H3, I3, q3⟩
noncomputable def tChain (r r' : R2) (ta tb tc : TE) : TE := fun σ H Q => ta σ H fun x H1 => tb σ H1 fun y H2 => r x y H2 fun z H3 => ∃ k, z = .bl k ∧
  (if k = true then tc σ H3 fun w' H4 => r' y w' H4 Q else Q (.bl false) H3)
theorem pe_chain {op op' : CmpOp} {r r' : R2} (ho : OpR X (compareOp op) r) (ho' : OpR X (compareOp op') r') (ha : PE X a ta) (hb : PE X b tb) (hc : PE X c tc)
    (hm : lastMarks [op, op'] [b, c] = false := by with_unfolding_all rfl) : PE X (.Compare a [op, op'] [b, c] pos) (tChain r r' ta tb tc) := by
  intro pins s σ H Q I h
  refine Compare_chain (thn (ha pins s σ H _ I h) fun v s1 ⟨x, H1, I1, r1, q1⟩ => chain_link (thn (hb pins s1 σ H1 _ I1 q1) fun u s2 ⟨y, H2, I2, r2, q2⟩ =>
    thn (ho pins s2 σ H2 x y v u _ I2 r1 r2 q2) fun d s3 ⟨z, H3, I3, r3, k, e, q3⟩ => ?_)) hm
  subst e
  cases r3
  refine wpAny_truthy_bool ?_
  cases k with
  | false => exact ite_ff ⟨.bl false, H3, I3, rfl, q3⟩
  | true => exact ite_tt (chain_last (thn (hc pins s3 σ H3 _ I3 q3) fun w' s4 ⟨z', H4, I4, r4, q4⟩ => ho' pins s4 σ H4 y z' u w' Q I4 r2 r4 q4))
theorem pt_chain {op op' : CmpOp} {r r' : R2} (ho : OpR X (compareOp op) r) (ho' : OpR X (compareOp op') r') (ha : PE X a ta) (hb : PE X b tb) (hc : PE X c tc)
    (hm : lastMarks [op, op'] [b, c] = false := by with_unfolding_all rfl) : PT X (.Compare a [op, op'] [b, c] pos) (tTest (tChain r r' ta tb tc)) := by
  intro pins s σ H Q I h
  refine isTrue_chain (thn (ha pins s σ H _ I h) fun v s1 ⟨x, H1, I1, r1, q1⟩ => test_link (thn (hb pins s1 σ H1 _ I1 q1) fun u s2 ⟨y, H2, I2, r2, q2⟩ =>
    thn (ho pins s2 σ H2 x y v u _ I2 r1 r2 q2) fun d s3 ⟨z, H3, I3, r3, k, e, q3⟩ => ?_)) hm
  subst e
  cases r3
  refine wpAny_truthy_bool ?_
  cases k with
  | false =>
    obtain ⟨k', e', q'⟩ := q3
    cases e'
    exact ite_ff ⟨H3, I3, q'⟩
  | true =>
    refine ite_tt (test_last (thn (hc pins s3 σ H3 _ I3 q3) fun w' s4 ⟨z', H4, I4, r4, q4⟩ => thn (ho' pins s4 σ H4 y z' u w' _ I4 r2 r4 q4) fun d' s5 ⟨z2, H5, I5, r5, k2, e2, q5⟩ => ?_))
    subst e2
    cases r5
    exact wpAny_truthy_bool ⟨H5, I5, q5⟩

theorem line63 : (sizeLine : Nat) < 2 ^ 63 := by rw [sizeLine_eq]; decide
theorem op_add_str : OpR X (binaryOp .Add) (fun x y H Q => ∃ i j, x = .str i ∧ y = .str j ∧ i.length + j.length ≤ sizeLine ∧ Q (.str (i ++ j)) H) := by
  intro pins s σ H x y v u Q I rx ry h
  obtain ⟨i, j, rfl, rfl, hz, q⟩ := h
  obtain ⟨t, rfl⟩ := rx
  obtain ⟨t', rfl⟩ := ry
  exact add_str (fun t' tk => ⟨.str (i ++ j), H, I.tok _, ⟨_, rfl⟩, q⟩) hz
theorem vals1 {x : V} {us : List Value} (r : Vals [x] us) : ∃ u, us = [u] ∧ RelV x u := by
  cases r with
  | cons r1 r2 => cases r2; exact ⟨_, rfl, r1⟩
theorem vals2 {x y : V} {us : List Value} (r : Vals [x, y] us) : ∃ u w', us = [u, w'] ∧ RelV x u ∧ RelV y w' := by
  cases r with
  | cons r1 r2 =>
    cases r2 with
    | cons r3 r4 => cases r4; exact ⟨_, _, rfl, r1, r3⟩
theorem call_abs : CallR X (.builtin "abs") (fun xs H Q => ∃ i, xs = [.int i] ∧ Q (.int (if i < 0 then -i else i)) H) := by
  intro pins s σ H xs us Q I r h
  obtain ⟨i, rfl, q⟩ := h
  obtain ⟨u, rfl, t, rfl⟩ := vals1 r
  exact call_abs_int fun u tk => ⟨.int (if i < 0 then -i else i), H, I.tok _, ⟨_, rfl⟩, q⟩
theorem call_str_int : CallR X (.type "str") (fun xs H Q => ∃ i, xs = [.int i] ∧ i.natAbs.log2 < 1920 ∧ Q (.str (toString i)) H) := by
  intro pins s σ H xs us Q I r h
  obtain ⟨i, rfl, hz, q⟩ := h
  obtain ⟨u, rfl, t, rfl⟩ := vals1 r
  exact PySem.P.str_of_int hz ⟨.str _, H, I.tok _, ⟨_, rfl⟩, q⟩
noncomputable def LenV (K : PySem.W.Frag) (x : V) (H : Hp) (n : Nat) : Prop :=
  match x with
  | .str y => y.length ≤ sizeLine ∧ n = y.length
  | .byt y => y.size ≤ sizeLine ∧ n = y.size
  | .ref p => (∃ xs, SqL K H p xs ∧ n = xs.length) ∨ ∃ xs, SqT K H p xs ∧ n = xs.length
  | _ => False
theorem call_len : CallR X (.builtin "len") (fun xs H Q => ∃ x n, xs = [x] ∧ LenV X.K x H n ∧ Q (.int n) H) := by
  intro pins s σ H xs us Q I r h
  obtain ⟨x, n, rfl, e, q⟩ := h
  obtain ⟨u, rfl, rx⟩ := vals1 r
  have hl := line63
  have hs : sizeLine = 16777216 := sizeLine_eq
  cases x with
  | str y =>
    obtain ⟨t, rfl⟩ := rx
    obtain ⟨hy, e'⟩ : y.length ≤ sizeLine ∧ n = y.length := e
    subst e'
    exact len_str (by walk_at "om") ⟨.int _, H, I.tok _, ⟨_, rfl⟩, q⟩
  | byt y =>
    obtain ⟨t, rfl⟩ := rx
    obtain ⟨hy, e'⟩ : y.size ≤ sizeLine ∧ n = y.size := e
    subst e'
    exact PySem.W.len_bytes (by walk_at "om") ⟨.int _, H, I.tok _, ⟨_, rfl⟩, q⟩
  | ref p =>
    cases rx
    have e' : (∃ xs, SqL X.K H p xs ∧ n = xs.length) ∨ ∃ xs, SqT X.K H p xs ∧ n = xs.length := e
    rcases e' with ⟨xs, hx, e'⟩ | ⟨xs, hx, e'⟩
    · subst e'
      obtain ⟨its, r', pl, hz⟩ := I.list hx
      have hlen := r'.length
      exact Calls.call_len_list pl.isList (by simp only [List.size_toArray]; walk_at "om") ⟨.int xs.length, H, I.tok _, ⟨_, by simp only [List.size_toArray]; rw [hlen]⟩, q⟩
    · subst e'
      obtain ⟨its, r', pl, hz⟩ := I.tuple hx
      have hlen := r'.length
      exact len_tuple pl (by simp only [List.size_toArray]; walk_at "om") ⟨.int xs.length, H, I.tok _, ⟨_, by simp only [List.size_toArray]; rw [hlen]⟩, q⟩
  | _ => exact (show False from e).elim
end
end L2

namespace L2
open PySem PySem.Spec PyProof.Rows

structure ObjM (h : Heap) (x dx C : Addr) (mA : Str → Option Value) : Prop where
  obj : h.get? x = some (PySem.W.instObj C dx)
  ns : h.Ns1 dx mA
  ne : dx ≠ x

theorem lookIn_ns {h : Heap} {dx : Addr} {mA : Str → Option Value} (n : h.Ns1 dx mA) : ∃ od, h.get? dx = some od ∧ ∀ name, PySem.W.lookIn name od = some (mA name) := by
  obtain ⟨o, es, ep, ho, hd, hk, _, hm⟩ := n
  refine ⟨o, ho, fun name => ?_⟩
  have e := hm name
  unfold nsFind findBy at e
  rw [← Array.find?_toList] at e
  unfold PySem.W.lookIn
  rw [hd]
  dsimp only
  split
  · rename_i y q
    rw [q] at e
    exact congrArg some e
  · rename_i q
    rw [q] at e
    have a : es.toList.any (·.refKey) = false := by
      rw [List.any_eq_false]
      intro y hy
      obtain ⟨z, t, hkey⟩ := hk y (Array.mem_toList_iff.mp hy)
      simp [DictEntry.refKey, hkey]
    have a' : ¬ es.toList.any (·.refKey) = true := by rw [a]; exact Bool.false_ne_true
    rw [if_neg a']
    exact congrArg some e

theorem ObjM.look {h : Heap} {x dx C : Addr} {mA : Str → Option Value} (I : ObjM h x dx C mA) : ∃ od, PySem.W.InstAt h x (PySem.W.instObj C dx) C (some od) ∧ ∀ name, PySem.W.lookIn name od = some (mA name) :=
  let ⟨od, ho, hl⟩ := lookIn_ns I.ns
  ⟨od, ⟨I.obj, rfl, rfl, ho⟩, hl⟩

section
variable {prog : Program} {w : World} {A : Around} {E : Value → Shared → Prop} {s : Shared} {K : PySem.W.Frag} {x dx C f : Addr} {mA : Str → Option Value} {name : Str} {v : Value}

end

section
variable {P : Program} {w : World} {H H' : Hp} {h h' : Heap} {a C dx : Addr} {fs fs' : List (Str × V)}
theorem ins_get (hok : HOk P w H h) (e : H a = some (.ins C dx fs)) : ∃ mA, ObjM h a dx C mA ∧ (∀ f, RelO (fs.lookup f) (mA f)) ∧ PySem.Within mA (fs.map (·.1)) ∧ fs.length ≤ 1000 ∧ H dx = some (.own a) := by
  obtain ⟨d, z, ne, ob, mA, n, r, q⟩ := (show ObjOk P w H h a (.ins C dx fs) from hok a _ e)
  exact ⟨mA, ⟨ob, n, ne⟩, r, q, z, d⟩
end

structure Cls (K : PySem.W.Frag) (C : Addr) : Prop where
  pg : PySem.W.plainGet K C Str.empty = true
  hd : PySem.W.hasDictIn K C = true
  po : PySem.W.plainOver K C = true
  sa : PySem.W.findIn K (.ref C) "__setattr__" = some (some (.builtin "object.__setattr__"))
theorem Cls.get {K : PySem.W.Frag} {C : Addr} (c : Cls K C) (f : Str) : PySem.W.plainGet K C f = true := c.pg
section
variable {X : Cx} {pins : List (Addr × Obj)} {σ : St} {H : Hp} {s : Shared} {a C dx : Addr} {fs : List (Str × V)} {f : Str} {v : V} {A : Around} {E : Value → Shared → Prop}

end

section
variable {X : Cx} {o e value : Expr} {f : Str} {pos pos' tpos : Pos} {ta tv : TE}
end

section
variable {X : Cx} {pins : List (Addr × Obj)} {σ : St} {H : Hp} {s : Shared} {A : Around} {E : Value → Shared → Prop} {Q : Value → Shared → Prop} {c : Value} {b : Bool}
inductive TyOf (K : PySem.W.Frag) (H : Hp) : V → Value → Prop where
  | non : TyOf K H .non (.type "NoneType")
  | bl (x : Bool) : TyOf K H (.bl x) (.type "bool")
  | int (i : Int) : TyOf K H (.int i) (.type "int")
  | str (x : Str) : TyOf K H (.str x) (.type "str")
  | flt (x : UInt64) : TyOf K H (.flt x) (.type "float")
  | lst {a : Addr} {xs : List V} (e : H a = some (.lst xs)) : TyOf K H (.ref a) (.type "list")
  | frz {a : Addr} {o : Obj} {xs : List V} (e : H a = some (.frz o (.lst xs))) : TyOf K H (.ref a) (.type "list")
  | tup {a : Addr} {xs : List V} (e : H a = some (.tup xs)) : TyOf K H (.ref a) (.type "tuple")
  | dK {a : Addr} {kvs : List (Key × V)} (e : H a = some (.dK kvs)) : TyOf K H (.ref a) (.type "dict")
  | dT {a : Addr} {kvs : List (List Key × V)} (e : H a = some (.dT kvs)) : TyOf K H (.ref a) (.type "dict")
  | ins {a C dx : Addr} {fs : List (Str × V)} (e : H a = some (.ins C dx fs)) (cl : Cls K C) (ha : PySem.W.findIn K (.ref C) "__class__" = some (some (.builtin "object.__class__")))
      (hn : PySem.W.specialIn K (.builtin "object.__class__") "__get__" = some (some (.builtin "getset_descriptor.__get__"))) (htk : PySem.W.takesIn K (.builtin "object.__class__") = some true)
      (hm : PySem.W.mroIn K C (.type "object") = some true) : TyOf K H (.ref a) (.ref C)
theorem isinst_ok {x : V} {u t : Value} (I : Inv X pins σ H s) (rx : RelV x u) (ty : TyOf X.K H x t) (e : PySem.W.kitOne X.K t c = some b) (h : ∀ tk, Q (.bool b) { s with toks := tk }) :
    wpAny (model X.prog X.w) A (call (.builtin "isinstance") [u, c]) Q E s := by
  cases ty with
  | non => cases (show u = Value.none from rx); exact PySem.W.kia_one PySem.W.kitx_none I.kIn True.intro e (fun z => nomatch z) h
  | bl y => cases (show u = Value.bool y from rx); exact PySem.W.kia_one PySem.W.kitx_bool I.kIn True.intro e (fun z => nomatch z) h
  | int i => obtain ⟨t, q⟩ := (show ∃ t, u = Value.int i t from rx); cases q; exact PySem.W.kia_one PySem.W.kitx_int I.kIn True.intro e (fun z => nomatch z) h
  | str y => obtain ⟨t, q⟩ := (show ∃ t, u = Value.str y t from rx); cases q; exact PySem.W.kia_one PySem.W.kitx_str I.kIn True.intro e (fun z => nomatch z) h
  | flt y => obtain ⟨t, q⟩ := (show ∃ t, u = Value.float y t from rx); cases q; exact PySem.W.kia_one PySem.W.kitx_float I.kIn True.intro e (fun z => nomatch z) h
  | @lst a xs ea =>
    cases (show u = Value.ref a from rx)
    obtain ⟨_, _, n, _, h1⟩ := (show ObjOk X.prog X.w H s.heap a (.lst xs) from I.hok a _ ea)
    exact PySem.W.kia_one PySem.W.kitx_list I.kIn ⟨_, h1, rfl⟩ e (fun z => nomatch z) h
  | @frz a ob xs ea =>
    cases (show u = Value.ref a from rx)
    obtain ⟨_, _, _, n, _, h1⟩ := (show ObjOk X.prog X.w H s.heap a (.frz ob (.lst xs)) from I.hok a _ ea)
    exact PySem.W.kia_one PySem.W.kitx_list I.kIn ⟨_, h1, rfl⟩ e (fun z => nomatch z) h
  | @tup a xs ea =>
    cases (show u = Value.ref a from rx)
    obtain ⟨_, _, _, p⟩ := (show ObjOk X.prog X.w H s.heap a (.tup xs) from I.hok a _ ea)
    obtain ⟨o, h1, h2, _⟩ := p
    exact PySem.W.kia_one PySem.W.kitx_tuple I.kIn ⟨o, h1, h2⟩ e (fun z => nomatch z) h
  | @dK a kvs ea =>
    cases (show u = Value.ref a from rx)
    obtain ⟨_, _, vs, _, p⟩ := (show ObjOk X.prog X.w H s.heap a (.dK kvs) from I.hok a _ ea)
    obtain ⟨o, es, ep, h1, h2, _⟩ := p
    exact PySem.W.kia_one PySem.W.kitx_dict I.kIn ⟨o, h1, h2.1⟩ e (fun z => nomatch z) h
  | @dT a kvs ea =>
    cases (show u = Value.ref a from rx)
    obtain ⟨_, _, xs, _, o, es, ep, h1, h2, _⟩ := (show ObjOk X.prog X.w H s.heap a (.dT kvs) from I.hok a _ ea)
    exact PySem.W.kia_one PySem.W.kitx_dict I.kIn ⟨o, h1, h2.1⟩ e (fun z => nomatch z) h
  | @ins a C dx fs ea cl ha hn htk hm =>
    cases (show u = Value.ref a from rx)
    obtain ⟨mA, O, _⟩ := ins_get I.hok ea
    obtain ⟨od, J, _⟩ := O.look
    exact PySem.W.kia_one (PySem.W.kitx_own (cl.get _) cl.hd ha hn htk hm) I.kIn J e (fun z => nomatch z) h
end
end L2

namespace L2
open PySem PySem.Spec PyProof.Rows

structure Room (k : Nat) (A : Around) : Prop where
  hd : A.handled = none
  dp : A.depth + 3 * k + 5 < recursionLimit
  un : A.units + 16 * k + 200 < cLine
theorem Room.mono {j k : Nat} {A : Around} (r : Room k A) (h : j ≤ k) : Room j A := ⟨r.hd, by have := r.dp; walk_at "om", by have := r.un; walk_at "om"⟩
theorem Room.deeper {k : Nat} {A : Around} (r : Room (k + 1) A) (env : Env) : Room k (A.deeper env) :=
  ⟨r.hd, by have := r.dp; show A.depth + 1 + 3 * k + 5 < _; walk_at "om", by have := r.un; show A.units + 3 + 16 * k + 200 < _; walk_at "om"⟩
theorem Room.depth {k : Nat} {A : Around} (r : Room k A) : A.depth < recursionLimit := by have := r.dp; walk_at "om"
theorem Room.units {k : Nat} {A : Around} (r : Room k A) : A.units + 64 < cLine := by have := r.un; walk_at "om"
noncomputable def tNil : TA := fun _ H Q => Q [] H
noncomputable def tCons (ta : TE) (tr : TA) : TA := fun σ H Q => ta σ H fun x H1 => tr σ H1 fun xs H2 => Q (x :: xs) H2
section
variable {X : Cx} {e : Expr} {es : List Expr} {te : TE} {t : TA} {pos : Pos}
theorem pa_nil : PA X [] tNil := fun _ _ _ _ H Q I h => Calls.spliced_nil ⟨[], H, I, .nil, h⟩
theorem pa_cons (ha : PE X e te) (hr : PA X es t) (hs : starEach (e :: es) X.env = (false, eval e X.env) :: starEach es X.env := by rfl) : PA X (e :: es) (tCons te t) := by
  intro pos pins s σ H Q I h
  rw [hs]
  show wpAny _ _ (spliced ((false, eval e X.env) :: backTo pos (starEach es X.env))) _ _ s
  refine Calls.spliced_cons (thn (ha pins s σ H _ I h) fun u s1 ⟨x, H1, I1, r1, q1⟩ => ?_)
  exact thn (hr pos pins s1 σ H1 _ I1 q1) fun us s2 ⟨xs, H2, I2, r2, q2⟩ => ⟨x :: xs, H2, I2, .cons r1 r2, q2⟩

noncomputable def tTup (t : TA) : TE := fun σ H Q => t σ H fun xs H1 => xs.length ≤ sizeLine ∧ ∀ p, H1 p = none → Q (.ref p) (upd H1 p (.tup xs))
noncomputable def tLst (t : TA) : TE := fun σ H Q => t σ H fun xs H1 => xs.length ≤ sizeLine ∧ ∀ p, H1 p = none → Q (.ref p) (upd H1 p (.lst xs))
theorem pe_tup {x1} (h : PA X es t) : PE X (.Tuple es x1 pos) (tTup t) := by
  intro pins s σ H Q I hq
  refine wpAny_Tuple_spliced (thn (h pos pins s σ H _ I hq) fun us s1 ⟨xs, H1, I1, r, z, q⟩ => ⟨by rw [← r.length]; exact z, ?_⟩)
  have hf : H1 s1.heap.objs.size = none := I1.hok.fresh (Nat.le_refl _)
  refine ⟨.ref s1.heap.objs.size, upd H1 s1.heap.objs.size (.tup xs), I1.laid (t' := s1.toks) (fun b u e => Heap.get?_push_of_some _ e) (Nat.le_refl _) ?_, rfl, q _ hf⟩
  exact ⟨z, us, r, ⟨_, Heap.get?_push_size _ rfl, rfl, ⟨_, rfl⟩, rfl⟩⟩
theorem pe_lst (h : PA X es t) : PE X (.List es pos) (tLst t) := by
  intro pins s σ H Q I hq
  refine wpAny_List_spliced (thn (h pos pins s σ H _ I hq) fun us s1 ⟨xs, H1, I1, r, z, q⟩ => ⟨by rw [← r.length]; exact z, ?_⟩)
  have hf : H1 s1.heap.objs.size = none := I1.hok.fresh (Nat.le_refl _)
  refine ⟨.ref s1.heap.objs.size, upd H1 s1.heap.objs.size (.lst xs), I1.laid (t' := s1.toks) (fun b u e => Heap.get?_push_of_some _ e) (Nat.le_refl _) ?_, rfl, q _ hf⟩
  exact ⟨z, us, 0, r, Heap.get?_push_size _ rfl⟩
end

noncomputable abbrev Sp := List V → Hp → VK → XK → Prop
noncomputable abbrev CXT := List Env → Hp → Shared → XK → Value → Shared → Prop

structure Env0 (P : Program) (w : World) (K : PySem.W.Frag) (mg : Str → Option Value) (base : Heap) (A : Around) (outer : List Env) (s : Shared) (H : Hp) : Prop where
  frames : A.frames = some outer
  mod : Mod K mg base
  bs : ∀ b o, base.get? b = some o → s.heap.get? b = some o ∧ H b = none
  bsz : base.objs.size ≤ s.heap.objs.size
  funs : s.heap.FunFrames base outer
  frf : ∀ b ∈ frs outer, H b = none
  hok : HOk P w H s.heap
  bare : AllBare s.gens
noncomputable def CE (outer : List Env) (P : Program) (w : World) (H : Hp) (s : Shared) (Q : VK) (u : Value) (s' : Shared) : Prop :=
  ∃ v H', s'.os = s.os ∧ AllBare s'.gens ∧ Un (frs outer) [] H H' s.heap s'.heap ∧ HOk P w H' s'.heap ∧ RelV v u ∧ Q v H'
noncomputable def CR (CX : CXT) (outer : List Env) (P : Program) (w : World) (H : Hp) (s : Shared) (Q : VK) (E : XK) (r : Result) (s' : Shared) : Prop :=
  match r with
  | .ok (.ret u) => CE outer P w H s Q u s'
  | .ok _ => False
  | .error e => CX outer H s E e s'
structure FnOk (P : Program) (w : World) (K : PySem.W.Frag) (mg : Str → Option Value) (base : Heap) (CX : CXT) (k : Nat) (f : Addr) (fd : FuncData) (ps : List Str) (sp : Sp) : Prop where
  len : ∀ vs H Q E, sp vs H Q E → vs.length = ps.length
  run : ∀ (A : Around) (outer : List Env) (s : Shared) (H : Hp) (args : Args) (us : List Value) (vs : List V) (Q : VK) (E : XK), Room k A → Env0 P w K mg base A outer s H → BindsTo s fd args (ps.zip us) → Vals vs us → sp vs H Q E →
    codeAny (model P w) A (.call (.ref f) args) (CR CX outer P w H s Q E) s
section
variable {X : Cx} {pins : List (Addr × Obj)} {σ : St} {H : Hp} {s s' : Shared}
theorem Inv.env0 (I : Inv X pins σ H s) : Env0 X.prog X.w X.K X.mg X.base X.A X.stack s H :=
  ⟨I.ok.frames, I.ok.mod, I.bs, Nat.le_trans I.ok.bsz I.sz, I.stack, I.stkFree, I.hok, I.bare⟩
theorem Inv.after {Q : VK} {u : Value} (I : Inv X pins σ H s) (h : CE X.stack X.prog X.w H s Q u s') : EP X pins σ Q u s' := by
  obtain ⟨v, H', os, bare, un, hok, r, q⟩ := h
  obtain ⟨hh, g, d, t, os'⟩ := s'
  obtain rfl : os' = s.os := os
  exact ⟨v, H', I.call (h' := hh) (g' := g) (d' := d) (t' := t) (ch := []) un hok bare (fun b z => absurd z (by simp)), r, q⟩
end

noncomputable def tCall (sp : Sp) (dvs : List V) (E : XK) (t : TA) : TE := fun σ H Q => t σ H fun vs H1 => sp (vs ++ dvs) H1 Q E
noncomputable def Binds (K : PySem.W.Frag) (fd : FuncData) (ps : List Str) (ds : List Value) : Prop :=
  ∀ (s : Shared) (us : List Value), K.In s.heap → (us ++ ds).length = ps.length → BindsTo s fd ⟨us, []⟩ (ps.zip (us ++ ds))
theorem Binds.all {K : PySem.W.Frag} {fd : FuncData} {ps : List Str} (h : ∀ us : List Value, us.length = ps.length → bindArgs fd ⟨us, []⟩ = pure (ps.zip us)) : Binds K fd ps [] := fun s us _ hl => by
  rw [List.append_nil] at hl ⊢
  exact .of_eq (h us hl)

noncomputable def Passes (CX : CXT) (X : Cx) (E : XK) : Prop := ∀ (pins : List (Addr × Obj)) (σ : St) (H : Hp) (s : Shared) (e : Value) (s' : Shared), Inv X pins σ H s → CX X.stack H s E e s' → X.xe e s'

section
variable {X : Cx} {CX : CXT} {k : Nat} {f C : Addr} {fd : FuncData} {ps : List Str} {sp : Sp} {dvs : List V} {ds : List Value} {E : XK} {x m : Str} {p pos apos : Pos} {e o : Expr} {es : List Expr} {ta : TE} {t : TA}

theorem run_fn {pins : List (Addr × Obj)} {σ : St} {H : Hp} {s : Shared} {Q : VK} {us : List Value} {vs : List V} (F : FnOk X.prog X.w X.K X.mg X.base CX k f fd ps sp) (hr : Room k X.A) (hb : Binds X.K fd ps ds) (hd : Vals dvs ds) (hx : Passes CX X E)
    (I : Inv X pins σ H s) (r : Vals vs us) (h : sp (vs ++ dvs) H Q E) : wpAny (model X.prog X.w) X.A (call (.ref f) us) (EP X pins σ Q) X.xe s := by
  have r2 : Vals (vs ++ dvs) (us ++ ds) := r.append hd
  have hl : (us ++ ds).length = ps.length := by rw [← r2.length]; exact F.len _ _ _ _ h
  refine wpAny_call (codeAny_mono (F.run X.A X.stack s H ⟨us, []⟩ (us ++ ds) (vs ++ dvs) Q E hr I.env0 (hb s us I.kIn hl) r2 h) fun r s' hq => ?_)
  cases r with
  | error e => exact hx pins σ H s e s' I hq
  | ok fl =>
    cases fl with
    | ret u => exact I.after hq
    | next => exact False.elim hq
    | brk => exact False.elim hq
    | cont => exact False.elim hq

theorem pe_call (F : FnOk X.prog X.w X.K X.mg X.base CX k f fd ps sp) (hr : Room k X.A) (hg : Gl X x) (hm : X.mg x = some (.ref f)) (hk : PySem.W.keepIn X.K (.ref f) = true) (hb : Binds X.K fd ps ds) (hd : Vals dvs ds) (hx : Passes CX X E)
    (ha : PA X (e :: es) t) (hdb : (x == ("__debug__" : Str)) = false := by decide) (he : starEach (e :: es) X.env = (false, eval e X.env) :: starEach es X.env := by rfl) (hpl : (backTo pos (starEach es X.env)).any (·.1) = false := by rfl) :
    PE X (.Call (.Name x p) (e :: es) [] pos) (tCall sp dvs E t) := by
  intro pins s σ H Q I h
  refine wpAny_Call_Name_kw (ld_glob I hg hm ?_ hdb)
  refine PySem.W.callWith_K (h₀ := X.base) I.ok.mod.kin hk (thn (ha pos pins s σ H _ I h) fun us s1 ⟨vs, H1, I1, r, q⟩ => ⟨I1.kIn, ?_⟩) he hpl
  exact run_fn F hr hb hd hx I1 r q
end

section
variable {X : Cx} {CX : CXT} {k : Nat} {f C : Addr} {fd : FuncData} {ps ks : List Str} {sp : Sp} {E : XK} {x m : Str} {p pos apos kpos : Pos} {e o : Expr} {es : List Expr} {kws : List Keyword} {te ta : TE} {t tk : TA} {nm : Option Str}
variable {g : List Value → List Value → List Value} {gV : List V → List V → List V}
end

structure FnScope (N P : List Str) (sc : Scope) : Prop where
  kind : sc.kind = .function
  co : sc.isCoroutine = false
  gen : sc.isGenerator = false
  nd : N.Nodup
  pre : N.take P.length = P
  par : ∀ x ∈ P, sc.names.lookup x = some .local ∨ sc.names.lookup x = some .cell
  nofree : ∀ y ∈ sc.names, y.2 ≠ .free

theorem bindL_out {kindOf : Str → Option NameKind} {x : Str} : ∀ {binds : List (Str × Value)} {m : Str → Option Value}, (∀ v, (x, v) ∉ binds) → bindL kindOf binds m x = m x
  | [], _, _ => rfl
  | (n, v) :: r, m, h => by
    unfold bindL
    rw [bindL_out fun w hw => h w (List.mem_cons_of_mem _ hw)]
    split
    · have : x ≠ n := by rintro rfl; exact h v List.mem_cons_self
      simp [this]
    · rfl
theorem bindC_out {kindOf : Str → Option NameKind} {x : Str} : ∀ {binds : List (Str × Value)} {m : Str → Option Value}, (∀ v, (x, v) ∉ binds) → bindC kindOf binds m x = m x
  | [], _, _ => rfl
  | (n, v) :: r, m, h => by
    unfold bindC
    rw [bindC_out fun w hw => h w (List.mem_cons_of_mem _ hw)]
    split
    · rfl
    · have : x ≠ n := by rintro rfl; exact h v List.mem_cons_self
      simp [this]
theorem bindL_get {kindOf : Str → Option NameKind} {x : Str} {v : Value} : ∀ {P : List Str} {vs : List Value} {i : Nat} {m : Str → Option Value}, P.Nodup → P[i]? = some x → vs[i]? = some v → kindOf x = some .local →
    bindL kindOf (P.zip vs) m x = some v
  | [], _, _, _, _, h, _, _ => by simp at h
  | _ :: _, [], _, _, _, _, h, _ => by simp at h
  | p :: P, w :: vs, 0, m, nd, h1, h2, hk => by
    simp at h1 h2; subst h1; subst h2
    show bindL kindOf ((p, w) :: P.zip vs) m p = _
    unfold bindL
    rw [bindL_out fun v hv => (List.nodup_cons.mp nd).1 (List.of_mem_zip hv).1, if_pos hk]
    simp
  | p :: P, w :: vs, i + 1, m, nd, h1, h2, hk => by
    show bindL kindOf ((p, w) :: P.zip vs) m x = _
    unfold bindL
    exact bindL_get (i := i) (List.nodup_cons.mp nd).2 (by simpa using h1) (by simpa using h2) hk
theorem bindC_get {kindOf : Str → Option NameKind} {x : Str} {v : Value} : ∀ {P : List Str} {vs : List Value} {i : Nat} {m : Str → Option Value}, P.Nodup → P[i]? = some x → vs[i]? = some v → kindOf x ≠ some .local →
    bindC kindOf (P.zip vs) m x = some v
  | [], _, _, _, _, h, _, _ => by simp at h
  | _ :: _, [], _, _, _, _, h, _ => by simp at h
  | p :: P, w :: vs, 0, m, nd, h1, h2, hk => by
    simp at h1 h2; subst h1; subst h2
    show bindC kindOf ((p, w) :: P.zip vs) m p = _
    unfold bindC
    rw [bindC_out fun v hv => (List.nodup_cons.mp nd).1 (List.of_mem_zip hv).1, if_neg hk]
    simp
  | p :: P, w :: vs, i + 1, m, nd, h1, h2, hk => by
    show bindC kindOf ((p, w) :: P.zip vs) m x = _
    unfold bindC
    exact bindC_get (i := i) (List.nodup_cons.mp nd).2 (by simpa using h1) (by simpa using h2) hk

noncomputable def start (N : List Str) (vs : List V) : St := vs.map some ++ List.replicate (N.length - vs.length) none

noncomputable def cxOf (CX : CXT) (P : Program) (w : World) (K : PySem.W.Frag) (mg : Str → Option Value) (base : Heap) (N : List Str) (qual : Str) (scope : Scope) (f : Addr) (cd : Value) (A : Around) (outer : List Env) (s : Shared) (H : Hp) (E : XK) : Cx where
  prog := P
  w := w
  K := K
  mg := mg
  base := base
  A := A.deeper (envOfC qual scope s.heap.objs.size f cd)
  N := N
  s₀ := s
  H₀ := H
  env := envOfC qual scope s.heap.objs.size f cd
  outer := outer
  stack := envOfC qual scope s.heap.objs.size f cd :: outer
  ex := []
  calm := true
  fn := fun _ => true
  pn := []
  xe := fun e s' => wpAny (model P w) (A.deeper (envOfC qual scope s.heap.objs.size f cd)) (leaving (envOfC qual scope s.heap.objs.size f cd) e) (fun _ s'' => CX outer H s E e s'') (fun e' s'' => CX outer H s E e' s'') s'

theorem cell_has {sc : Scope} {n : Nat} {x : Str} (h : sc.names.lookup x = some .cell) : ∃ c, (cellsFrom n sc.names []).lookup x = some c := by
  have q := PySem.W.cellsFrom_some sc.names n [] (.inl h)
  exact Option.isSome_iff_exists.mp q

theorem inv_start {CX : CXT} {P : Program} {w : World} {K : PySem.W.Frag} {mg : Str → Option Value} {base : Heap} {N ps : List Str} {qual : Str} {scope : Scope} {f : Addr} {cd : Value} {A : Around} {outer : List Env} {s s1 : Shared} {H : Hp} {E : XK} {us : List Value} {vs : List V}
    (S : FnScope N ps scope) (hd : A.handled = none) (e0 : Env0 P w K mg base A outer s H) (hl : vs.length = ps.length) (r : Vals vs us)
    (x : InCallC s s.heap.objs.size (bindL (envOfC qual scope s.heap.objs.size f cd).kindOf (ps.zip us) fun _ => none) (cellsFrom (s.heap.objs.size + 1) scope.names []) (bindC (envOfC qual scope s.heap.objs.size f cd).kindOf (ps.zip us) fun _ => none) s1) :
    Inv (cxOf CX P w K mg base N qual scope f cd A outer s H E) [] (start N vs) H s1 := by
  have hpl : ps.length ≤ N.length := by have := congrArg List.length S.pre; rw [List.length_take] at this; walk_at "om"
  obtain ⟨h1, tk, rfl, hk⟩ := x.done
  have noA : ∀ b : Addr, b ∉ (cxOf CX P w K mg base N qual scope f cd A outer s H E).ex := fun b z => absurd (show b ∈ ([] : List Addr) from z) (by simp)
  refine ⟨⟨e0.mod, S.kind, rfl, rfl, Nat.le_refl _, fun y z c h1 h2 => ?_, fun y hy => ?_, fun y c _ h => ?_, fun _ => hd, Around.frames_deeper e0.frames, .inr ⟨rfl, rfl⟩, fun b z => absurd z (noA b), e0.bs, e0.bsz, fun b _ _ => noA b, fun b z => absurd z (noA b), e0.funs, e0.frf⟩,
    rfl, e0.bare, Un.kept hk, ⟨_, x.toInCall.ns, fun i y v h1 h2 h3 => ?_⟩, fun y c h => ⟨_, x.cell y c h⟩, e0.hok.fresh (Nat.le_refl _), fun y c h => ?_, fun p hp => absurd (show p ∈ ([] : List (Addr × Obj)) from hp) (by simp), e0.hok.kept hk, ?_⟩
  · exact name_of_addr x.apart (PySem.mem_of_lookup h1) (PySem.mem_of_lookup h2)
  · have hy : scope.names.lookup y = some .cell ∨ scope.names.lookup y = some .free := hy
    rcases hy with hy | hy
    · exact cell_has hy
    · exact absurd rfl (S.nofree _ (PySem.mem_of_lookup hy))
  · exact Nat.le_of_lt (x.above y c (PySem.mem_of_lookup h))
  · have hi : i < vs.length := by
      unfold start at h2
      by_cases hi : i < vs.length
      · exact hi
      · rw [List.getElem?_append_right (by simpa using hi)] at h2
        rw [List.getElem?_replicate] at h2
        split at h2 <;> cases h2
    have ha : vs[i]? = some v := by
      unfold start at h2
      rw [List.getElem?_append_left (by simpa using hi), List.getElem?_map] at h2
      cases e : vs[i]? with
      | none => rw [e] at h2; cases h2
      | some a => rw [e] at h2; cases h2; rfl
    obtain ⟨u, hu, rv⟩ := r.get ha
    have hp : ps[i]? = some y := by
      rw [← S.pre, List.getElem?_take_of_lt (by walk_at "om")]; exact h1
    have ndP : ps.Nodup := by rw [← S.pre]; exact S.nd.sublist (List.take_sublist _ _)
    refine ⟨u, rv, ?_⟩
    rcases S.par y (List.mem_of_getElem? hp) with k | k
    · exact .inl ⟨k, bindL_get ndP hp hu k⟩
    · obtain ⟨c, e⟩ := cell_has (n := s.heap.objs.size + 1) k
      refine .inr ⟨.inl k, c, e, ?_⟩
      have q := x.cell y c e
      rw [bindC_get ndP hp hu (by show scope.names.lookup y ≠ _; rw [k]; decide)] at q
      exact q
  · exact e0.hok.fresh (Nat.le_of_lt (x.above y c (PySem.mem_of_lookup h)))
  · unfold start
    show _ = N.length
    rw [List.length_append, List.length_map, List.length_replicate]
    walk_at "om"

theorem fn_of {CX : CXT} {P : Program} {w : World} {K : PySem.W.Frag} {mg : Str → Option Value} {base : Heap} {k : Nat} {f : Addr} {name qual : Str} {params : Arguments} {body : List Stmt} {scope : Scope} {dV kV doc pm cdv ct oc : Value} {an od : Option Addr}
    {osl : Array (Option Value)} {N ps : List Str} {sp : Sp} (lk : K.lookup f = some ⟨oc, od, .func (PySem.W.fnOf name qual params body scope dV kV doc pm an cdv ct), osl⟩) (hcd : PySem.W.codeIn K cdv qual = true) (S : FnScope N ps scope)
    (len : ∀ vs H Q E, sp vs H Q E → vs.length = ps.length)
    (hbody : ∀ (A : Around) (outer : List Env) (s : Shared) (H : Hp) (vs : List V) (Q : VK) (E : XK), Room k (A.deeper (envOfC qual scope s.heap.objs.size f cdv)) → sp vs H Q E →
      ∃ t, PSs (cxOf CX P w K mg base N qual scope f cdv A outer s H E) body t ∧ t { nx := fun _ H' => Q .non H', rt := Q } (start N vs) H) :
    FnOk P w K mg base CX (k + 1) f (PySem.W.fnOf name qual params body scope dV kV doc pm an cdv ct) ps sp := by
  refine ⟨len, fun A outer s H args us vs Q E hr e0 hb r hsp => ?_⟩
  have hl := len _ _ _ _ hsp
  have KX : K.In s.heap := e0.mod.kin.keeps fun b o e => (e0.bs b o e).1
  have lim : s.heap.NoLimit := e0.mod.nolimit.keeps fun b o e => (e0.bs b o e).1
  have hkind : ∀ y ∈ ps.zip us, scope.names.lookup y.1 = some .local ∨ (scope.names.lookup y.1 = some .cell ∧ ((cellsFrom (s.heap.objs.size + 1) scope.names []).lookup y.1).isSome = true) := fun ⟨n, v⟩ hy => by
    rcases S.par n (List.of_mem_zip hy).1 with q | q
    · exact .inl q
    · exact .inr ⟨q, PySem.W.cellsFrom_some _ _ _ (.inl q)⟩
  refine codeAny_call_function hr.depth (KX _ _ lk) rfl S.co S.gen rfl (PySem.W.codeRec_of KX hcd) (hb _ _ _ _ ?_)
  refine wpAny_newFunctionEnv_cells S.kind hkind fun env he s1 x => ?_
  subst he
  refine ⟨lim.keeps x.toInCall.keep, codeAny_func ?_⟩
  obtain ⟨t, ht, hq⟩ := hbody A outer s H vs Q E (hr.deeper _) hsp
  have I : Inv (cxOf CX P w K mg base N qual scope f cdv A outer s H E) [] (start N vs) H s1 := inv_start S hr.hd e0 hl r x
  refine wpAny_mono (ht [] s1 (start N vs) H _ I hq) (fun fl s' hs => ?_) fun e s' hs => hs
  have fin : ∀ {σ' : St} {H' : Hp} {v : V} {u : Value}, Inv (cxOf CX P w K mg base N qual scope f cdv A outer s H E) [] σ' H' s' → RelV v u → Q v H' → CE outer P w H s Q u s' :=
    fun {σ' H' v u} J rv q => ⟨v, H', J.os, J.bare, J.base, J.hok, rv, q⟩
  cases fl with
  | ret u =>
    obtain ⟨v, σ', H', J, rv, q⟩ := hs
    exact fin J rv q
  | next =>
    obtain ⟨σ', H', J, q⟩ := hs
    exact fin (v := V.non) (u := Value.none) J rfl q
  | brk =>
    obtain ⟨_, _, _, q⟩ := hs
    exact False.elim q
  | cont =>
    obtain ⟨_, _, _, q⟩ := hs
    exact False.elim q
end L2

namespace L2
open PySem PySem.Spec PyProof.Rows
section
variable {X : Cx} {x : Str} {p pos : Pos} {e : Expr} {es : List Expr} {t : TA} {id T : String} {r : List V → Hp → VK → Prop}

noncomputable def tCB (r : List V → Hp → VK → Prop) (t : TA) : TE := fun σ H Q => t σ H fun vs H1 => r vs H1 Q
theorem pe_callB (hc : CallR X (.builtin id) r) (hg : Gl X x) (hm : X.mg x = none) (hv : bootBuiltins x = some (.builtin id)) (ha : PA X (e :: es) t) (hn : x ≠ "__name__" := by decide) (hdb : (x == ("__debug__" : Str)) = false := by decide)
    (he : starEach (e :: es) X.env = (false, eval e X.env) :: starEach es X.env := by rfl) (hpl : (backTo pos (starEach es X.env)).any (·.1) = false := by rfl) : PE X (.Call (.Name x p) (e :: es) [] pos) (tCB r t) := by
  intro pins s σ H Q I h
  refine wpAny_Call_Name_kw (ld_blt I hg hm hv ?_ hn hdb)
  exact PyProof.Rows.callWith_builtin1 (thn (ha pos pins s σ H _ I h) fun us s1 ⟨vs, H1, I1, r1, q1⟩ => hc pins s1 σ H1 vs us Q I1 r1 q1) he hpl
theorem pe_callTy (hc : CallR X (.type T) r) (hg : Gl X x) (hm : X.mg x = none) (hv : bootBuiltins x = some (.type T)) (ha : PA X (e :: es) t) (hn : x ≠ "__name__" := by decide) (hdb : (x == ("__debug__" : Str)) = false := by decide)
    (he : starEach (e :: es) X.env = (false, eval e X.env) :: starEach es X.env := by rfl) (hpl : (backTo pos (starEach es X.env)).any (·.1) = false := by rfl) : PE X (.Call (.Name x p) (e :: es) [] pos) (tCB r t) := by
  intro pins s σ H Q I h
  refine wpAny_Call_Name_kw (ld_blt I hg hm hv ?_ hn hdb)
  exact PyProof.Rows.callWith_type1 (thn (ha pos pins s σ H _ I h) fun us s1 ⟨vs, H1, I1, r1, q1⟩ => hc pins s1 σ H1 vs us Q I1 r1 q1) he hpl
end
end L2

namespace HT
open PySem PyProof.Rows

section
open PySem.SeqAt
open PySem.AutoSeq1 (wpAny_loadPart')
open PySem.MeetsSeq PySem.MeetsSeq2 PySem.MeetsSeq3

end

section
variable {prog : Program} {w : World} {A : Around} {E : Value → Shared → Prop} {s : Shared}

noncomputable def sIx (n d : Nat) : Option Int → Nat
  | none => d
  | some v => if v < 0 then (v + (n : Int)).toNat else min v.toNat n
theorem sIx_none (n d : Nat) : sIx n d none = d := rfl
theorem sIx_nat (n d k : Nat) : sIx n d (some (k : Int)) = min k n := by
  show (if (k : Int) < 0 then ((k : Int) + (n : Int)).toNat else min (k : Int).toNat n) = min k n
  rw [if_neg (by walk_at "om"), Int.toNat_natCast]
theorem sIx_le (n d : Nat) (hd : d ≤ n) (o : Option Int) : sIx n d o ≤ n := by
  cases o with
  | none => exact hd
  | some v =>
    show (if v < 0 then (v + (n : Int)).toNat else min v.toNat n) ≤ n
    by_cases hv : v < 0
    · rw [if_pos hv]; walk_at "om"
    · rw [if_neg hv]; exact Nat.min_le_right _ _
theorem clip_eq (v : Int) (n d : Nat) : (if v < 0 then max (v + (n : Int)) 0 else min v (n : Int)) = ((sIx n d (some v) : Nat) : Int) := by
  show (if v < 0 then max (v + (n : Int)) 0 else min v (n : Int)) = (((if v < 0 then (v + (n : Int)).toNat else min v.toNat n) : Nat) : Int)
  by_cases hv : v < 0
  · simp only [if_pos hv]; walk_at "om"
  · simp only [if_neg hv]; walk_at "om"
theorem adjust_gen (lo hi : Option Int) (n : Nat) : Builtin.Slice.sliceAdjust lo hi 1 (n : Int) = (((sIx n 0 lo : Nat) : Int), ((sIx n n hi : Nat) : Int)) := by
  have h1 : ¬ ((1 : Int) < 0) := by walk_at "om"
  unfold Builtin.Slice.sliceAdjust
  simp only [h1, if_false]
  refine Prod.ext ?_ ?_
  · cases lo with
    | none => rfl
    | some v => exact clip_eq v n 0
  · cases hi with
    | none => rfl
    | some v => exact clip_eq v n n
theorem places_gen (i j : Nat) : Builtin.Slice.slicePlaces (i : Int) (j : Int) 1 = j - i := by
  unfold Builtin.Slice.slicePlaces
  have h1 : (1 : Int) > 0 := by walk_at "om"
  simp only [h1, if_true, Int.ediv_one]
  split <;> walk_at "om"
theorem slicePart_ {v : Value} {o : Option Int} {Q : Option Int → Shared → Prop} (p : IsPart v o) (h : Q o s) : wpAny (model prog w) A (Builtin.Slice.slicePartIndex v) Q E s := by
  cases p with
  | none => exact slicePart_none h
  | int i t => exact slicePart_int h
theorem sliceApplied_gen {sl : Addr} {vl vu : Value} {lo hi : Option Int} {n : Nat} {Q : Int × Int × Nat → Shared → Prop} (hs : s.heap.IsSliceOf sl vl vu .none) (pl : IsPart vl lo) (pu : IsPart vu hi)
    (h : Q (((sIx n 0 lo : Nat) : Int), 1, sIx n n hi - sIx n 0 lo) s) : wpAny (model prog w) A (Builtin.Slice.sliceApplied (.ref sl) (pure (n : Int))) Q E s := by
  obtain ⟨os, hos, hcs, hds⟩ := id hs
  unfold Builtin.Slice.sliceApplied Builtin.Slice.sliceFields
  refine wpAny_bind (wpAny_bind (wpAny_field hos hds (x := vl) rfl (wpAny_bind (wpAny_field hos hds (x := vu) rfl (wpAny_bind (wpAny_field hos hds (x := .none) rfl (wpAny_pure ?_)))))))
  refine wpAny_bind (slicePart_none ?_)
  show wpAny _ _ (if ((1 : Int) == 0) = true then _ else _) _ _ s
  rw [if_neg (by decide)]
  refine wpAny_bind (slicePart_ pl (wpAny_bind (slicePart_ pu (wpAny_bind (wpAny_pure ?_)))))
  show wpAny _ _ (match Builtin.Slice.sliceAdjust lo hi 1 (n : Int) with | (lo, hi) => pure (lo, (1 : Int), Builtin.Slice.slicePlaces lo hi 1)) _ _ s
  rw [adjust_gen lo hi n]
  show wpAny _ _ (pure (((sIx n 0 lo : Nat) : Int), (1 : Int), Builtin.Slice.slicePlaces ((sIx n 0 lo : Nat) : Int) ((sIx n n hi : Nat) : Int) 1)) _ _ s
  rw [places_gen]
  exact wpAny_pure h
theorem pick_gen (xs : Array Value) (i k : Nat) : ((List.range k).filterMap fun (m : Nat) => xs[((i : Int) + (m : Int) * 1).toNat]?).toArray = ((xs.toList.drop i).take k).toArray := by
  have e : (fun (m : Nat) => xs[((i : Int) + (m : Int) * 1).toNat]?) = fun m => xs[i + m]? := by
    funext m
    have : ((i : Int) + (m : Int) * 1).toNat = i + m := by walk_at "om"
    rw [this]
  rw [e]
  have := pick_run xs i k
  rw [List.filterMap_map] at this
  have e2 : ((fun x => xs[x]?) ∘ fun x => i + x) = fun m => xs[i + m]? := rfl
  rw [e2] at this
  rw [this]

theorem getItem_tuple_cut {t sl : Addr} {items : Array Value} {vl vu : Value} {lo hi : Option Int} {Q : Value → Shared → Prop} (ht : IsTup s.heap t items) (hs : s.heap.IsSliceOf sl vl vu .none) (pl : IsPart vl lo) (pu : IsPart vu hi)
    (hw : ¬ (sIx items.size 0 lo = 0 ∧ sIx items.size items.size hi = items.size))
    (h : Q (.ref s.heap.objs.size) { s with heap := s.heap.push { cls := .type "tuple", data := .seq ((items.toList.drop (sIx items.size 0 lo)).take (sIx items.size items.size hi - sIx items.size 0 lo)).toArray } })
    (hsz : items.size ≤ sizeLine) : wpAny (model prog w) A (getItem (.ref t) (.ref sl)) Q E s := by
  have htake : sizeOk (.seq ((items.toList.drop (sIx items.size 0 lo)).take (sIx items.size items.size hi - sIx items.size 0 lo)).toArray) := by
    show ((items.toList.drop (sIx items.size 0 lo)).take (sIx items.size items.size hi - sIx items.size 0 lo)).toArray.size ≤ sizeLine
    rw [List.size_toArray, List.length_take, List.length_drop, Array.length_toList]
    walk_at "om"
  have hj : sIx items.size items.size hi ≤ items.size := sIx_le _ _ (Nat.le_refl _) hi
  obtain ⟨os, hos, hcs, hds⟩ := id hs
  have hTs : s.TypeIs (.ref sl) "slice" := ⟨os, hos, hcs⟩
  unfold getItem
  try with_reducible refine wpAny_holding ?_
  first | refine wpAny_bind (wpAny_pure ?_) | skip
  refine wpAny_bind (wpAny_sequenceKey ht.typeIs (by decide) ?_)
  refine wpAny_bind (wpAny_callSpecial?_slot (name := Str.ofString "__getitem__") ht.typeIs PyProof.Rows.slot_tuple_getitem
    (wpAny_call_entry PyProof.Rows.slot_tuple_getitem ht.typeIs entry_tuple_getitem ?_ (args_tuple_getitem _ _)))
  show wpAny _ _ (Builtin.Tuple.tupleItemsOf (.ref t) >>= _) _ _ s
  refine wpAny_bind (tupleItemsOf_ ht ?_)
  refine wpAny_bind (wpAny_typeOf hTs ?_)
  rw [if_pos (by decide)]
  refine wpAny_bind (sliceApplied_gen hs pl pu ?_)
  have hno : ¬ ((((sIx items.size 0 lo : Nat) : Int) == 0 && (1 : Int) == 1 && (sIx items.size items.size hi - sIx items.size 0 lo) == items.size) = true) := by
    intro q
    rw [Bool.and_eq_true, Bool.and_eq_true] at q
    have q1 : ((sIx items.size 0 lo : Nat) : Int) = 0 := eq_of_beq q.1.1
    have q2 : sIx items.size items.size hi - sIx items.size 0 lo = items.size := eq_of_beq q.2
    exact hw ⟨by walk_at "om", by walk_at "om"⟩
  show wpAny _ _ (if (((sIx items.size 0 lo : Nat) : Int) == 0 && (1 : Int) == 1 && (sIx items.size items.size hi - sIx items.size 0 lo) == items.size) = true then _ else _) _ _ s
  rw [if_neg hno, pick_gen]
  first
    | exact wpAny_bind (m := Builtin.Tuple.tupleExact _) (wpAny_newObj_type (wpAny_pure ⟨_, rfl, wpAny_pure h⟩) htake)
    | exact wpAny_bind (m := Builtin.Tuple.tupleExact _) (wpAny_newObj_type (wpAny_bind (wpAny_pure (wpAny_pure ⟨_, rfl, wpAny_pure h⟩))) htake)
    | exact wpAny_bind (wpAny_bind (m := Builtin.Tuple.tupleExact _) (wpAny_newObj_type (wpAny_pure (wpAny_pure ⟨_, rfl, wpAny_pure h⟩)) htake))
    | exact wpAny_bind (wpAny_bind (m := Builtin.Tuple.tupleExact _) (wpAny_newObj_type (wpAny_pure ⟨_, rfl, wpAny_pure h⟩) htake))
end
end HT

namespace L2
open PySem PySem.Spec PyProof.Rows

noncomputable abbrev TO := St → Hp → (Option Int → Hp → Prop) → Prop
noncomputable def PO (X : Cx) (e : Option Expr) (t : TO) : Prop :=
  ∀ (pins : List (Addr × Obj)) (s : Shared) (σ : St) (H : Hp) (Q : Option Int → Hp → Prop), Inv X pins σ H s → t σ H Q →
    wpAny (model X.prog X.w) X.A (evalPart e X.env) (fun u s' => ∃ o H', Inv X pins σ H' s' ∧ IsPart u o ∧ Q o H') X.xe s
noncomputable def tNoPart : TO := fun _ H Q => Q none H
noncomputable def tPart (t : TE) : TO := fun σ H Q => t σ H fun x H1 => ∃ i, x = .int i ∧ Q (some i) H1

theorem intsAre_of {ns : List Int} : ∀ {us : List Value}, Vals (ns.map V.int) us → IntsAre us ns := by
  induction ns with
  | nil => intro us r; rw [List.map_nil] at r; cases r; exact .nil
  | cons n ns ih =>
    intro us r
    rw [List.map_cons] at r
    cases r with
    | cons r1 r2 =>
      obtain ⟨t, e⟩ := r1
      subst e
      exact .cons n t (ih r2)

section
variable {X : Cx} {e : Expr} {te : TE} {lo hi : Option Expr} {tl th : TO} {pos p2 : Pos}

theorem po_none : PO X none tNoPart := by
  intro pins s σ H Q I h
  rw [evalPart_none]
  exact wpAny_pure ⟨none, H, I, .none, h⟩
theorem po_some (h : PE X e te) : PO X (some e) (tPart te) := by
  intro pins s σ H Q I hw
  rw [evalPart_some]
  refine thn (h pins s σ H _ I hw) fun u s1 ⟨x, H1, I1, r1, q1⟩ => ?_
  obtain ⟨i, rfl, q⟩ := q1
  obtain ⟨t, rfl⟩ := r1
  exact ⟨some i, H1, I1, .int i t, q⟩

noncomputable def SlR (X : Cx) (r : V → Option Int → Option Int → Hp → VK → Prop) : Prop :=
  ∀ (pins : List (Addr × Obj)) (s : Shared) (σ : St) (H : Hp) (x : V) (v vl vu : Value) (lo hi : Option Int) (sl : Addr) (Q : VK), Inv X pins σ H s → RelV x v → s.heap.IsSliceOf sl vl vu .none → IsPart vl lo → IsPart vu hi → r x lo hi H Q →
    ∃ T id, typeLookup (.type T) "__getitem__" = pure (some (.builtin id)) ∧ s.TypeIs v T ∧ wpAny (model X.prog X.w) X.A (getItem v (.ref sl)) (EP X pins σ Q) X.xe s
theorem SlR.or {r r' : V → Option Int → Option Int → Hp → VK → Prop} (h : SlR X r) (h' : SlR X r') : SlR X (fun x lo hi H Q => r x lo hi H Q ∨ r' x lo hi H Q) := by
  intro pins s σ H x v vl vu lo hi sl Q I rx hs pl pu q
  rcases q with q | q
  · exact h pins s σ H x v vl vu lo hi sl Q I rx hs pl pu q
  · exact h' pins s σ H x v vl vu lo hi sl Q I rx hs pl pu q
noncomputable def tSl (r : V → Option Int → Option Int → Hp → VK → Prop) (te : TE) (tl th : TO) : TE := fun σ H Q => te σ H fun x H1 => tl σ H1 fun l H2 => th σ H2 fun u H3 => r x l u H3 Q
theorem pe_slice {r : V → Option Int → Option Int → Hp → VK → Prop} (hr : SlR X r) (he : PE X e te) (hl : PO X lo tl) (hu : PO X hi th) : PE X (.Subscript e (.Slice lo hi none p2) pos) (tSl r te tl th) := by
  intro pins s σ H Q I h
  refine Subscript_ (thn (he pins s σ H _ I h) fun v s1 ⟨x, H1, I1, r1, q1⟩ => ?_)
  refine wpAny_Slice (thn (hl pins s1 σ H1 _ I1 q1) fun vl s2 ⟨l, H2, I2, pl, q2⟩ => thn (hu pins s2 σ H2 _ I2 q2) fun vu s3 ⟨u, H3, I3, pu, q3⟩ => ?_)
  rw [evalPart_none]
  refine wpAny_pure ?_
  have I4 : Inv X pins σ H3 { s3 with heap := s3.heap.push { cls := .type "slice", data := .fields #[vl, vu, .none] } } := I3.kept (t' := s3.toks) fun b ob q => Heap.get?_push_of_some _ q
  obtain ⟨T, id, hT, ht, hg⟩ := hr pins { s3 with heap := s3.heap.push { cls := .type "slice", data := .fields #[vl, vu, .none] } } σ H3 x v vl vu l u s3.heap.objs.size Q I4 r1 (Heap.IsSliceOf.new ..) pl pu q3
  show wpAny (model X.prog X.w) X.A (subscriptTail e (.Slice lo hi none p2) v (.ref s3.heap.objs.size)) (EP X pins σ Q) X.xe { s3 with heap := s3.heap.push { cls := .type "slice", data := .fields #[vl, vu, .none] } }
  exact tail_any (ops := [.ref s3.heap.objs.size, v]) ht hT hg (by with_unfolding_all rfl)

noncomputable def cutV (xs : List V) (lo hi : Option Int) : List V := (xs.drop (HT.sIx xs.length 0 lo)).take (HT.sIx xs.length xs.length hi - HT.sIx xs.length 0 lo)
theorem cutV_length (xs : List V) (lo hi : Option Int) : (cutV xs lo hi).length ≤ xs.length := by
  unfold cutV
  rw [List.length_take, List.length_drop]
  walk_at "om"
noncomputable def rSlT (K : PySem.W.Frag) : V → Option Int → Option Int → Hp → VK → Prop := fun x lo hi H Q => ∃ a xs, x = .ref a ∧ SqT K H a xs ∧
  ¬ (HT.sIx xs.length 0 lo = 0 ∧ HT.sIx xs.length xs.length hi = xs.length) ∧ ∀ p, H p = none → Q (.ref p) (upd H p (.tup (cutV xs lo hi)))
theorem sl_tup : SlR X (rSlT X.K) := by
  intro pins s σ H x v vl vu lo hi sl Q I rx hs pl pu h
  obtain ⟨a, xs, rfl, hx, hw, q⟩ := h
  cases rx
  obtain ⟨its, r, ht, hz⟩ := I.tuple hx
  have hlen : its.toArray.size = xs.length := by rw [List.size_toArray]; exact r.length.symm
  refine ⟨"tuple", _, PyProof.Rows.slot_tuple_getitem.lookup, ht.typeIs, ?_⟩
  refine HT.getItem_tuple_cut ht hs pl pu (by rw [hlen]; exact hw) ?_ (by rw [hlen]; exact hz)
  rw [hlen]
  refine ⟨.ref s.heap.objs.size, _, I.laid (t' := s.toks) (o := .tup (cutV xs lo hi)) (fun b ob q => Heap.get?_push_of_some _ q) (Nat.le_refl _) ?_, rfl, q _ (I.hok.fresh (Nat.le_refl _))⟩
  exact ⟨Nat.le_trans (cutV_length xs lo hi) hz, _, (r.drop (HT.sIx xs.length 0 lo)).take (HT.sIx xs.length xs.length hi - HT.sIx xs.length 0 lo), PTup.new _ _⟩

end
end L2

namespace L2
open PySem PySem.Spec PyProof.Rows

noncomputable def ixN (n : Nat) (i : Int) : Option Nat := if 0 ≤ i then (if i < n then some i.toNat else none) else if -(n : Int) ≤ i then some (i + n).toNat else none
noncomputable def atI {α : Type} (xs : List α) (i : Int) : Option α := (ixN xs.length i).bind fun j => xs[j]?
theorem ixN_seq {n : Nat} {i : Int} {j : Nat} (h : ixN n i = some j) : seqIndex? i n = some j ∧ j < n ∧ -(n : Int) ≤ i ∧ i < n := by
  unfold ixN at h
  by_cases h0 : 0 ≤ i
  · rw [if_pos h0] at h
    by_cases h1 : i < n
    · rw [if_pos h1] at h
      have e : i.toNat = j := Option.some.inj h
      exact ⟨by rw [seqIndex_of h0 h1, e], by walk_at "om", by walk_at "om", h1⟩
    · rw [if_neg h1] at h; cases h
  · rw [if_neg h0] at h
    by_cases h1 : -(n : Int) ≤ i
    · rw [if_pos h1] at h
      have e : (i + n).toNat = j := Option.some.inj h
      exact ⟨by rw [seqIndex_neg (by walk_at "om") h1, e], by walk_at "om", h1, by walk_at "om"⟩
    · rw [if_neg h1] at h; cases h
theorem atI_get {α : Type} {xs : List α} {i : Int} {v : α} (h : atI xs i = some v) : ∃ j, seqIndex? i xs.length = some j ∧ xs[j]? = some v ∧ j < xs.length ∧ -(xs.length : Int) ≤ i ∧ i < xs.length := by
  unfold atI at h
  cases e : ixN xs.length i with
  | none => rw [e] at h; cases h
  | some j =>
    rw [e] at h
    obtain ⟨h1, h2, h3, h4⟩ := ixN_seq e
    exact ⟨j, h1, h, h2, h3, h4⟩
theorem atI_nat {α : Type} {xs : List α} {j : Nat} {v : α} (h : xs[j]? = some v) : atI xs (j : Int) = some v := by
  have hj : j < xs.length := (List.getElem?_eq_some_iff.mp h).1
  have e : ixN xs.length (j : Int) = some j := by
    unfold ixN
    rw [if_pos (by walk_at "om"), if_pos (by walk_at "om")]; simp
  unfold atI; rw [e]; exact h
noncomputable def PlainIx (b : Expr) : Prop := ∀ o i, subscripted b false o i = operate [o, i] (getItem o i)
noncomputable def IxR (X : Cx) (r : R2) : Prop :=
  ∀ (value slice : Expr) (pins : List (Addr × Obj)) (s : Shared) (σ : St) (H : Hp) (x y : V) (v u : Value) (Q : VK), Inv X pins σ H s → RelV x v → RelV y u → r x y H Q →
    subscripted slice false v u = operate [v, u] (getItem v u) → wpAny (model X.prog X.w) X.A (subscriptTail value slice v u) (EP X pins σ Q) X.xe s
noncomputable def MtR (X : Cx) (id : String) (r : V → List V → Hp → VK → Prop) : Prop :=
  ∀ (pins : List (Addr × Obj)) (s : Shared) (σ : St) (H : Hp) (x : V) (xs : List V) (v : Value) (us : List Value) (Q : VK), Inv X pins σ H s → RelV x v → Vals xs us → r x xs H Q →
    wpAny (model X.prog X.w) X.A (call (.builtin id) (v :: us)) (EP X pins σ Q) X.xe s
section
variable {X : Cx} {a b : Expr} {ta tb : TE} {pos : Pos}
theorem IxR.or {r r' : R2} (h : IxR X r) (h' : IxR X r') : IxR X (fun x y H Q => r x y H Q ∨ r' x y H Q) := by
  intro value slice pins s σ H x y v u Q I rx ry q hs
  rcases q with q | q
  · exact h value slice pins s σ H x y v u Q I rx ry q hs
  · exact h' value slice pins s σ H x y v u Q I rx ry q hs
theorem pe_ix {r : R2} (hr : IxR X r) (ha : PE X a ta) (hb : PE X b tb) (hs : PlainIx b) : PE X (.Subscript a b pos) (tOp r ta tb) := by
  intro pins s σ H Q I h
  exact Subscript_ (binT ha hb I h fun v u s2 x y H2 I2 rx ry q => hr a b pins s2 σ H2 x y v u Q I2 rx ry q (hs _ _))

noncomputable def rIxL (K : PySem.W.Frag) : R2 := fun x y H Q => ∃ p xs i v, x = .ref p ∧ y = .int i ∧ SqL K H p xs ∧ atI xs i = some v ∧ Q v H
noncomputable def rIxT (K : PySem.W.Frag) : R2 := fun x y H Q => ∃ p xs i v, x = .ref p ∧ y = .int i ∧ SqT K H p xs ∧ atI xs i = some v ∧ Q v H
noncomputable def rIxS : R2 := fun x y H Q => ∃ z i c, x = .str z ∧ y = .int i ∧ z.length ≤ sizeLine ∧ atI z.cps.toList i = some c ∧ Q (.str ⟨#[c]⟩) H
theorem ix_list : IxR X (rIxL X.K) := by
  intro value slice pins s σ H x y v u Q I rx ry h hs
  obtain ⟨p, xs, i, z, rfl, rfl, hq, he, q⟩ := h
  cases rx
  obtain ⟨t, rfl⟩ := ry
  obtain ⟨its, r, pl, hz⟩ := I.list hq
  obtain ⟨j, h1, h2, h3, h4, h5⟩ := atI_get he
  obtain ⟨w, ew, rw'⟩ := r.get h2
  have hl := r.length
  have hn := line63
  have fin : EP X pins σ Q w s := ⟨z, H, I, rw', q⟩
  by_cases h0 : 0 ≤ i
  · have hj : i.toNat = j := by
      rw [seqIndex_of h0 h5] at h1
      exact Option.some.inj h1
    exact item_listR pl.isList h0 (by walk_at "om") (by rw [hj]; simpa using ew) fin hs
  · have hj : (i + (its.toArray.size : Int)).toNat = j := by
      rw [seqIndex_neg (by walk_at "om") h4] at h1
      rw [List.size_toArray, ← hl]
      exact Option.some.inj h1
    exact subscriptTail_builtinR (x := w) pl.isList.typeIs slot_list_getitem.lookup
      (wpAny_getItem_list_neg (Q := fun r s' => r = w ∧ EP X pins σ Q r s') pl.isList (by walk_at "om") (by rw [List.size_toArray] <;> walk_at "om") (by walk_at "om") (by rw [hj]; simpa using ew) ⟨rfl, fin⟩) hs
theorem ix_tup : IxR X (rIxT X.K) := by
  intro value slice pins s σ H x y v u Q I rx ry h hs
  obtain ⟨p, xs, i, z, rfl, rfl, hq, he, q⟩ := h
  cases rx
  obtain ⟨t, rfl⟩ := ry
  obtain ⟨its, r, pl, hz⟩ := I.tuple hq
  obtain ⟨j, h1, h2, h3, h4, h5⟩ := atI_get he
  obtain ⟨w, ew, rw'⟩ := r.get h2
  have hl := r.length
  have hn := line63
  have fin : EP X pins σ Q w s := ⟨z, H, I, rw', q⟩
  exact subscriptTail_builtinR (x := w) pl.typeIs slot_tuple_getitem.lookup
    (getItem_tuple (j := j) (Q := fun r s' => r = w ∧ EP X pins σ Q r s') pl (by walk_at "om") (by walk_at "om") (by rw [List.size_toArray, ← hl]; exact h1) (by simpa using ew) ⟨rfl, fin⟩) hs
theorem ix_str : IxR X rIxS := by
  intro value slice pins s σ H x y v u Q I rx ry h hs
  obtain ⟨z, i, c, rfl, rfl, hz, he, q⟩ := h
  obtain ⟨t, rfl⟩ := rx
  obtain ⟨t', rfl⟩ := ry
  obtain ⟨j, h1, h2, h3, h4, h5⟩ := atI_get he
  have hl : z.cps.toList.length = z.length := by simp [Str.length]
  rw [hl] at h1 h4 h5
  have hn := line63
  exact tail_any (typeIs_str s z t) slot_str_getitem.lookup (getItem_str (c := c) (by
    have e1 : decide (i < -(2 ^ 63 : Int)) = false := decide_eq_false (by walk_at "om")
    have e2 : decide (i ≥ 2 ^ 63) = false := decide_eq_false (by walk_at "om")
    rw [e1, e2, Bool.or_false]) (by rw [h1]; simpa using h2) ⟨.str ⟨#[c]⟩, H, I.tok _, ⟨_, rfl⟩, q⟩) hs
noncomputable def rIx (K : PySem.W.Frag) : R2 := fun x y H Q => rIxL K x y H Q ∨ rIxT K x y H Q ∨ rIxS x y H Q
theorem ix_seq : IxR X (rIx X.K) := ix_list.or (ix_tup.or ix_str)

theorem mapSeq_set (its : List Value) (n j : Nat) (u : Value) : Obj.mapSeq (·.setIfInBounds j u) { cls := .type "list", data := .seq its.toArray n } = { cls := .type "list", data := .seq (its.set j u).toArray n } := by
  simp [Obj.mapSeq]
theorem Inv.lst {pins : List (Addr × Obj)} {σ : St} {H : Hp} {s : Shared} {p : Addr} {xs : List V} (I : Inv X pins σ H s) (h : H p = some (.lst xs)) :
    ∃ (its : List Value) (n : Nat), Vals xs its ∧ s.heap.get? p = some { cls := .type "list", data := .seq its.toArray n } ∧ xs.length ≤ sizeLine := by
  obtain ⟨z, its, n, r, e⟩ := I.hok p _ h
  exact ⟨its, n, r, e, z⟩
theorem Inv.lstUpd {pins : List (Addr × Obj)} {σ : St} {H : Hp} {s : Shared} {p : Addr} {xs ys : List V} {its its' : List Value} {n n' : Nat} {f : Obj → Obj} (I : Inv X pins σ H s) (h : H p = some (.lst xs))
    (ho : s.heap.get? p = some { cls := .type "list", data := .seq its.toArray n }) (hf : f { cls := .type "list", data := .seq its.toArray n } = { cls := .type "list", data := .seq its'.toArray n' }) (r : Vals ys its') (hz : ys.length ≤ sizeLine) (t : Nat) :
    Inv X pins σ (upd H p (.lst ys)) { s with heap := s.heap.update p f, toks := t } := by
  have e : (s.heap.update p f).get? p = some { cls := .type "list", data := .seq its'.toArray n' } := by
    rw [Heap.get?_update_self f ho (by rw [hf] <;> rfl), hf]
  refine I.write (x := p) (e := p) (by rw [h]; trivial) (.inl rfl) (fun b u hb q => (Heap.get?_update_other _ _ (Ne.symm hb)).trans q) ⟨_, e⟩ ?_
  exact ⟨hz, its', n', r, e⟩
noncomputable def rSetL : V → V → V → Hp → (Hp → Prop) → Prop := fun o i v H Q => ∃ p xs k j, o = .ref p ∧ i = .int k ∧ H p = some (.lst xs) ∧ ixN xs.length k = some j ∧ Q (upd H p (.lst (xs.set j v)))
theorem set_list : PSet X rSetL := by
  intro pins s σ H o i v ov iv u Q I ro ri rv h
  obtain ⟨p, xs, k, j, rfl, rfl, hp, hj, q⟩ := h
  cases ro
  obtain ⟨t, rfl⟩ := ri
  obtain ⟨its, n, r, ho, hz⟩ := I.lst hp
  obtain ⟨h1, h2, h3, h4⟩ := ixN_seq hj
  have hl := r.length
  have hn := line63
  have I' : Inv X pins σ (upd H p (.lst (xs.set j v))) { s with heap := s.heap.update p (Obj.mapSeq (·.setIfInBounds j u)) } :=
    I.lstUpd hp ho (mapSeq_set its n j u) (r.set rv j) (by rw [List.length_set]; exact hz) s.toks
  by_cases h0 : 0 ≤ k
  · have hk : k.toNat = j := by
      rw [seqIndex_of h0 h4] at h1
      exact Option.some.inj h1
    exact PySem.W.ki_setAt ho h0 (by walk_at "om") (by rw [List.size_toArray, ← hl]; exact h4) (by rw [hk]; exact ⟨_, I', q⟩)
  · have hk : (k + (its.toArray.size : Int)).toNat = j := by
      rw [seqIndex_neg (by walk_at "om") h3] at h1
      rw [List.size_toArray, ← hl]
      exact Option.some.inj h1
    exact PySem.W.ki_setBack ho (by walk_at "om") (by rw [List.size_toArray, ← hl]; exact h3) (by walk_at "om") (by rw [hk]; exact ⟨_, I', q⟩)

theorem slice_bounds (lo hi : Option Int) (n : Nat) : (sliceBounds lo hi none n).1 = ((HT.sIx n 0 lo : Nat) : Int) ∧ (sliceBounds lo hi none n).2.1 = ((HT.sIx n n hi : Nat) : Int) ∧ (sliceBounds lo hi none n).2.2 = 1 := by
  refine ⟨?_, ?_, rfl⟩
  · cases lo with
    | none => simp [sliceBounds, HT.sIx]
    | some i =>
      simp only [sliceBounds, HT.sIx, Option.getD_none, show (1 : Int) > 0 by decide, if_true]
      by_cases h : i < 0
      · simp only [h, if_true] <;> walk_at "om"
      · simp only [h, if_false] <;> walk_at "om"
  · cases hi with
    | none => simp [sliceBounds, HT.sIx]
    | some i =>
      simp only [sliceBounds, HT.sIx, Option.getD_none, show (1 : Int) > 0 by decide, if_true]
      by_cases h : i < 0
      · simp only [h, if_true] <;> walk_at "om"
      · simp only [h, if_false] <;> walk_at "om"
theorem slicePick_cut (its : List Value) (lo hi : Option Int) : slicePick its.toArray lo hi none = ((its.drop (HT.sIx its.length 0 lo)).take (HT.sIx its.length its.length hi - HT.sIx its.length 0 lo)).toArray := by
  obtain ⟨h1, h2, h3⟩ := slice_bounds lo hi its.toArray.size
  unfold slicePick
  rw [h1, h2, h3]
  simp only [sliceRange_one, pick_run, List.size_toArray] <;> rfl
noncomputable def rSlL (K : PySem.W.Frag) : V → Option Int → Option Int → Hp → VK → Prop := fun x lo hi H Q => ∃ a xs, x = .ref a ∧ SqL K H a xs ∧ ∀ p, H p = none → Q (.ref p) (upd H p (.lst (cutV xs lo hi)))
theorem sl_list : SlR X (rSlL X.K) := by
  intro pins s σ H x v vl vu lo hi sl Q I rx hs pl pu h
  obtain ⟨a, xs, rfl, hx, q⟩ := h
  cases rx
  obtain ⟨its, r, ht, hz⟩ := I.list hx
  have hlen := r.length
  refine ⟨"list", _, slot_list_getitem.lookup, ht.isList.typeIs, ?_⟩
  refine wpAny_getItem_list_slice ht.isList hs pl pu .none (by simp) ?_ (by rw [List.size_toArray] <;> walk_at "om")
  rw [slicePick_cut, ← hlen]
  refine ⟨.ref s.heap.objs.size, _, I.laid (t' := s.toks) (o := .lst (cutV xs lo hi)) (fun b ob q => Heap.get?_push_of_some _ q) (Nat.le_refl _) ?_, rfl, q _ (I.hok.fresh (Nat.le_refl _))⟩
  exact ⟨Nat.le_trans (cutV_length xs lo hi) hz, _, 0, (r.drop (HT.sIx xs.length 0 lo)).take (HT.sIx xs.length xs.length hi - HT.sIx xs.length 0 lo), Heap.get?_push_size _ rfl⟩

noncomputable def flatV : V → Bool
  | .non => true
  | .bl _ => true
  | .int _ => true
  | .str _ => true
  | _ => false
noncomputable def eqV : V → V → Bool
  | .non, .non => true
  | .bl a, .bl b => a == b
  | .bl a, .int b => (if a then 1 else 0) == b
  | .int a, .bl b => a == (if b then 1 else 0)
  | .int a, .int b => a == b
  | .str a, .str b => a == b
  | _, _ => false
theorem eqAt_V {A : Around} {s : Shared} {y x : V} {u v : Value} (ry : RelV y u) (rx : RelV x v) (fy : flatV y = true) (fx : flatV x = true) : SeqAt.EqAt A s u v (eqV y x) := by
  cases y with
  | non =>
    cases ry
    cases x with
    | non => cases rx; exact SeqAt.EqAt.same _
    | bl b => cases rx; exact SeqAt.EqAt.none_bool b
    | int b => obtain ⟨t, rfl⟩ := rx; exact SeqAt.EqAt.none_int b t
    | str b => obtain ⟨t, rfl⟩ := rx; exact SeqAt.EqAt.none_str b t
    | _ => exact absurd (show false = true from fx) Bool.false_ne_true
  | bl a =>
    cases ry
    cases x with
    | non => cases rx; exact SeqAt.EqAt.bool_none a
    | bl b => cases rx; exact SeqAt.EqAt.bool_bool a b
    | int b => obtain ⟨t, rfl⟩ := rx; exact SeqAt.EqAt.bool_int a b t
    | str b => obtain ⟨t, rfl⟩ := rx; exact SeqAt.EqAt.bool_str a b t
    | _ => exact absurd (show false = true from fx) Bool.false_ne_true
  | int a =>
    obtain ⟨t', rfl⟩ := ry
    cases x with
    | non => cases rx; exact SeqAt.EqAt.int_none a t'
    | bl b => cases rx; exact SeqAt.EqAt.int_bool a t' b
    | int b => obtain ⟨t, rfl⟩ := rx; exact SeqAt.EqAt.int_int a t' b t
    | str b => obtain ⟨t, rfl⟩ := rx; exact SeqAt.EqAt.int_str a t' b t
    | _ => exact absurd (show false = true from fx) Bool.false_ne_true
  | str a =>
    obtain ⟨t', rfl⟩ := ry
    cases x with
    | non => cases rx; exact SeqAt.EqAt.str_none a t'
    | bl b => cases rx; exact SeqAt.EqAt.str_bool a t' b
    | int b => obtain ⟨t, rfl⟩ := rx; exact SeqAt.EqAt.str_int a t' b t
    | str b => obtain ⟨t, rfl⟩ := rx; exact SeqAt.EqAt.str_str a t' b t
    | _ => exact absurd (show false = true from fx) Bool.false_ne_true
  | _ => exact absurd (show false = true from fy) Bool.false_ne_true
noncomputable def eqU (x : V) (u : Value) : Bool := match u with
  | .none => eqV .non x
  | .bool b => eqV (.bl b) x
  | .int i _ => eqV (.int i) x
  | .str z _ => eqV (.str z) x
  | _ => false
theorem eqU_of {x y : V} {u : Value} (r : RelV y u) (f : flatV y = true) : eqU x u = eqV y x := by
  cases y with
  | non => cases r; rfl
  | bl b => cases r; rfl
  | int i => obtain ⟨t, rfl⟩ := r; rfl
  | str z => obtain ⟨t, rfl⟩ := r; rfl
  | _ => exact absurd (show false = true from f) Bool.false_ne_true
theorem any_eqU {x : V} : ∀ {xs : List V} {us : List Value}, Vals xs us → xs.all flatV = true → us.any (eqU x) = xs.any fun y => eqV y x
  | _, _, .nil, _ => rfl
  | y :: xs, u :: us, .cons r t, f => by
    rw [List.all_cons, Bool.and_eq_true] at f
    rw [List.any_cons, List.any_cons, eqU_of r f.1, any_eqU t f.2]
theorem mem_eqAt {A : Around} {s : Shared} {x : V} {v : Value} (rx : RelV x v) (fx : flatV x = true) : ∀ {xs : List V} {us : List Value}, Vals xs us → xs.all flatV = true → ∀ u ∈ us, SeqAt.EqAt A s u v (eqU x u)
  | _, _, .nil, _ => fun u hu => by cases hu
  | y :: xs, u :: us, .cons r t, f => fun u' hu => by
    rw [List.all_cons, Bool.and_eq_true] at f
    rcases List.mem_cons.mp hu with rfl | hu
    · rw [eqU_of r f.1]; exact eqAt_V r rx f.1 fx
    · exact mem_eqAt rx fx t f.2 u' hu
noncomputable def inV (x : V) (xs : List V) : Bool := xs.any fun y => eqV y x
noncomputable def rIn (K : PySem.W.Frag) (neg : Bool) : R2 := fun x y H Q => ∃ p xs, y = .ref p ∧ (SqL K H p xs ∨ SqT K H p xs) ∧ flatV x = true ∧ xs.all flatV = true ∧ Q (.bl (if neg then !inV x xs else inV x xs)) H
theorem op_notIn_seq : OpR X (compareOp .NotIn) (rIn X.K true) := by
  intro pins s σ H x y v u Q I rx ry h
  obtain ⟨p, xs, rfl, hq, fx, fs, q⟩ := h
  cases ry
  rcases hq with hq | hq
  · obtain ⟨its, r, pl, hz⟩ := I.list hq
    refine SeqAt.notIn_listAt (eqU x) pl.isList (fun w hw => mem_eqAt rx fx r fs w (by simpa using hw)) ⟨.bl _, H, I, rfl, ?_⟩
    rw [show its.toArray.any (eqU x) = its.any (eqU x) by simp, any_eqU r fs]
    exact q
  · obtain ⟨its, r, pl, hz⟩ := I.tuple hq
    refine SeqAt.notIn_tupleAt (eqU x) pl (fun w hw => mem_eqAt rx fx r fs w (by simpa using hw)) ⟨.bl _, H, I, rfl, ?_⟩
    rw [show its.toArray.any (eqU x) = its.any (eqU x) by simp, any_eqU r fs]
    exact q
theorem call_tuple_of : CallR X (.type "tuple") (fun xs H Q => ∃ p ys, xs = [.ref p] ∧ ((SqL X.K H p ys ∧ ∀ l, H l = none → Q (.ref l) (upd H l (.tup ys))) ∨ (SqT X.K H p ys ∧ Q (.ref p) H))) := by
  intro pins s σ H xs us Q I r h
  obtain ⟨p, ys, rfl, h⟩ := h
  obtain ⟨u, rfl, rx⟩ := vals1 r
  cases rx
  rcases h with ⟨hq, q⟩ | ⟨hq, q⟩
  · obtain ⟨its, r', pl, hz⟩ := I.list hq
    have hlen := r'.length
    refine call_tuple_list pl.isList (fun h' kp => ?_) (by simp only [List.size_toArray] <;> walk_at "om")
    have I1 : Inv X pins σ H { s with heap := h' } := I.kept (t' := s.toks) kp
    have I2 : Inv X pins σ (upd H h'.objs.size (.tup ys)) { s with heap := h'.push { cls := .type "tuple", data := .seq its.toArray } } :=
      I1.laid (t' := s.toks) (fun b o e => Heap.get?_push_of_some _ e) (Nat.le_refl _) (show ObjOk X.prog X.w _ _ _ (.tup ys) from ⟨hz, its, r', PTup.new _ _⟩)
    exact ⟨.ref h'.objs.size, _, I2, rfl, q _ (I1.hok.fresh (Nat.le_refl _))⟩
  · obtain ⟨its, r', pl, hz⟩ := I.tuple hq
    exact call_tuple_same pl ⟨.ref p, H, I, rfl, q⟩

noncomputable def tyV (K : PySem.W.Frag) (T : String) (x : V) (H : Hp) : Prop := match x with
  | .str _ => T = "str"
  | .int _ => T = "int"
  | .ref p => (T = "list" ∧ ∃ xs, SqL K H p xs) ∨ (T = "tuple" ∧ ∃ o, K.lookup p = some o ∧ o.cls = .type "tuple" ∧ o.dict = none) ∨
      (T = "dict" ∧ ((∃ kvs, H p = some (.dK kvs)) ∨ ∃ kvs, H p = some (.dT kvs))) ∨ (T = "set" ∧ ∃ S n, H p = some (.set S n)) ∨ (T = "tuple" ∧ ∃ xs, H p = some (.tup xs))
  | _ => False
theorem tyV_is {pins : List (Addr × Obj)} {σ : St} {H : Hp} {s : Shared} {T : String} {x : V} {v : Value} (I : Inv X pins σ H s) (r : RelV x v) (ty : tyV X.K T x H) :
    s.TypeIs v T ∧ ∀ a, v = .ref a → ∃ ob, s.heap.get? a = some ob ∧ ob.dict = none := by
  cases x with
  | str z =>
    obtain ⟨t, rfl⟩ := r
    cases (show T = "str" from ty)
    exact ⟨typeIs_str s z t, fun _ e => nomatch e⟩
  | int i =>
    obtain ⟨t, rfl⟩ := r
    cases (show T = "int" from ty)
    exact ⟨typeIs_int s i t, fun _ e => nomatch e⟩
  | ref p =>
    cases r
    rcases ty with ⟨rfl, xs, hq⟩ | ⟨rfl, o, hk, hc, hd⟩ | ⟨rfl, hk⟩ | ⟨rfl, S, n, hk⟩ | ⟨rfl, xs, hk⟩
    rotate_left 4
    · obtain ⟨_, its, _, o, e, c, _, hd⟩ := I.hok p _ hk
      exact ⟨⟨o, e, c⟩, fun a e2 => by cases e2; exact ⟨o, e, hd⟩⟩
    · obtain ⟨its, _, pl, _⟩ := I.list hq
      refine ⟨pl.isList.typeIs, fun a e => ?_⟩
      cases e
      obtain ⟨o, n, e, c, hd, _⟩ := pl
      exact ⟨o, e, hd⟩
    · refine ⟨⟨o, I.kIn p o hk, hc⟩, fun a e => ?_⟩
      cases e
      exact ⟨o, I.kIn _ o hk, hd⟩
    · have z : ∃ o, s.heap.get? p = some o ∧ o.ExactDict := by
        rcases hk with ⟨kvs, hk⟩ | ⟨kvs, hk⟩
        · obtain ⟨_, _, _, _, o, _, _, e, ex, _⟩ := I.hok p _ hk
          exact ⟨o, e, ex⟩
        · obtain ⟨_, _, _, _, o, _, _, e, ex, _⟩ := I.hok p _ hk
          exact ⟨o, e, ex⟩
      obtain ⟨o, e, ex⟩ := z
      refine ⟨⟨o, e, ex.1⟩, fun a e2 => ?_⟩
      cases e2
      exact ⟨o, e, ex.2.1⟩
    · obtain ⟨o, _, _, _, e, ex, _⟩ := I.hok p _ hk
      refine ⟨⟨o, e, ex.1⟩, fun a e2 => ?_⟩
      cases e2
      exact ⟨o, e, ex.2.1⟩
  | _ => exact False.elim ty
noncomputable def tBM0 (K : PySem.W.Frag) (T : String) (r : V → List V → Hp → VK → Prop) (to : TE) : TE := fun σ H Q => to σ H fun x H1 => tyV K T x H1 ∧ r x [] H1 Q
noncomputable def tBM (K : PySem.W.Frag) (T : String) (r : V → List V → Hp → VK → Prop) (to : TE) (t : TA) : TE := fun σ H Q => to σ H fun x H1 => tyV K T x H1 ∧ t σ H1 fun xs H2 => r x xs H2 Q
variable {o e : Expr} {es : List Expr} {to : TE} {t : TA} {name : Str} {apos cpos : Pos} {T id : String} {r : V → List V → Hp → VK → Prop}
theorem pe_bm0 (pa : PlainAttrs T) (slot : Slot T name id) (hty : typeOf (.builtin id) = pure (.type "method_descriptor")) (hm : MtR X id r) (ho : PE X o to)
    (hbase : attributeBase o name X.env (eval o X.env) = eval o X.env := by rfl) (hline : (apos.endLine == cpos.line) = true := by rfl) : PE X (.Call (.Attribute o name apos) [] [] cpos) (tBM0 X.K T r to) := by
  intro pins s σ H Q I h
  refine wpAny_Call_method0_late hbase hline (thn (ho pins s σ H _ I h) fun v s1 ⟨x, H1, I1, r1, ty, q1⟩ => ?_)
  obtain ⟨h1, h2⟩ := tyV_is I1 r1 ty
  exact ⟨T, id, pa, slot, hty, h1, h2, Calls.callWith_builtin rfl (PySem.evalArgs_none (hm pins s1 σ H1 x [] v [] Q I1 r1 .nil q1))⟩
theorem pe_bm (pa : PlainAttrs T) (slot : Slot T name id) (hty : typeOf (.builtin id) = pure (.type "method_descriptor")) (hm : MtR X id r) (ho : PE X o to) (ha : PA X (e :: es) t)
    (hbase : attributeBase o name X.env (eval o X.env) = eval o X.env := by rfl)
    (hfew : ((backTo cpos (starEach (e :: es) X.env)).all (fun x => !x.1) && (backToKw cpos (keywordEach [] X.env)).all (fun x => x.1.isSome)
      && decide ((e :: es).length + ([] : List Keyword).length + (if ([] : List Keyword).isEmpty then 0 else 1) < 30)) = true := by rfl)
    (hline : (apos.endLine == cpos.line) = true := by rfl) (hs : starEach (e :: es) X.env = (false, eval e X.env) :: starEach es X.env := by rfl) (hplain : (backTo cpos (starEach es X.env)).any (·.1) = false := by rfl) :
    PE X (.Call (.Attribute o name apos) (e :: es) [] cpos) (tBM X.K T r to t) := by
  intro pins s σ H Q I h
  refine wpAny_Call_method_late hbase hfew hline rfl (thn (ho pins s σ H _ I h) fun v s1 ⟨x, H1, I1, r1, ty, q1⟩ => ?_)
  obtain ⟨h1, h2⟩ := tyV_is I1 r1 ty
  refine ⟨T, id, pa, slot, hty, h1, h2, ?_⟩
  have hA := ha cpos pins s1 σ H1 _ I1 q1
  rw [hs] at hA ⊢
  refine Calls.callWith_builtin (by show (false || (backTo cpos (starEach es X.env)).any (·.1)) = false; rw [hplain] <;> rfl) (Calls.evalArgs_plain ?_)
  exact thn hA fun us s2 ⟨vs, H2, I2, r2, q2⟩ => hm pins s2 σ H2 x vs v us Q I2 r1 r2 q2
/- xs.append(e), list.index on a module's tuple .. are MtR facts of 06m -/
end
end L2

namespace L2
open PySem PySem.Spec PyProof.Rows

noncomputable def MtM (X : Cx) (id : String) (r : V → List V → Hp → VK → Prop) : Prop :=
  ∀ (pins : List (Addr × Obj)) (s : Shared) (σ : St) (H : Hp) (x : V) (xs : List V) (v : Value) (us : List Value) (Q : VK), Inv X pins σ H s → RelV x v → Vals xs us → r x xs H Q →
    wpAny (model X.prog X.w) X.A (call (.builtin id) (v :: us)) (EP X pins σ Q) X.xe s

theorem Vals.one : ∀ {x : V} {us : List Value}, Vals [x] us → ∃ u, us = [u] ∧ RelV x u
  | _, _, .cons r .nil => ⟨_, rfl, r⟩
section
variable {X : Cx} {pins : List (Addr × Obj)} {σ : St} {H : Hp} {s : Shared} {l b : Addr} {xs ys zs : List V}

theorem Inv.lset {its its' : List Value} {n : Nat} {f : Array Value → Array Value} {t' : Nat} (I : Inv X pins σ H s) (hH : H l = some (.lst xs))
    (e : s.heap.get? l = some { cls := .type "list", data := .seq its.toArray n }) (hf : f its.toArray = its'.toArray) (hv : Vals ys its') (hz : ys.length ≤ sizeLine) :
    Inv X pins σ (upd H l (.lst ys)) { s with heap := s.heap.update l (Obj.mapSeq f), toks := t' } := by
  have q := PySem.IsL.update e f
  rw [hf] at q
  refine I.write (x := l) (e := l) (by rw [hH]; exact trivial) (.inl rfl) (fun b' u hb hu => (Heap.get?_update_other s.heap (Obj.mapSeq f) (Ne.symm hb)).trans hu) ⟨_, q⟩ ?_
  exact ⟨hz, its', _, hv, q⟩
theorem Inv.lnew {its : List Value} {t' : Nat} (I : Inv X pins σ H s) (hv : Vals ys its) (hz : ys.length ≤ sizeLine) :
    Inv X pins σ (upd H s.heap.objs.size (.lst ys)) { s with heap := s.heap.push { cls := .type "list", data := .seq its.toArray }, toks := t' } :=
  I.laid (fun _ _ q => Heap.get?_push_of_some _ q) (Nat.le_refl _) ⟨hz, its, 0, hv, Heap.get?_push_size _ rfl⟩
theorem Inv.fresh (I : Inv X pins σ H s) : H s.heap.objs.size = none := I.hok.fresh (Nat.le_refl _)
theorem Inv.lstM (I : Inv X pins σ H s) (hH : H l = some (.lst xs)) : xs.length ≤ sizeLine ∧ ∃ (its : List Value) (n : Nat), Vals xs its ∧ xs.length = its.length ∧ s.heap.get? l = some { cls := .type "list", data := .seq its.toArray n } := by
  obtain ⟨z, its, n, r, e⟩ := I.hok l _ hH
  exact ⟨z, its, n, r, r.length, e⟩

end

section
variable {X : Cx}

noncomputable def rAppend : V → List V → Hp → VK → Prop := fun x vs H Q => ∃ l xs y, x = .ref l ∧ vs = [y] ∧ H l = some (.lst xs) ∧ xs.length < sizeLine ∧ Q .non (upd H l (.lst (xs ++ [y])))
theorem mt_append : MtM X "list.append" rAppend := by
  intro pins s σ H x vs v us Q I rx rv h
  obtain ⟨l, xs, y, rfl, rfl, hH, hz, q⟩ := h
  cases rx
  obtain ⟨u, rfl, ru⟩ := rv.one
  obtain ⟨z, its, n, r, hl, e⟩ := I.lstM hH
  refine call_meets F.slot_list_append ⟨_, e, rfl⟩ F.entry_list_append (F.args_list_append_2 _ _) (PySem.list_append l its.toArray n u (by rw [List.size_toArray]; walk_at "om")) ⟨e, ?_⟩
  refine ⟨.non, _, I.lset (its' := its ++ [u]) hH e (by simp) (r.append (.cons ru .nil)) ?_, rfl, q⟩
  rw [List.length_append, List.length_singleton]
  walk_at "om"

noncomputable def rCat : R2 := fun x y H Q => ∃ l b xs zs, x = .ref l ∧ y = .ref b ∧ H l = some (.lst xs) ∧ H b = some (.lst zs) ∧ xs.length + zs.length ≤ sizeLine ∧ ∀ p, H p = none → Q (.ref p) (upd H p (.lst (xs ++ zs)))
theorem op_cat : OpR X (binaryOp .Add) rCat := by
  intro pins s σ H x y v u Q I rx ry h
  obtain ⟨l, b, xs, zs, rfl, rfl, hH, hB, hz, q⟩ := h
  cases rx
  cases ry
  obtain ⟨z, its, n, r, hl, e⟩ := I.lstM hH
  obtain ⟨z2, its2, n2, r2, hl2, e2⟩ := I.lstM hB
  refine PySem.P.add_list e e2 ?_ (by rw [List.size_toArray, List.size_toArray]; walk_at "om")
  have ea : its.toArray ++ its2.toArray = (its ++ its2).toArray := by simp
  rw [ea]
  exact ⟨.ref _, _, I.lnew (t' := s.toks) (r.append r2) (by rw [List.length_append]; walk_at "om"), rfl, q _ I.fresh⟩
end

section
variable {prog : Program} {w : World} {A : Around} {E : Value → Shared → Prop} {s : Shared}
set_option maxRecDepth 100000 in
end

section
variable {X : Cx}
end
end L2

namespace Att
open PySem PySem.W PySem.Calls PyProof.Rows

theorem ints_of_wellAll {P : Params} {h : Heap} : ∀ (ns : List Int) (vs : List Value), WellAll P h vs (ns.map WData.int) → IntsAre vs ns := by
  intro ns
  induction ns with
  | nil =>
    intro vs w
    rw [List.map_nil] at w
    cases w
    exact .nil
  | cons n ns ih =>
    intro vs w
    rw [List.map_cons] at w
    cases w with
    | cons a b =>
      cases a
      exact .cons _ _ (ih _ b)

theorem script_of {l : OpenLaw} {n : Nat} (hn : l.most = some n) {P : Params} {h : Heap} {args : List WData} {vals : List Value}
    (hpre : l.row.toRowW.claim.pre args = true) (hwl : WellAll P h vals args) :
    ∃ a vs ns, vals = [Value.ref a] ∧ args = [WData.list (ns.map WData.int)] ∧ h.get? a = some { cls := .type "list", data := .seq vs.toArray } ∧ IntsAre vs ns ∧ ns.length ≤ n := by
  have hsh : WShape.hasAll [] args [.list .int] = true := (pre_splitW hpre).1
  have hc : l.pre.holds [] { args := args } = true := (pre_splitW hpre).2
  obtain ⟨d, r, rfl, h1, h2⟩ := hasAllW_cons hsh
  obtain rfl := hasAllW_nil h2
  obtain ⟨xs, rfl, h3⟩ := hasW_list h1
  obtain ⟨ns, rfl⟩ := items_int h3
  have hlen : ns.length ≤ n := by
    unfold OpenLaw.pre at hc
    have h4 : (WTm.not (.lt (.lit (.int (n : Int))) (.len (.arg 0)))).holds [] { args := [.list (ns.map .int)] } = true := by
      have h4 := (holds_andW hc).1
      rw [hn] at h4
      exact h4
    have h5 := condW_of h4 (w_not (w_lt w_lit (w_len_list (w_arg rfl))))
    rw [List.length_map] at h5
    refine Nat.le_of_not_lt fun q => ?_
    have q' : (n : Int) < ((ns.length : Nat) : Int) := by walk_at "om"
    first
      | (rw [decide_eq_true q'] at h5; exact absurd h5 (by decide))
      | (simp at h5; walk_at "om")
  cases hwl with
  | cons w1 w2 =>
    cases w2
    cases w1 with
    | list ho hall => exact ⟨_, _, ns, rfl, rfl, ho, ints_of_wellAll ns _ hall, hlen⟩

theorem post_true (l : OpenLaw) (args : List WData) : l.row.toRowW.claim.post args (.bool true) args = true :=
  postW_of (r := l.row.toRowW) (X := (true == true))
    (show WShape.has [] (.bool true) .bool = true by first | rfl | decide | simp [WShape.has, WShape.arms, WShape.armsAll])
    (show (WTm.eq .res (.lit (.bool true))).value [] { args := args, res := some (.bool true), after := args } = some (.bool (true == true)) from w_eq_bool (w_res rfl) w_lit) rfl

theorem attach_call {l : OpenLaw} {n : Nat} {q : Program} {loose : List Str} {XP : (Str → Option Value) → Heap → Prop} {YP : World → Heap → Prop} {d : DefRec}
    (hn : l.most = some n) (hdf : d.params.defaults = [])
    (call : ∀ (w : World) (s₀ s₁ : Shared) (mg mb : Str → Option Value) (fa : Addr) (o : Obj) (pm cd doc : Value) (a : Addr) (vs : List Value) (ns : List Int),
      Ground q loose [] XP w s₀ mg mb s₁.heap → YP w s₁.heap →
      s₁.heap.get? fa = some o → o.data = .func (docDef d.name d.params d.body d.scope pm cd doc) → s₁.heap.CodeRec cd d.name → mg d.name = some (.ref fa) →
      s₁.heap.get? a = some { cls := .type "list", data := .seq vs.toArray } → IntsAre vs ns → ns.length ≤ n → s₁.gens = #[] →
      codeAny (model l.prog w) callerA (.call (.ref fa) ⟨[.ref a], []⟩) (fun r s' => r = .ok (.ret (.bool true)) ∧ OldK s₁.heap s'.heap ∧ s'.os = s₁.os ∧ AllBare s'.gens) s₁) :
    WalkO q loose XP YP l.row.toRowW d [] (fun f vs => PySem.call f vs) := by
  intro w s₀ s₁ mg mb G Y fa o pm cd doc dV kV ho hd hcd hD hmg hg args vals as hpre hlay hrd hwl hlo
  obtain rfl : dV = .none := Dflts.none hD hdf
  obtain rfl : kV = .none := Dflts.noKw hD
  obtain ⟨a, vs, ns, rfl, rfl, hobj, hints, hlen⟩ := script_of hn hpre hwl
  refine enter_call (codeAny_mono (call w s₀ s₁ mg mb fa o pm cd doc a vs ns G Y ho (fd_plain hd) hcd hmg hobj hints hlen hg) fun r s' hq => ?_)
  obtain ⟨rfl, h2, h3, h4⟩ := hq
  exact ⟨.inl ⟨.bool true, .bool true, [], rfl, fun _ => rfl, .bool true, post_true l _, fun _ => ⟨List.Pairwise.nil, fun _ hm => (nomatch hm)⟩⟩, h2, h3, h4⟩

section
variable {prog : Program} {w : World} {A : Around} {E : Value → Shared → Prop} {s : Shared} {K : Frag}

end
end Att

namespace L2
open PySem PySem.Spec PyProof.Rows

theorem vals_ints : ∀ {vs : List Value} {ns : List Int}, IntsAre vs ns → Vals (ns.map V.int) vs
  | _, _, .nil => .nil
  | _, _, .cons n t h => .cons ⟨t, rfl⟩ (vals_ints h)

noncomputable def Only (H : Hp) : Prop := ∀ b, H b = none ∨ ∃ o xs, H b = some (.frz o (.lst xs))

theorem law_call {P : Program} {w : World} {K : PySem.W.Frag} {mg mb : Str → Option Value} {CX : CXT} {k : Nat} {fa a : Addr} {fd : FuncData} {x : Str} {sp : Sp} {s₁ : Shared} {vs : List Value} {ns : List Int}
    (KX : K.In s₁.heap) (hns : s₁.heap.Ns mainGlobals mg) (hb : s₁.heap.Ns builtinsNs mb) (hbb : ∀ x : Str, x ≠ "__name__" → mb x = bootBuiltins x) (hlim : s₁.heap.NoLimit) (hg : s₁.gens = #[])
    (ha : s₁.heap.get? a = some { cls := .type "list", data := .seq vs.toArray }) (hi : IntsAre vs ns) (hl : ns.length ≤ sizeLine) (hr : Room k callerA)
    (F : ∀ base : Heap, K.In base → base.Ns mainGlobals mg → FnOk P w K mg base CX k fa fd [x] sp) (hbind : ∀ (s : Shared) (u : Value), BindsTo s fd ⟨[u], []⟩ [(x, u)])
    (hsp : ∀ H : Hp, Only H → SqL K H a (ns.map V.int) → sp [.ref a] H (fun v _ => v = .bl true) fun _ _ _ => False)
    (hCX : ∀ H e s', CX [] H s₁ (fun _ _ _ => False) e s' → False) :
    codeAny (model P w) callerA (.call (.ref fa) ⟨[.ref a], []⟩) (fun r s' => r = .ok (.ret (.bool true)) ∧ OldK s₁.heap s'.heap ∧ s'.os = s₁.os ∧ AllBare s'.gens) s₁ := by
  have rv := vals_ints hi
  have lenV := hi.length
  -- from an abstract heap in which nothing but the script may be tracked
  have core : ∀ H : Hp, Only H → SqL K H a (ns.map V.int) → HOk P w H s₁.heap → (∀ b, H b ≠ none → b = a) → (H a ≠ none → K.lookup a = none) →
      codeAny (model P w) callerA (.call (.ref fa) ⟨[.ref a], []⟩) (fun r s' => r = .ok (.ret (.bool true)) ∧ OldK s₁.heap s'.heap ∧ s'.os = s₁.os ∧ AllBare s'.gens) s₁ := by
    intro H hO hS hok hA hK
    have base_of : ∀ {b : Addr} {o : Obj}, s₁.heap.get? b = some o → H b = none → (hidT s₁.heap H).get? b = some o := fun e n => hidT_get e n
    have noA : ∀ {b : Addr} {o : Obj} {es : Array DictEntry} {ep : Nat}, s₁.heap.get? b = some o → o.data = .dict es ep → H b = none := fun {b o es ep} e d => by
      cases q : H b with
      | none => rfl
      | some u =>
        have e' : b = a := hA b (by rw [q]; simp)
        subst e'
        rw [ha] at e; cases e
        have d' : Data.seq vs.toArray _ = Data.dict es ep := d
        cases d'
    have nsK : ∀ {b : Addr} {m : Str → Option Value}, s₁.heap.Ns b m → (hidT s₁.heap H).Ns b m := fun {b m} ⟨o, es, ep, e, d, r⟩ => ⟨o, es, ep, base_of e (noA e d), d, r⟩
    have hKb : K.In (hidT s₁.heap H) := fun b o e => base_of (KX b o e) (by
      cases q : H b with
      | none => rfl
      | some u =>
        have e' : b = a := hA b (by rw [q]; simp)
        subst e'
        rw [hK (by rw [q]; simp)] at e; cases e)
    have hM : Mod K mg (hidT s₁.heap H) := ⟨hKb, nsK hns, ⟨mb, nsK hb, hbb⟩, let ⟨mc, h1, h2⟩ := hlim; ⟨mc, nsK h1, h2⟩⟩
    have e0 : Env0 P w K mg (hidT s₁.heap H) callerA [] s₁ H := ⟨rfl, hM, fun b o e => of_hidT e, Nat.le_of_eq (hidT_size _ _), trivial, fun b hb => absurd (show b ∈ ([] : List Addr) from hb) (by simp), hok, .of_eq hg⟩
    refine codeAny_mono ((F _ hKb (nsK hns)).run callerA [] s₁ H ⟨[.ref a], []⟩ [.ref a] [.ref a] _ _ hr e0 (hbind s₁ (.ref a)) (.cons rfl .nil) (hsp H hO hS)) fun r s' h => ?_
    cases r with
    | error e => exact (hCX H e s' h).elim
    | ok fl =>
      cases fl with
      | next => exact False.elim h
      | brk => exact False.elim h
      | cont => exact False.elim h
      | ret u =>
        obtain ⟨v, H', os, bare, un, hok', r', q⟩ := h
        have q' : v = .bl true := q
        subst q'
        obtain rfl : u = Value.bool true := r'
        refine ⟨rfl, OldK.of_keep fun b o e => ?_, os, bare⟩
        cases q : H b with
        | none => exact un.keep b o e q (by intro z; exact absurd (show b ∈ ([] : List Addr) from z) (by simp)) (by simp)
        | some u =>
          rcases hO b with z | ⟨ob, xs, z⟩
          · rw [q] at z; cases z
          · have z2 := un.frzs b ob _ z
            obtain ⟨e1, _⟩ := hok b _ z
            obtain ⟨e2, _⟩ := hok' b _ z2
            rw [e] at e1; cases e1
            exact e2
  cases hk : K.lookup a with
  | some o =>
    -- the script is one of the module's own objects
    have e := KX a o hk
    rw [ha] at e
    cases e
    refine core (fun _ => none) (fun _ => .inl rfl) (.inr ⟨_, vs.toArray, _, hk, rfl, rfl, rfl, by rw [List.size_toArray, lenV]; exact hl, by simpa using rv⟩) (fun b u z => by have z' : (none : Option HO) = some u := z; cases z') (fun b z => absurd rfl z) fun z => absurd rfl z
  | none =>
    refine core (fun b => if b = a then some (.frz { cls := .type "list", data := .seq vs.toArray } (.lst (ns.map V.int))) else none) (fun b => ?_) (.inl (.inr ⟨{ cls := .type "list", data := .seq vs.toArray }, if_pos rfl⟩)) (fun b u z => ?_) (fun b z => ?_) fun _ => hk
    · by_cases hb : b = a
      · exact .inr ⟨_, _, if_pos hb⟩
      · exact .inl (if_neg hb)
    · by_cases hb : b = a
      · have z' := (if_pos hb).symm.trans z
        cases z'
        subst hb
        exact ⟨ha, by rw [List.length_map]; exact hl, vs, _, rv, ha⟩
      · have z' := (if_neg hb).symm.trans z
        cases z'
    · by_cases hb : b = a
      · exact hb
      · exact absurd (if_neg hb) z
end L2

namespace L2
open PySem PySem.Spec PyProof.Rows

theorem walk_of {l : PySem.W.OpenLaw} {n k : Nat} {q : Program} {loose : List Str} {XP : (Str → Option Value) → Heap → Prop} {YP : World → Heap → Prop} {d : DefRec} {K : Params → PySem.W.Frag} {CX : World → CXT} {sp : World → Sp} {x : Str}
    (hn : l.most = some n) (hn2 : n ≤ sizeLine) (hdf : d.params.defaults = []) (hr : Room k callerA)
    (hY : ∀ (w : World) (h : Heap), YP w h → (K w.params).In h)
    (F : ∀ (w : World) (mg : Str → Option Value) (fa : Addr) (h : Heap), (K w.params).In h → h.Ns mainGlobals mg → mg d.name = some (.ref fa) →
      ∃ fd : FuncData, (∀ (s : Shared) (u : Value), BindsTo s fd ⟨[u], []⟩ [(x, u)]) ∧
        ∀ base : Heap, (K w.params).In base → base.Ns mainGlobals mg → FnOk l.prog w (K w.params) mg base (CX w) k fa fd [x] (sp w))
    (hsp : ∀ (w : World) (H : Hp) (a : Addr) (ns : List Int), ns.length ≤ n → Only H → SqL (K w.params) H a (ns.map V.int) → sp w [.ref a] H (fun v _ => v = .bl true) fun _ _ _ => False)
    (hCX : ∀ (w : World) (H : Hp) (s : Shared) (e : Value) (s' : Shared), CX w [] H s (fun _ _ _ => False) e s' → False) :
    PySem.W.WalkO q loose XP YP l.row.toRowW d [] (fun f vs => PySem.call f vs) := by
  refine Att.attach_call hn hdf fun w s₀ s₁ mg mb fa o pm cd doc a vs ns G Y ho hd hcd hmg hobj hints hlen hg => ?_
  have KX := hY w _ Y
  obtain ⟨fd, hb, hF⟩ := F w mg fa _ KX G.T.g hmg
  exact law_call KX G.T.g G.T.b G.T.builtins G.T.nolimit hg hobj hints (Nat.le_trans hlen hn2) hr hF hb (fun H hO hS => hsp w H a ns hlen hO hS) fun H e s' => hCX w H s₁ e s'
end L2

/- THE LAST THEOREM (shape; LID, My.* are yours):
   My.Adr: a structure of the addresses that your layer names (classes, functions); My.Txt K t: a structure (Prop) of the equations over K;
   My.txt_mk : {K} {implicit addresses ..} (e1 : nsIn K mainGlobals "law" = some (some (.ref f))) (e2 : K.lookup f = some ⟨oc, od, .func (fnOf "law" "law" params body scope dV kV doc pm an cdv ct), sl⟩) (e3 : codeIn K cdv "law" = true) .. : ∃ t, My.Txt K t

set_option maxRecDepth 100000 in
set_option maxHeartbeats 0 in
theorem PySem.Challenge.cw_LID_holds : PySem.Challenge.rw_LID.Holds := by
  w_on; o_law; k_head; (case hw => w_witness2)
  k_fill
  refine L2.walk_of (l := PySem.Challenge.rw_LID) (n := 63) (k := 40) (x := "script") (CX := fun w => ..) (sp := fun _ => My.sp_law) rfl (by decide) rfl ⟨rfl, by decide, by decide⟩ (fun w h Y => PySem.W.kIn_of Y) ?F ?S ?C
  case F =>
    intro w mg fa h KX G hmg
    have T : ∃ t, My.Txt (L2.KOf KX) t := by
      dsimp only [L2.KOf]                          -- K must stand as «<heap const> w.params» for k_is
      refine' My.txt_mk ?e1 ?e2 ?e3 ..
      (case e1 => PySem.W.k_is)                    -- in the order: a name -> its address -> its object -> its parts
      (case e2 => PySem.W.k_is)
      ..
    obtain ⟨t, T⟩ := T
    have e0 := hmg.symm.trans (PySem.W.mg_of KX G T.law)
    cases e0                                       -- fa is the law's own address
    exact ⟨_, fun s u => .of_eq rfl, fun base kb nb => My.law_fn T kb nb⟩     -- if «.of_eq rfl» comes too early: refine' ⟨_, ?b, fun base kb nb => My.law_fn T kb nb⟩; exact fun s u => .of_eq rfl
  case S => exact fun w H a ns hl hO hS => ..
  case C => exact ..
(the tactic k_is has no namespace: write k_is) -/

namespace L2
open PySem PySem.Spec PyProof.Rows

noncomputable def defArgs (s : Stmt) : Arguments := match s with
  | .FunctionDef _ a _ _ _ _ _ _ _ _ => a
  | _ => { posonlyargs := [], args := [], vararg := none, kwonlyargs := [], kw_defaults := [], kwarg := none, defaults := [] }
noncomputable def defBody (s : Stmt) : List Stmt := match s with
  | .FunctionDef _ _ b _ _ _ _ _ _ _ => b
  | _ => []
noncomputable def defScope (s : Stmt) : Scope := match s with
  | .FunctionDef _ _ _ _ _ _ sc _ _ _ => sc
  | _ => { kind := .function, names := [], isGenerator := false, isCoroutine := false }

noncomputable abbrev CX0 : CXT := fun _ _ _ _ _ _ => False
noncomputable abbrev E0 : XK := fun _ _ _ => False
theorem pass0 {X : Cx} : Passes CX0 X E0 := fun _ _ _ _ _ _ _ h => h.elim

structure Fun (K : PySem.W.Frag) (x qual : Str) (st : Stmt) (f : Addr) (fd : FuncData) : Prop where
  ex : ∃ (oc : Value) (od : Option Addr) (kV doc pm : Value) (an : Option Addr) (cdv ct : Value) (osl : Array (Option Value)),
    fd = PySem.W.fnOf x qual (defArgs st) (defBody st) (defScope st) .none kV doc pm an cdv ct ∧ K.lookup f = some ⟨oc, od, .func fd, osl⟩ ∧ PySem.W.codeIn K cdv qual = true
  kp : PySem.W.keepIn K (.ref f) = true
section
variable {P : Program} {w : World} {K : PySem.W.Frag} {mg : Str → Option Value} {base : Heap}
theorem Fun.ok {x qual : Str} {st : Stmt} {f : Addr} {fd : FuncData} {N ps : List Str} {k : Nat} {sp : Sp} (F : Fun K x qual st f fd) (S : FnScope N ps (defScope st)) (len : ∀ vs H Q E, sp vs H Q E → vs.length = ps.length)
    (hbody : ∀ (cdv : Value) (A : Around) (outer : List Env) (s : Shared) (H : Hp) (vs : List V) (Q : VK) (E : XK), Room k (A.deeper (envOfC qual (defScope st) s.heap.objs.size f cdv)) → sp vs H Q E →
      ∃ t, PSs (cxOf CX0 P w K mg base N qual (defScope st) f cdv A outer s H E).nox (defBody st) t ∧ t { nx := fun _ H' => Q .non H', rt := Q } (start N vs) H) : FnOk P w K mg base CX0 (k + 1) f fd ps sp := by
  obtain ⟨oc, od, kV, doc, pm, an, cdv, ct, osl, rfl, lk, hcd⟩ := F.ex
  refine fn_of lk hcd S len fun A outer s H vs Q E hr hsp => ?_
  obtain ⟨t, h, q⟩ := hbody cdv A outer s H vs Q E hr hsp
  exact ⟨t, h.nox, q⟩
theorem Fun.binds {x qual : Str} {st : Stmt} {f : Addr} {fd : FuncData} {ps : List Str} (F : Fun K x qual st f fd)
    (h : ∀ (kV doc pm : Value) (an : Option Addr) (cdv ct : Value) (us : List Value), us.length = ps.length → bindArgs (PySem.W.fnOf x qual (defArgs st) (defBody st) (defScope st) .none kV doc pm an cdv ct) ⟨us, []⟩ = pure (ps.zip us)) : Binds K fd ps [] := by
  obtain ⟨oc, od, kV, doc, pm, an, cdv, ct, osl, rfl, lk, hcd⟩ := F.ex
  exact .all (h kV doc pm an cdv ct)
theorem fun_mk {x qual : Str} {st : Stmt} {f : Addr} {oc : Value} {od an : Option Addr} {osl : Array (Option Value)} {kV doc pm cdv ct : Value} (l : K.lookup f = some ⟨oc, od, .func (PySem.W.fnOf x qual (defArgs st) (defBody st) (defScope st) .none kV doc pm an cdv ct), osl⟩)
    (c : PySem.W.codeIn K cdv qual = true) (k : PySem.W.keepIn K (.ref f) = true) : Fun K x qual st f (PySem.W.fnOf x qual (defArgs st) (defBody st) (defScope st) .none kV doc pm an cdv ct) := ⟨⟨oc, od, kV, doc, pm, an, cdv, ct, osl, rfl, l, c⟩, k⟩
end
theorem hu_of {A : Around} {k : Nat} (hr : Room k A) : A.units + 1 < cLine := Nat.lt_of_le_of_lt (Nat.add_le_add_left (by decide : 1 ≤ 64) _) hr.units
theorem small1000 {n : Nat} (h : n ≤ 1000) : n < sizeLine := Nat.lt_of_le_of_lt h (by decide)

section
variable {X : Cx}
theorem pv (i : Nat) {x : Str} {pos : Pos} (hN : X.N[i]? = some x := by rfl) (hv : Vis X.env.scope x := by first | exact Or.inl rfl | exact Or.inr (Or.inl rfl) | exact Or.inr (Or.inr rfl)) (hd : (x == ("__debug__" : Str)) = false := by decide)
    (hcd : (x == ("__classdict__" : Str)) = false := by decide) : PE X (.Name x pos) (tVar i) := pe_var hN hv hd hcd
end

theorem iteF {A B : Prop} (h : B) : if false = true then A else B := by
  rw [if_neg Bool.false_ne_true]
  exact h
theorem iteT {A B : Prop} (h : A) : if true = true then A else B := by
  rw [if_pos rfl]
  exact h
theorem ite2 {c A B : Prop} [Decidable c] (h1 : c → A) (h2 : ¬ c → B) : if c then A else B := by
  by_cases h : c
  · rw [if_pos h]
    exact h1 h
  · rw [if_neg h]
    exact h2 h
theorem iteNS {c A B : Prop} [Decidable c] (hc : c) (h : B) : if (!decide c) = true then A else B := by
  rw [decide_eq_true hc]
  exact iteF h

noncomputable def Same (H H' : Hp) : Prop := ∀ b o, H b = some o → H' b = some o
theorem Same.trans {H H1 H2 : Hp} (a : Same H H1) (b : Same H1 H2) : Same H H2 := fun c o h => b c o (a c o h)
theorem Same.seq {K : PySem.W.Frag} {H H' : Hp} {a : Addr} {xs : List V} (e : Same H H') (h : SqL K H a xs) : SqL K H' a xs := by
  rcases h with (h | ⟨o, h⟩) | h
  · exact .inl (.inl (e _ _ h))
  · exact .inl (.inr ⟨o, e _ _ h⟩)
  · exact .inr h

end L2

set_option Elab.async false
set_option linter.all false
set_option maxRecDepth 100000
set_option maxHeartbeats 4000000
namespace L2
open PySem PySem.Spec PyProof.Rows

noncomputable abbrev NoX : Value → Shared → Prop := fun _ _ => False
theorem wpX {α : Type} {M : Model} {A : Around} {t : Sem α} {Q : α → Shared → Prop} {E : Value → Shared → Prop} {s : Shared} (h : wpAny M A t Q NoX s) : wpAny M A t Q E s :=
  wpAny_mono h (fun _ _ q => q) fun _ _ f => f.elim

noncomputable def testAll (ifs : List Expr) (env : Env) : Sem Bool :=
  forIn ifs true fun c r => if r = true then do let ok ← isTrue c env (eval c env); pure (ForInStep.yield ok) else pure (ForInStep.yield r)

theorem comp_loop_any {prog : Program} {w : World} {A : Around} {R : Result → Shared → Prop} {s : Shared} {elt tg iter : Expr} {ifs : List Expr} {scope : Scope} {pos : Pos} {it acc : Value} {env : Env} (Iv : Nat → Shared → Prop)
    (turn : ∀ n s, Iv n s → wpAny (model prog w) A (pyNext it) (fun r s1 => match r with
      | none => R (.ok .next) s1
      | some v => wpAny (model prog w) A (letOwnedTupleGo tg it v) (fun _ s2 => wpAny (model prog w) A (assign tg env v) (fun _ s3 => wpAny (model prog w) A (testAll ifs env) (fun ok s4 =>
            if ok = true then wpAny (model prog w) A (eval elt env) (fun x s5 => wpAny (model prog w) A (call (.builtin "list.append") [acc, x]) (fun _ s6 => ∃ m, m < n ∧ Iv m s6) NoX s5) NoX s4
            else ∃ m, m < n ∧ Iv m s4) NoX s3) NoX s2) NoX s1) NoX s)
    (n : Nat) (h : Iv n s) : codeAny (model prog w) A (.compLoop (.ListComp elt [⟨tg, iter, ifs, 0⟩] scope pos) 0 it acc env) R s := by
  refine codeAny_loop rfl Iv (fun n s hI => ?_) n h
  show wpAny (model prog w) A ((compTurn (.ListComp elt [⟨tg, iter, ifs, 0⟩] scope pos) 0 it acc env).onRaise (fun x => do noteFrame x env; theTreesLotGoes x)) _ _ s
  refine wpAny_noted (wpX ?_)
  rw [compTurn_list]
  refine wpAny_bind (wpAny_standAt (wpAny_bind (thn (turn n s hI) fun r s1 h1 => ?_)))
  cases r with
  | none => exact wpAny_pure h1
  | some v =>
    refine wpAny_bind (thn h1 fun _ s2 h2 => wpAny_bind (thn h2 fun _ s3 h3 => wpAny_bind (thn h3 fun ok s4 h4 => ?_)))
    cases ok with
    | false => exact wpAny_pure ⟨rfl, h4⟩
    | true => exact wpAny_bind (wpAny_bind (thn h4 fun x s5 h5 => wpAny_bind (thn h5 fun _ s6 h6 => wpAny_pure (wpAny_pure ⟨rfl, h6⟩))))

noncomputable def stepCap (env : Env) (y : Str × NameKind) (cs : List (Str × Addr)) : List (Str × Addr) := if (y.2 == NameKind.free) = true then (y.1, (env.cells.lookup y.1).getD 0) :: cs else cs
noncomputable def capOf (env : Env) (scope : Scope) : List (Str × Addr) := scope.names.foldl (fun c y => stepCap env y c) []
theorem forIn_steps {α β : Type} {f : α → β → Sem (ForInStep β)} {g : β → α → β} : ∀ (l : List α) (c : β), (∀ x ∈ l, ∀ c, f x c = pure (.yield (g c x))) → forIn l c f = pure (l.foldl g c)
  | [], c, _ => rfl
  | x :: l, c, h => by
    rw [List.forIn_cons, h x List.mem_cons_self, pure_bind]
    exact forIn_steps l (g c x) fun y hy => h y (List.mem_cons_of_mem _ hy)
theorem closure_is {env : Env} {scope : Scope} (h : ∀ y ∈ scope.names, y.2 = .free → ∃ c, env.cells.lookup y.1 = some c) : closureFor scope env = pure (capOf env scope) := by
  simp only [closureFor]
  rw [forIn_steps (g := fun c y => stepCap env y c) scope.names [] (fun y hy c => ?_)]
  · rfl
  · obtain ⟨n, k⟩ := y
    by_cases hk : k = .free
    · subst hk
      obtain ⟨a, ha⟩ := h _ hy rfl
      have ha' : env.cells.lookup n = some a := ha
      simp [stepCap, cellOf, ha']
    · have hb : (k == NameKind.free) = false := by simpa using hk
      simp only [stepCap, hb, Bool.false_eq_true, if_false]
theorem fold_cap_sub {env : Env} : ∀ (ns : List (Str × NameKind)) (cs : List (Str × Addr)), (∀ y ∈ ns, y.2 = .free → ∃ c, env.cells.lookup y.1 = some c) → (∀ x c, cs.lookup x = some c → env.cells.lookup x = some c) →
    ∀ x c, (ns.foldl (fun c y => stepCap env y c) cs).lookup x = some c → env.cells.lookup x = some c
  | [], _, _, h => h
  | y :: ns, cs, hf, h => by
    refine fold_cap_sub ns (stepCap env y cs) (fun z hz => hf z (List.mem_cons_of_mem _ hz)) fun x c e => ?_
    unfold stepCap at e
    split at e
    · rename_i hk
      have hk' : y.2 = .free := by simpa using hk
      obtain ⟨a, ha⟩ := hf y List.mem_cons_self hk'
      rw [List.lookup_cons] at e
      split at e
      · rename_i hx
        have hx' : x = y.1 := by simpa using hx
        rw [ha] at e
        rw [hx', ha]
        exact e
      · exact h x c e
    · exact h x c e
theorem fold_cap_has {env : Env} (x : Str) : ∀ (ns : List (Str × NameKind)) (cs : List (Str × Addr)), ((x, NameKind.free) ∈ ns ∨ ∃ c, cs.lookup x = some c) → ∃ c, (ns.foldl (fun c y => stepCap env y c) cs).lookup x = some c
  | [], _, h => by
    rcases h with h | h
    · exact absurd h (by simp)
    · exact h
  | y :: ns, cs, h => by
    refine fold_cap_has x ns (stepCap env y cs) ?_
    rcases h with h | ⟨c, h⟩
    · rcases List.mem_cons.mp h with e | h
      · subst e
        exact .inr ⟨(List.lookup x env.cells).getD 0, by simp [stepCap]⟩
      · exact .inl h
    · refine .inr ?_
      unfold stepCap
      split
      · rw [List.lookup_cons]
        split
        · exact ⟨_, rfl⟩
        · exact ⟨c, h⟩
      · exact ⟨c, h⟩
noncomputable def relK (env : Env) (n : Str) (k : NameKind) : NameKind := if (k == NameKind.free && env.scope.kind == .function && env.kindOf n == some .cell) = true then .cell else k
noncomputable def relP (env : Env) (y : Str × NameKind) : Str × NameKind := if (y.2 == NameKind.free && env.scope.kind == .function && env.kindOf y.1 == some .cell) = true then (y.1, NameKind.cell) else (y.1, y.2)
theorem relP_eq (env : Env) (y : Str × NameKind) : relP env y = (y.1, relK env y.1 y.2) := by
  unfold relP relK
  split <;> rfl
theorem lookup_rel {env : Env} (x : Str) : ∀ ns : List (Str × NameKind), (ns.map (relP env)).lookup x = (ns.lookup x).map (relK env x)
  | [] => rfl
  | (n, k) :: r => by
    have ih := lookup_rel (env := env) x r
    rw [List.map_cons, relP_eq, List.lookup_cons, List.lookup_cons]
    cases hx : x == n with
    | true =>
      have e : x = n := by simpa using hx
      subst e
      rfl
    | false => exact ih
theorem relabel_lookup {env : Env} {scope : Scope} (x : Str) : (relabel scope env).names.lookup x = (scope.names.lookup x).map (relK env x) := lookup_rel x scope.names

noncomputable def capOne (N : List Str) (scope : Scope) (p : Option Nat × Str) : Bool := match p.1 with
  | none => true
  | some j => decide (N[j]? = some p.2) && decide (scope.names.lookup p.2 = some .free)
structure CompOk (N : List Str) (sc : Scope) (N' : List Str) (ix : List (Option Nat)) (scope : Scope) : Prop where
  kind : scope.kind = .function
  nocell : ∀ y ∈ scope.names, y.2 ≠ .cell
  locs : ∀ y ∈ scope.names, y.2 = .local → scope.names.lookup y.1 = some .local
  frees : ∀ y ∈ scope.names, y.2 = .free → (sc.names.lookup y.1 = some .cell ∨ sc.names.lookup y.1 = some .free)
  nd : N'.Nodup
  len : ix.length = N'.length
  cap : (ix.zip N').all (capOne N scope) = true
noncomputable def ixSt (ix : List (Option Nat)) (σ : St) : St := ix.map fun o => o.bind fun i => (σ[i]?).join
noncomputable def cxComp (X : Cx) (N' : List Str) (scope : Scope) (C : Addr) (fp : List Addr) (s₀ : Shared) (H₀ : Hp) : Cx where
  prog := X.prog
  w := X.w
  K := X.K
  mg := X.mg
  base := X.base
  A := X.A
  N := N'
  s₀ := s₀
  H₀ := H₀
  env := compEnvC scope (capOf X.env scope) C X.env
  outer := X.stack
  stack := X.stack
  ex := fp
  fn := fun _ => false
  calm := X.calm
  pn := []
  xe := NoX

section
variable {X : Cx} {N' : List Str} {ix : List (Option Nat)} {scope : Scope} {pins : List (Addr × Obj)} {σ : St} {H : Hp} {s : Shared} {fp : List Addr}
theorem CompOk.has (S : CompOk X.N X.env.scope N' ix scope) (ok : X.Ok) : ∀ y ∈ scope.names, y.2 = .free → ∃ c, X.env.cells.lookup y.1 = some c := fun y hy hk => ok.has y.1 (S.frees y hy hk)
theorem CompOk.sub (S : CompOk X.N X.env.scope N' ix scope) (ok : X.Ok) : ∀ x c, (capOf X.env scope).lookup x = some c → X.env.cells.lookup x = some c :=
  fold_cap_sub scope.names [] (S.has ok) fun x c e => by simp at e
theorem CompOk.frK (S : CompOk X.N X.env.scope N' ix scope) {x : Str} (h : (relabel scope X.env).names.lookup x = some .cell ∨ (relabel scope X.env).names.lookup x = some .free) : scope.names.lookup x = some .free := by
  rw [relabel_lookup] at h
  cases e : scope.names.lookup x with
  | none => rw [e] at h; simp at h
  | some k =>
    rw [e] at h
    cases k with
    | free => rfl
    | cell => exact absurd rfl (S.nocell _ (PySem.mem_of_lookup e))
    | «local» => simp [relK] at h
    | globalExplicit => simp [relK] at h
    | globalImplicit => simp [relK] at h
theorem comp_enter {h1 : Heap} {m : Str → Option Value} {tk : Nat} (S : CompOk X.N X.env.scope N' ix scope) (I : Inv X pins σ H s) (hf : ∀ b ∈ fp, FpOk X pins H b) (hlt : ∀ b ∈ fp, b < s.heap.objs.size)
    (ns : h1.Ns s.heap.objs.size m) (kp : ∀ b o, s.heap.get? b = some o → h1.get? b = some o) :
    Inv (cxComp X N' scope s.heap.objs.size fp s H) [] (ixSt ix σ) H { s with heap := h1, toks := tk } := by
  have sub := S.sub I.ok
  have cellS : ∀ x c, (capOf X.env scope).lookup x = some c → c < s.heap.objs.size := fun x c e => by
    obtain ⟨v, q⟩ := I.cell x c (sub x c e)
    exact q.lt
  refine ⟨⟨I.ok.mod, S.kind, I.ok.glob, I.ok.blt, Nat.le_refl _, fun x y c h1 h2 => I.ok.inj x y c (sub x c h1) (sub y c h2), fun x hx => ?_, fun x c z _ => ?_, I.ok.hd, I.ok.frames, .inl rfl, fun b hb => ⟨?_, fun x c e => ?_⟩, I.bs, Nat.le_trans I.ok.bsz I.sz, fun b o e hb => ?_, fun b hb z => ?_, I.stack, I.stkFree⟩,
    rfl, I.bare, Un.kept kp, ⟨m, ns, fun i x v h1 h2 h3 => ?_⟩, fun x c e => ?_, I.hok.fresh (Nat.le_refl _), fun x c e => I.freeC x c (sub x c e), fun p hp => absurd (show p ∈ ([] : List (Addr × Obj)) from hp) (by simp), I.hok.kept kp, ?_⟩
  · exact fold_cap_has x scope.names [] (.inl (PySem.mem_of_lookup (S.frK hx)))
  · exact absurd (show false = true from z) (by simp)
  · exact Nat.ne_of_lt (hlt b hb)
  · exact (hf b hb).2.2.2.2.1 x c (sub x c e)
  · rcases (hf b hb).2.2.2.1 with z | z
    · exact I.ok.noex b o e z
    · exact absurd (Nat.lt_of_lt_of_le (Heap.lt_size e) (Nat.le_trans I.ok.bsz z)) (Nat.lt_irrefl _)
  · rcases List.mem_cons.mp (I.stkSub b z) with e | e
    · exact (hf b hb).2.1 e
    · exact (hf b hb).2.2.1 e
  · have hi : i < ix.length := by
      have := (List.getElem?_eq_some_iff.mp h1).1
      rw [S.len]; exact this
    have e1 : ix[i]? = some ix[i] := List.getElem?_eq_getElem hi
    have h2' : (ixSt ix σ)[i]? = some (some v) := h2
    rw [ixSt, List.getElem?_map, e1] at h2'
    have h2'' : (ix[i].bind fun j => (σ[j]?).join) = some v := Option.some.inj h2'
    cases ej : ix[i] with
    | none => rw [ej] at h2''; cases h2''
    | some j =>
      rw [ej] at h2''
      have h2j : (σ[j]?).join = some v := h2''
      have hz : (ix[i], x) ∈ ix.zip N' := by
        have ez : (ix.zip N')[i]? = some (ix[i], x) := by rw [List.getElem?_zip_eq_some]; exact ⟨e1, h1⟩
        exact List.mem_of_getElem? ez
      have cq := List.all_eq_true.mp S.cap _ hz
      have cq' : (decide (X.N[j]? = some x) && decide (scope.names.lookup x = some .free)) = true := by
        unfold capOne at cq
        simp only [ej] at cq
        exact cq
      rw [Bool.and_eq_true] at cq'
      have c1 := of_decide_eq_true cq'.1
      have c2 := of_decide_eq_true cq'.2
      have kx : X.env.scope.names.lookup x = some .cell ∨ X.env.scope.names.lookup x = some .free := S.frees (x, .free) (PySem.mem_of_lookup c2) rfl
      have hs : σ[j]? = some (some v) := by
        cases q : σ[j]? with
        | none => rw [q] at h2j; cases h2j
        | some o => rw [q] at h2j; have : o = some v := h2j; rw [this]
      obtain ⟨m0, hn0, hl0⟩ := I.loc
      obtain ⟨u, ru, lk⟩ := hl0 j x v c1 hs (kx.elim (fun z => .inr (.inl z)) fun z => .inr (.inr z))
      refine ⟨u, ru, .inr ⟨?_, ?_⟩⟩
      · show (relabel scope X.env).names.lookup x = some .cell ∨ (relabel scope X.env).names.lookup x = some .free
        rw [relabel_lookup, c2]
        simp only [Option.map_some, relK]
        split
        · exact .inl rfl
        · exact .inr rfl
      · rcases lk with ⟨k, _⟩ | ⟨_, c, ec, hc⟩
        · have k' : X.env.scope.names.lookup x = some .local := k
          rw [k'] at kx
          rcases kx with z | z <;> cases z
        · obtain ⟨c', ec'⟩ := fold_cap_has (env := X.env) x scope.names [] (.inl (PySem.mem_of_lookup c2))
          have := sub x c' ec'
          rw [ec] at this; cases this
          exact ⟨c, ec', hc.keeps kp⟩
  · obtain ⟨v, q⟩ := I.cell x c (sub x c e)
    exact ⟨v, q.keeps kp⟩
  · show (ixSt ix σ).length = N'.length
    rw [ixSt, List.length_map, S.len]

noncomputable def PF (X : Cx) (ifs : List Expr) (t : TT) : Prop := ∀ (pins : List (Addr × Obj)) (s : Shared) (σ : St) (H : Hp) (Q : Bool → Hp → Prop), Inv X pins σ H s → t σ H Q → wpAny (model X.prog X.w) X.A (testAll ifs X.env) (TP X pins σ Q) X.xe s
noncomputable def tYes : TT := fun _ H Q => Q true H
theorem pf_nil : PF X [] tYes := fun _ _ _ H _ I h => wpAny_tests_nil ⟨H, I, h⟩
theorem pf_one {c : Expr} {t : TT} (hc : PT X c t) : PF X [c] t := fun pins s σ H Q I h => wpAny_tests_one (hc pins s σ H Q I h)

noncomputable def CompGo (J : It) (g : TG) (tt : TT) (te : TE) (σ0 : St) (H1 : Hp) (Q : VK) (D : Addr) : Prop := ∃ W : Nat → Nat → St → Hp → Prop, (∃ m, W 0 m σ0 (upd H1 D (.lst []))) ∧ ∀ i m σ' H', W i m σ' H' →
  (J.stop i H' ∧ Q (.ref D) H') ∨ (J.go i H' ∧ ∀ x H2, J.yld i H' x H2 → g x σ' H2 fun σ2 H3 => tt σ2 H3 fun b H4 =>
    if b = true then te σ2 H4 fun v H5 => ∃ xs, H5 D = some (.lst xs) ∧ xs.length < sizeLine ∧ ∃ m', m' < m ∧ W (i + 1) m' σ2 (upd H5 D (.lst (xs ++ [v]))) else ∃ m', m' < m ∧ W (i + 1) m' σ2 H4)
noncomputable def tComp (ix : List (Option Nat)) (wi : TI) (g : TG) (tt : TT) (te : TE) : TE := fun σ H Q => wi σ H fun J H1 => ∀ D, H1 D = none → CompGo J g tt te (ixSt ix σ) H1 Q D

theorem comp_block {elt tg iter : Expr} {ifs : List Expr} {pos : Pos} {g : TG} {tt : TT} {te : TE} {Q : VK} {Z : Value → Addr → Result → Shared → Prop} {it : Addr} {tn : Nat → Heap → Prop} {J : It}
    (S : CompOk X.N X.env.scope N' ix scope) (hc : X.calm = true)
    (hg : ∀ C fp s₀ H₀, PG (cxComp X N' scope C fp s₀ H₀) tg g) (ht : ∀ C fp s₀ H₀, PF (cxComp X N' scope C fp s₀ H₀) ifs tt) (he : ∀ C fp s₀ H₀, PE (cxComp X N' scope C fp s₀ H₀) elt te)
    (I : Inv X pins σ H s) (T : Turn X.prog X.w X.K tg J fp it tn) (st : tn 0 s.heap) (hf : ∀ b ∈ fp, FpOk X pins H b)
    (h : ∀ D, H D = none → ∃ W : Nat → Nat → St → Hp → Prop, (∃ m, W 0 m (ixSt ix σ) (upd H D (.lst []))) ∧ ∀ i m σ' H', W i m σ' H' →
      (J.stop i H' ∧ Q (.ref D) H') ∨ (J.go i H' ∧ ∀ x H2, J.yld i H' x H2 → g x σ' H2 fun σ2 H3 => tt σ2 H3 fun b H4 =>
        if b = true then te σ2 H4 fun v H5 => ∃ xs, H5 D = some (.lst xs) ∧ xs.length < sizeLine ∧ ∃ m', m' < m ∧ W (i + 1) m' σ2 (upd H5 D (.lst (xs ++ [v]))) else ∃ m', m' < m ∧ W (i + 1) m' σ2 H4))
    (hZ : ∀ D C H' s' m, Inv X pins σ H' s' → s'.heap.Ns C m → H' C = none → s.heap.objs.size ≤ C → Q (.ref D) H' → Z (.ref D) C (.ok .next) s') :
    wpAny (model X.prog X.w) X.A (newList []) (fun acc s3 => wpAny (model X.prog X.w) X.A (newFunctionEnv scope X.env.globals (capOf X.env scope) [] X.env.qual none .none (some X.env)) (fun cenv s4 =>
      codeAny (model X.prog X.w) X.A (.compStart (.ListComp elt [⟨tg, iter, ifs, 0⟩] scope pos) 0 (.ref it) acc { cenv with scope := relabel scope X.env }) (Z acc cenv.locals) s4) X.xe s3) X.xe s := by
  refine wpAny_newObj_type (wpAny_newFunctionEnv S.nocell (by intro y hy; simp at hy) (fun h1 ns1 sb1 => ?_) S.kind)
  have I3 : Inv X pins σ (upd H s.heap.objs.size (.lst [])) { s with heap := s.heap.push { cls := .type "list", data := .seq ([] : List Value).toArray }, toks := s.toks } := I.lnew (ys := []) (its := []) .nil (Nat.zero_le _)
  generalize hs3 : ({ s with heap := s.heap.push { cls := .type "list", data := .seq ([] : List Value).toArray } } : Shared) = s3 at ns1 sb1 ⊢
  have I3 : Inv X pins σ (upd H s.heap.objs.size (.lst [])) s3 := by rw [← hs3]; exact I3
  have hsz : s3.heap.objs.size = s.heap.objs.size + 1 := by rw [← hs3]; exact Heap.size_push _ _
  have st3 : tn 0 s3.heap := by
    rw [← hs3]
    exact T.keep _ _ _ st fun b _ o e => Heap.get?_push_of_some _ e
  have blw : ∀ b ∈ fp, b < s.heap.objs.size := fun b hb => by
    obtain ⟨o, e, _⟩ := T.obj _ _ st b hb
    exact Heap.lt_size e
  have hf3 : ∀ b ∈ fp, FpOk X pins (upd H s.heap.objs.size (.lst [])) b := fun b hb => ⟨by rw [upd_ne (Nat.ne_of_lt (blw b hb))]; exact (hf b hb).1, (hf b hb).2⟩
  obtain ⟨W, ⟨m0, w0⟩, turn⟩ := h s.heap.objs.size I.fresh
  have kp : ∀ b o, s3.heap.get? b = some o → h1.get? b = some o := fun b o e => (sb1.2 b (Nat.ne_of_lt (Heap.lt_size e))).trans (Heap.get?_push_of_some _ e)
  have J0 := comp_enter (tk := s3.toks + ([] : List (Str × Value)).length) S I3 hf3 (fun b hb => by rw [hsz]; exact Nat.lt_succ_of_lt (blw b hb)) ns1 kp
  have st4 : tn 0 h1 := T.keep _ _ _ st3 fun b _ o e => kp b o e
  have stat : ∀ {H' : Hp} {pl : List (Addr × Obj)}, (∀ b ∈ fp, H' b = none) → (∀ b ∈ fp, ∀ p ∈ pl, p.1 ≠ b) → ∀ b ∈ fp, FpOk (cxComp X N' scope s3.heap.objs.size fp s3 (upd H s.heap.objs.size (.lst []))) pl H' b := fun hn hp b hb =>
    ⟨hn b hb, (J0.ok.exf b hb).1, J0.ok.exfs b hb, .inl hb, (J0.ok.exf b hb).2, fun p q => hp b hb p q⟩
  have loop : codeAny (model X.prog X.w) X.A (.compLoop (.ListComp elt [⟨tg, iter, ifs, 0⟩] scope pos) 0 (.ref it) (.ref s.heap.objs.size) (cxComp X N' scope s3.heap.objs.size fp s3 (upd H s.heap.objs.size (.lst []))).env) (Z (.ref s.heap.objs.size) s3.heap.objs.size)
      { s3 with heap := h1, toks := s3.toks + ([] : List (Str × Value)).length } := by
    refine comp_loop_any (fun n s' => ∃ i σ' H', Inv (cxComp X N' scope s3.heap.objs.size fp s3 (upd H s.heap.objs.size (.lst []))) [] σ' H' s' ∧ tn i s'.heap ∧ (∀ b ∈ fp, H' b = none) ∧ W i n σ' H') ?_ m0
      ⟨0, _, _, J0, st4, fun b hb => (hf3 b hb).1, w0⟩
    rintro n s5 ⟨i, σ5, H5, I5, st5, fr5, w5⟩
    rcases turn i n σ5 H5 w5 with ⟨stop, q⟩ | ⟨go, step⟩
    · refine thn (T.done (cxComp X N' scope s3.heap.objs.size fp s3 (upd H s.heap.objs.size (.lst []))) rfl rfl rfl hc i [] s5 σ5 H5 NoX I5 (stat (pl := []) fr5 (fun _ _ p hp => absurd hp (by simp))) st5 stop) fun r s6 ⟨hr, I6⟩ => ?_
      subst hr
      have I7 : Inv X pins σ H5 s6 := I3.call' (ch := fp) I6.os I6.base I6.hok I6.bare fun b hb => ⟨(hf3 b hb).2.2.2.1, (hf3 b hb).2.1, (hf3 b hb).2.2.2.2.1, (hf3 b hb).2.2.2.2.2⟩
      obtain ⟨m6, n6, _⟩ := I6.loc
      exact hZ _ _ H5 s6 m6 I7 n6 I6.free (by rw [hsz]; exact Nat.le_succ _) q
    · refine thn (T.item (cxComp X N' scope s3.heap.objs.size fp s3 (upd H s.heap.objs.size (.lst []))) rfl rfl rfl hc i [] s5 σ5 H5 NoX I5 (stat (pl := []) fr5 (fun _ _ p hp => absurd hp (by simp))) st5 go) fun r s6 ⟨u, hr, h6⟩ => ?_
      subst hr
      refine thn h6 fun _ s7 ⟨x, H7, I7, r7, y7, st7, fr7⟩ => ?_
      have I7' := I7.pinned (stat (pl := []) fr7 (fun _ _ p hp => absurd hp (by simp))) (T.obj _ _ st7)
      refine thn (hg _ _ _ _ _ s7 σ5 H7 x u _ I7' r7 (step x H7 y7)) fun _ s8 ⟨σ8, H8, I8, q8⟩ => ?_
      refine thn (ht _ _ _ _ _ s8 σ8 H8 _ I8 q8) fun b s9 ⟨H9, I9, q9⟩ => ?_
      have again : ∀ {σ' : St} {H' : Hp} {s' : Shared} {m' : Nat}, Inv (cxComp X N' scope s3.heap.objs.size fp s3 (upd H s.heap.objs.size (.lst []))) ([] ++ pinsAt fp s7.heap) σ' H' s' → m' < n → W (i + 1) m' σ' H' →
          ∃ m, m < n ∧ ∃ i σ' H', Inv (cxComp X N' scope s3.heap.objs.size fp s3 (upd H s.heap.objs.size (.lst []))) [] σ' H' s' ∧ tn i s'.heap ∧ (∀ b ∈ fp, H' b = none) ∧ W i m σ' H' := fun {σ' H' s' m'} I' hm w' => by
        refine ⟨m', hm, i + 1, σ', H', I'.unpinned, T.keep _ _ _ st7 fun b hb o e => (I'.pin (b, o) (List.mem_append_right _ (List.mem_append_right _ (mem_pinsAt hb e)))).1, fun b hb => ?_, w'⟩
        obtain ⟨o, e, d⟩ := T.obj _ _ st7 b hb
        exact (I'.pin (b, o) (List.mem_append_right _ (List.mem_append_right _ (mem_pinsAt hb e)))).2.1
      cases b with
      | false =>
        obtain ⟨m', hm, w'⟩ := (show ∃ m', m' < n ∧ W (i + 1) m' σ8 H9 from q9)
        exact again I9 hm w'
      | true =>
        refine thn (he _ _ _ _ _ s9 σ8 H9 _ I9 q9) fun v s10 ⟨y, H10, I10, r10, q10⟩ => ?_
        obtain ⟨xs, hx, hl, m', hm, w'⟩ := q10
        refine thn (mt_append _ s10 σ8 H10 (.ref s.heap.objs.size) [y] (.ref s.heap.objs.size) [v] (fun _ H' => W (i + 1) m' σ8 H') I10 rfl (.cons r10 .nil) ⟨_, xs, y, rfl, rfl, hx, hl, w'⟩) fun _ s11 ⟨_, H11, I11, _, q11⟩ => ?_
        exact again I11 hm q11
  exact codeAny_compStart_list loop (T.self _ _ _ _ _ st4 loop)

theorem pe_comp {elt tg iter : Expr} {ifs : List Expr} {pos : Pos} {wi : TI} {g : TG} {tt : TT} {te : TE} (S : CompOk X.N X.env.scope N' ix scope) (hc : X.calm = true) (hi : PI X tg iter wi)
    (hg : ∀ C fp s₀ H₀, PG (cxComp X N' scope C fp s₀ H₀) tg g) (ht : ∀ C fp s₀ H₀, PF (cxComp X N' scope C fp s₀ H₀) ifs tt) (he : ∀ C fp s₀ H₀, PE (cxComp X N' scope C fp s₀ H₀) elt te)
    (hs : ∀ x, foldedSetIterable iter X.env x = pure x := by intro _; rfl) : PE X (.ListComp elt [⟨tg, iter, ifs, 0⟩] scope pos) (tComp ix wi g tt te) := by
  intro pins s σ H Q I h
  rw [eval_ListComp]
  refine wpAny_comprehension_free (use := none) rfl hs (closure_is (S.has I.ok)) S.kind S.locs (thn (hi pins s σ H _ I h) fun v s1 h1 => thn h1 fun itv s2 h2 => ?_)
  obtain ⟨it, fp, tn, J, H2, e, I2, T, st2, f2, q⟩ := h2
  subst e
  refine comp_block (Z := fun acc C => compPost (model X.prog X.w) X.A X.xe none (EP X pins σ Q) acc C) S hc hg ht he I2 T st2 f2 q ?_
  intro D C H' s' m I' hn hC hz qD
  refine ⟨m, hn, fun h' sb => ?_⟩
  have I'' : Inv X pins σ H' { s' with heap := h', toks := s'.toks } := I'.turned (it := C) (fun b o hb e => (sb.2 b hb).trans e) hC (fun z => absurd (Nat.lt_of_lt_of_le I2.lt (by rw [← z]; exact hz)) (Nat.lt_irrefl _))
    (.inr (Nat.le_trans I2.sz hz)) (fun x c e z => by obtain ⟨v, w⟩ := I2.cell x c e; exact absurd (Nat.lt_of_lt_of_le w.lt (by rw [z]; exact hz)) (Nat.lt_irrefl _)) (fun p hp z => absurd (Nat.lt_of_lt_of_le (Heap.lt_size (I2.pin p hp).1) (by rw [z]; exact hz)) (Nat.lt_irrefl _))
  exact ⟨.ref D, H', I'', rfl, qD⟩
end
end L2

set_option Elab.async false
set_option linter.all false
set_option maxRecDepth 100000
set_option maxHeartbeats 4000000
namespace L2
open PySem PySem.Spec PyProof.Rows
theorem bt_abs : bootBuiltins "abs" = some (.builtin "abs") := by decide +kernel
theorem bt_len : bootBuiltins "len" = some (.builtin "len") := by decide +kernel
theorem bt_sum : bootBuiltins "sum" = some (.builtin "sum") := by decide +kernel
theorem bt_all : bootBuiltins "all" = some (.builtin "all") := by decide +kernel
theorem bt_isinstance : bootBuiltins "isinstance" = some (.builtin "isinstance") := by decide +kernel
theorem bt_int : bootBuiltins "int" = some (.type "int") := by decide +kernel
theorem bt_bool : bootBuiltins "bool" = some (.type "bool") := by decide +kernel
theorem bt_str : bootBuiltins "str" = some (.type "str") := by decide +kernel
theorem bt_tuple : bootBuiltins "tuple" = some (.type "tuple") := by decide +kernel
noncomputable def Def (P : Program) (w : World) (K : PySem.W.Frag) (mg : Str → Option Value) (base : Heap) (k : Nat) (x : Str) (ps : List Str) (sp : Sp) : Prop :=
  ∃ (f : Addr) (fd : FuncData), FnOk P w K mg base CX0 k f fd ps sp ∧ mg x = some (.ref f) ∧ PySem.W.keepIn K (.ref f) = true ∧ Binds K fd ps []
section
variable {X : Cx}
theorem pe_def {k k' : Nat} {x : Str} {ps : List Str} {sp : Sp} {e : Expr} {es : List Expr} {t : TA} {p pos : Pos} (D : Def X.prog X.w X.K X.mg X.base k x ps sp) (hr : Room k' X.A) (hk : k ≤ k') (hg : Gl X x) (ha : PA X (e :: es) t)
    (hdb : (x == ("__debug__" : Str)) = false := by decide) (he : starEach (e :: es) X.env = (false, eval e X.env) :: starEach es X.env := by rfl) (hpl : (backTo pos (starEach es X.env)).any (·.1) = false := by rfl) :
    PE X (.Call (.Name x p) (e :: es) [] pos) (tCall sp [] E0 t) := by
  obtain ⟨f, fd, F, m, kp, b⟩ := D
  exact pe_call F (hr.mono hk) hg m kp b .nil pass0 ha hdb he hpl

theorem strsAre_of {ys : List Str} : ∀ {us : List Value}, Vals (ys.map V.str) us → StrsAre us ys := by
  induction ys with
  | nil => intro us r; rw [List.map_nil] at r; cases r; exact .nil
  | cons y ys ih =>
    intro us r
    rw [List.map_cons] at r
    cases r with
    | cons r1 r2 =>
      obtain ⟨t, e⟩ := r1
      subst e
      exact .cons y t (ih r2)
noncomputable def rJoin (K : PySem.W.Frag) : V → List V → Hp → VK → Prop := fun x vs H Q => ∃ z p ys, x = .str z ∧ vs = [.ref p] ∧ SqL K H p (ys.map V.str) ∧ (ys.map (·.length)).sum + ys.length * z.length ≤ 16777216 ∧ Q (.str (PySem.Txt.join z ys)) H
theorem mt_join : MtR X "str.join" (rJoin X.K) := by
  intro pins s σ H x vs v us Q I rx rv h
  obtain ⟨z, p, ys, rfl, rfl, hq, hz, q⟩ := h
  obtain ⟨t, rfl⟩ := rx
  obtain ⟨u, rfl, ru⟩ := vals1 rv
  cases ru
  obtain ⟨its, r, pl, _⟩ := I.list hq
  exact join_list pl.isList (strsAre_of r) hz fun t' k => ⟨.str _, H, I.tok k, ⟨_, rfl⟩, q⟩
theorem countP_eqU {x : V} : ∀ {xs : List V} {us : List Value}, Vals xs us → xs.all flatV = true → us.countP (eqU x) = xs.countP fun y => eqV y x
  | _, _, .nil, _ => rfl
  | y :: xs, u :: us, .cons r t, f => by
    rw [List.all_cons, Bool.and_eq_true] at f
    rw [List.countP_cons, List.countP_cons, eqU_of r f.1, countP_eqU t f.2]
noncomputable def rCount : V → List V → Hp → VK → Prop := fun x vs H Q => ∃ p xs y, x = .ref p ∧ vs = [y] ∧ H p = some (.tup xs) ∧ flatV y = true ∧ xs.all flatV = true ∧ Q (.int (xs.countP fun z => eqV z y : Nat)) H
theorem mt_count : MtR X "tuple.count" rCount := by
  intro pins s σ H x vs v us Q I rx rv h
  obtain ⟨p, xs, y, rfl, rfl, hq, fy, fx, q⟩ := h
  cases rx
  obtain ⟨u, rfl, ru⟩ := vals1 rv
  obtain ⟨_, its, r, o, e, hc, ⟨n, hd⟩, _⟩ := I.hok p _ hq
  obtain ⟨c, d, dt, sl⟩ := o
  cases hc
  cases hd
  refine call_meets F.slot_tuple_count ⟨_, e, rfl⟩ F.entry_tuple_count (F.args_tuple_count_2 _ _) (SeqAt.tuple_countAt p its.toArray n d sl u (eqU y)) ⟨e, fun w hw => mem_eqAt ru fy r fx w (by simpa using hw), ?_⟩
  refine ⟨.int _, H, I.tok _, ⟨_, rfl⟩, ?_⟩
  have ec : its.toArray.toList.countP (eqU y) = xs.countP fun z => eqV z y := countP_eqU r fx
  rw [ec]
  exact q
theorem call_sum (hc : X.calm = true) : CallR X (.builtin "sum") (fun xs H Q => ∃ (p : Addr) (ns : List Int), xs = [.ref p] ∧ SqL X.K H p (ns.map V.int) ∧ Q (.int ns.sum) H) := by
  intro pins s σ H xs us Q I r h
  obtain ⟨p, ns, rfl, hq, q⟩ := h
  obtain ⟨u, rfl, ru⟩ := vals1 r
  cases ru
  obtain ⟨its, rv, pl, _⟩ := I.list hq
  have hi : IntsAre its ns := intsAre_of rv
  obtain ⟨ys, hys⟩ := (hi.allInts).items
  refine sum_intListG (xs := ys) (I.ok.hd hc) (by rw [← hys]; exact pl.isList) fun h' tk t' hk => ⟨.int _, H, I.kept hk, ⟨t', rfl⟩, ?_⟩
  have e1 : (numsOf its).sum = preSum (numAt ys) ys.size := by
    have e2 : numsOf its.toArray.toList = numsOf (intItems ys).toList := by rw [hys]
    have e3 : numsOf its = numsOf (intItems ys).toList := e2
    rw [e3, nums_intItems, preSum_eq, List.take_of_length_le (by simp)]
  rw [← e1, hi.numsOf]
  exact q
theorem call_isiT : CallR X (.builtin "isinstance") (fun xs H Q => ∃ x n t b, xs = [x, .ty n] ∧ TyOf X.K H x t ∧ PySem.W.kitOne X.K t (.type n) = some b ∧ Q (.bl b) H) := by
  intro pins s σ H xs us Q I r h
  obtain ⟨x, n, t, b, rfl, ty, e, q⟩ := h
  obtain ⟨u, w', rfl, r1, r2⟩ := vals2 r
  cases r2
  exact isinst_ok I r1 ty e fun tk => ⟨.bl b, H, I.tok tk, rfl, q⟩
noncomputable def Its (z : Str) : It := ⟨fun i _ => i < z.cps.size, fun i H x H' => H' = H ∧ ∃ c, z.cps[i]? = some c ∧ x = .str ⟨#[c]⟩, fun i _ => z.cps.size ≤ i⟩
noncomputable def iStr (tl : TE) : TI := fun σ H R => tl σ H fun x H1 => ∃ z, x = .str z ∧ R (Its z) H1
theorem turn_str {P : Program} {w : World} {K : PySem.W.Frag} {tg : Expr} {z : Str} {tk : Tok} {it : Addr} {ty : String} (hty : ty = "str_ascii_iterator" ∨ ty = "str_iterator") :
    Turn P w K tg (Its z) [it] it (fun i h => h.IsStrIter it ty z tk i ∧ i ≤ z.cps.size) where
  mem := by simp
  obj := fun i h st b hb => by
    have e : b = it := by simpa using hb
    subst e
    obtain ⟨⟨o, h1, h2, h3⟩, _⟩ := st
    exact ⟨o, h1, fun v q => by rw [h3] at q; cases q⟩
  keep := fun i h h' st k => by
    obtain ⟨⟨o, h1, h2⟩, h3⟩ := st
    exact ⟨⟨o, k it (by simp) o h1, h2⟩, h3⟩
  item := by
    intro X hP hw hK hc i pins s σ H E I hf st hg
    subst hP hw hK
    obtain ⟨f0, f1, f2, f3, f4, f5⟩ := hf it (by simp)
    have fin : ∀ (v : Value) (h' : Heap) (tk' : Nat), SignAt z i v → h'.IsStrIter it ty z tk (i + 1) → (∀ b o, b ∉ [it] → s.heap.get? b = some o → h'.get? b = some o) →
        ∃ u, some v = some u ∧ wpAny (model X.prog X.w) X.A (letOwnedTupleGo tg (.ref it) u) (fun _ s2 => ∃ x H', Inv X pins σ H' s2 ∧ RelV x u ∧ (Its z).yld i H x H' ∧ (s2.heap.IsStrIter it ty z tk (i + 1) ∧ i + 1 ≤ z.cps.size) ∧ ∀ b ∈ [it], H' b = none) E { s with heap := h', toks := tk' } := by
      intro v h' tk' hv st' kk
      obtain ⟨c, t, hcx, rfl⟩ := hv
      have I1 : Inv X pins σ H { s with heap := h', toks := tk' } := I.turned (fun b o hb e => kk b o (by simpa using hb) e) f0 f1 f3 f4 f5
      obtain ⟨o, h1, h2, h3⟩ := id st'
      refine ⟨_, rfl, go_of (s := { s with heap := h', toks := tk' }) (n := ty) h1 h2 h3 ?_ ⟨.str ⟨#[c]⟩, H, I1, ⟨t, rfl⟩, ⟨rfl, c, hcx, rfl⟩, ⟨st', hg⟩, fun b hb => (hf b hb).1⟩⟩
      rcases hty with rfl | rfl <;> decide
    rcases hty with rfl | rfl
    · exact (Walks.strAscii (I.ok.hd hc) it z tk).item i s _ _ hg st.1 fun v h' tk' hv st' kk => fin v h' tk' hv st' kk
    · exact (Walks.strWide (I.ok.hd hc) it z tk).item i s _ _ hg st.1 fun v h' tk' hv st' kk => fin v h' tk' hv st' kk
  done := by
    intro X hP hw hK hc i pins s σ H E I hf st hg
    subst hP hw hK
    obtain ⟨f0, f1, f2, f3, f4, f5⟩ := hf it (by simp)
    have e : i = z.cps.size := Nat.le_antisymm st.2 hg
    subst e
    rcases hty with rfl | rfl
    · exact (Walks.strAscii (I.ok.hd hc) it z tk).done s _ _ st.1 fun h' tk' kk => ⟨rfl, I.turned (fun b o hb e => kk b o (by simpa using hb) e) f0 f1 f3 f4 f5⟩
    · exact (Walks.strWide (I.ok.hd hc) it z tk).done s _ _ st.1 fun h' tk' kk => ⟨rfl, I.turned (fun b o hb e => kk b o (by simpa using hb) e) f0 f1 f3 f4 f5⟩
  self := fun A i s Q E st h => by
    rcases hty with rfl | rfl
    · exact wpAny_pyIter_striter_ascii st.1 h
    · exact wpAny_pyIter_striter_wide st.1 h
theorem pi_str {tg l : Expr} {tl : TE} (hl : PE X l tl) : PI X tg l (iStr tl) := by
  intro pins s σ H R I h
  refine thn (hl pins s σ H _ I h) fun v s1 ⟨x, H1, I1, r1, q1⟩ => ?_
  obtain ⟨z, rfl, q⟩ := q1
  obtain ⟨t, rfl⟩ := r1
  have fin : ∀ ty : String, ty = "str_ascii_iterator" ∨ ty = "str_iterator" → PIE X pins σ tg R (.ref s1.heap.objs.size) { s1 with heap := s1.heap.push { cls := .type ty, data := .fields #[.str z t, .int 0 0] } } := fun ty hty => by
    refine ⟨s1.heap.objs.size, [s1.heap.objs.size], _, _, H1, rfl, I1.kept (t' := s1.toks) fun b o e => Heap.get?_push_of_some _ e, turn_str (z := z) (tk := t) hty, ⟨⟨_, Heap.get?_push_size _ rfl, rfl, rfl⟩, Nat.zero_le _⟩, fun b hb => ?_, q⟩
    have e : b = s1.heap.objs.size := by simpa using hb
    subst e
    exact I1.fpOk (Nat.le_refl _) (I1.hok.fresh (Nat.le_refl _))
  cases ha : z.cps.all (· < 128)
  · exact wpAny_pyIter_wide ha (fin _ (.inr rfl))
  · exact wpAny_pyIter_ascii ha (fin _ (.inl rfl))

noncomputable def rSlS : V → Option Int → Option Int → Hp → VK → Prop := fun x lo hi H Q => ∃ z, x = .str z ∧ z.length ≤ sizeLine ∧ Q (.str (PySem.Txt.slice z lo hi)) H
theorem sl_str : SlR X rSlS := by
  intro pins s σ H x v vl vu lo hi sl Q I rx hs pl pu h
  obtain ⟨z, rfl, hz, q⟩ := h
  obtain ⟨t, rfl⟩ := rx
  refine ⟨"str", _, F.slot_str_getitem.lookup, typeIs_str _ _ _, ?_⟩
  cases pl with
  | none =>
    cases pu with
    | none => exact wpAny_getItem_str_slice (l := none) (u := none) (st := none) hs rfl (post_val_or_str ⟨Nat.le_trans (PySem.Txt.slice_le z _ _) hz, fun t' k => ⟨.str _, H, I.tok k, ⟨t', rfl⟩, q⟩⟩)
    | int j uj => exact wpAny_getItem_str_slice (l := none) (u := some (j, uj)) (st := none) hs rfl (post_val_or_str ⟨Nat.le_trans (PySem.Txt.slice_le z _ _) hz, fun t' k => ⟨.str _, H, I.tok k, ⟨t', rfl⟩, q⟩⟩)
  | int i ui =>
    cases pu with
    | none => exact wpAny_getItem_str_slice (l := some (i, ui)) (u := none) (st := none) hs rfl (post_val_or_str ⟨Nat.le_trans (PySem.Txt.slice_le z _ _) hz, fun t' k => ⟨.str _, H, I.tok k, ⟨t', rfl⟩, q⟩⟩)
    | int j uj => exact wpAny_getItem_str_slice (l := some (i, ui)) (u := some (j, uj)) (st := none) hs rfl (post_val_or_str ⟨Nat.le_trans (PySem.Txt.slice_le z _ _) hz, fun t' k => ⟨.str _, H, I.tok k, ⟨t', rfl⟩, q⟩⟩)
theorem sl_any : SlR X (fun x lo hi H Q => rSlL X.K x lo hi H Q ∨ (rSlT X.K x lo hi H Q ∨ rSlS x lo hi H Q)) := sl_list.or (sl_tup.or sl_str)
end
end L2

set_option Elab.async false
set_option linter.all false
set_option maxRecDepth 100000
set_option maxHeartbeats 4000000
namespace L2
open PySem PySem.Spec PyProof.Rows
noncomputable def cW (R : St → Prop) (P : Nat → List V → Hp → Prop) (n : Nat) (D : Addr) : Nat → Nat → St → Hp → Prop := fun i m σ' H => m = n - i ∧ i ≤ n ∧ R σ' ∧ ∃ ys, P i ys H ∧ H D = some (.lst ys)
noncomputable def cYes (R : St → Prop) (P : Nat → List V → Hp → Prop) (n : Nat) (D : Addr) (σ : St) (i : Nat) : VK := fun v H5 => ∃ xs, H5 D = some (.lst xs) ∧ xs.length < sizeLine ∧ ∃ m', m' < n - i ∧ cW R P n D (i + 1) m' σ (upd H5 D (.lst (xs ++ [v])))
noncomputable def cNo (R : St → Prop) (P : Nat → List V → Hp → Prop) (n : Nat) (D : Addr) (σ : St) (i : Nat) : Hp → Prop := fun H4 => ∃ m', m' < n - i ∧ cW R P n D (i + 1) m' σ H4
theorem cyes {R : St → Prop} {P : Nat → List V → Hp → Prop} {n : Nat} {D : Addr} {σ : St} {i : Nat} {ys : List V} {v : V} {H : Hp} (hi : i < n) (r : R σ) (h : H D = some (.lst ys)) (hl : ys.length < sizeLine) (p : P (i + 1) (ys ++ [v]) (upd H D (.lst (ys ++ [v])))) : cYes R P n D σ i v H :=
  ⟨ys, h, hl, n - (i + 1), by walk_at "om", rfl, hi, r, _, p, upd_same⟩
theorem cno {R : St → Prop} {P : Nat → List V → Hp → Prop} {n : Nat} {D : Addr} {σ : St} {i : Nat} {ys : List V} {H : Hp} (hi : i < n) (r : R σ) (h : H D = some (.lst ys)) (p : P (i + 1) ys H) : cNo R P n D σ i H :=
  ⟨n - (i + 1), by walk_at "om", rfl, hi, r, _, p, h⟩
theorem comp_gen {J : It} {g : TG} {tt : TT} {te : TE} {σ0 : St} {H1 : Hp} {Q : VK} {D : Addr} {n : Nat} {xv : Nat → V} {st : Nat → St} (R : St → Prop) (P : Nat → List V → Hp → Prop) (r0 : R σ0) (h0 : P 0 [] (upd H1 D (.lst [])))
    (hj : ∀ i ys H, i < n → P i ys H → H D = some (.lst ys) → J.go i H ∧ ∀ x H2, J.yld i H x H2 → H2 = H ∧ x = xv i) (he : ∀ ys H, P n ys H → H D = some (.lst ys) → J.stop n H)
    (hg : ∀ i ys σ' H (K : St → Hp → Prop), i < n → R σ' → P i ys H → K (st i) H → g (xv i) σ' H K)
    (hs : ∀ i ys H, i < n → P i ys H → H D = some (.lst ys) → tt (st i) H fun b H4 => if b = true then te (st i) H4 (cYes R P n D (st i) i) else cNo R P n D (st i) i H4)
    (hd : ∀ ys H, P n ys H → H D = some (.lst ys) → Q (.ref D) H) :
    CompGo J g tt te σ0 H1 Q D := by
  refine ⟨cW R P n D, ⟨n, by simp [cW, r0]; exact ⟨_, h0, upd_same⟩⟩, ?_⟩
  rintro i m σ' H' ⟨rfl, hi, r, ys, p, hD⟩
  by_cases hlt : i < n
  · obtain ⟨g1, g2⟩ := hj i ys H' hlt p hD
    refine .inr ⟨g1, fun x H2 y => ?_⟩
    obtain ⟨rfl, rfl⟩ := g2 x H2 y
    exact hg i ys σ' H2 _ hlt r p (hs i ys H2 hlt p hD)
  · have e : i = n := by walk_at "om"
    subst e
    exact .inl ⟨he ys H' p hD, hd ys H' p hD⟩
noncomputable def Rset (t : Nat) (σ0 : St) : St → Prop := fun σ' => ∀ v, σ'.set t v = σ0.set t v
theorem rset0 {t : Nat} {σ0 : St} : Rset t σ0 σ0 := fun _ => rfl
theorem rset1 {t : Nat} {σ0 : St} {x : Option V} : Rset t σ0 (σ0.set t x) := fun v => by rw [List.set_set]
theorem comp_range {t : Nat} {tt : TT} {te : TE} {σ0 : St} {H1 : Hp} {Q : VK} {D : Addr} {lo : Int} {n : Nat} (P : Nat → List V → Hp → Prop) (h0 : P 0 [] (upd H1 D (.lst [])))
    (hs : ∀ i ys H, i < n → P i ys H → H D = some (.lst ys) → tt (σ0.set t (some (.int (lo + i)))) H fun b H4 => if b = true then te (σ0.set t (some (.int (lo + i)))) H4 (cYes (Rset t σ0) P n D (σ0.set t (some (.int (lo + i)))) i) else cNo (Rset t σ0) P n D (σ0.set t (some (.int (lo + i)))) i H4)
    (hd : ∀ ys H, P n ys H → H D = some (.lst ys) → Q (.ref D) H) :
    CompGo (Itr lo n) (gName t) tt te σ0 H1 Q D :=
  comp_gen (xv := fun i => .int (lo + i)) (st := fun i => σ0.set t (some (.int (lo + i)))) (Rset t σ0) P rset0 h0 (fun i _ H hi _ _ => ⟨hi, fun x H2 y => y⟩) (fun _ _ _ _ => Nat.le_refl n)
    (fun i _ σ' H K _ r _ k => by show K (σ'.set t (some (.int (lo + i)))) H; rw [r]; exact k) hs hd
theorem comp_list {K : PySem.W.Frag} {a : Addr} {xs : List V} {t : Nat} {tt : TT} {te : TE} {σ0 : St} {H1 : Hp} {Q : VK} {D : Addr} (P : Nat → List V → Hp → Prop) (h0 : P 0 [] (upd H1 D (.lst []))) (hl : ∀ i ys H, P i ys H → H D = some (.lst ys) → SqL K H a xs)
    (hs : ∀ i ys H x, xs[i]? = some x → P i ys H → H D = some (.lst ys) → tt (σ0.set t (some x)) H fun b H4 => if b = true then te (σ0.set t (some x)) H4 (cYes (Rset t σ0) P xs.length D (σ0.set t (some x)) i) else cNo (Rset t σ0) P xs.length D (σ0.set t (some x)) i H4)
    (hd : ∀ ys H, P xs.length ys H → H D = some (.lst ys) → Q (.ref D) H) :
    CompGo (Itl K a) (gName t) tt te σ0 H1 Q D := by
  have get : ∀ i, i < xs.length → xs[i]? = some (xs.getD i .non) := fun i hi => by simp [List.getD, hi]
  refine comp_gen (xv := fun i => xs.getD i .non) (st := fun i => σ0.set t (some (xs.getD i .non))) (Rset t σ0) P rset0 h0 (fun i ys H hi p hD => ⟨⟨xs, _, hl i ys H p hD, get i hi⟩, fun x H2 y => ⟨y.1, ?_⟩⟩) (fun ys H p hD => ⟨xs, hl _ ys H p hD, Nat.le_refl _⟩)
    (fun i _ σ' H K _ r _ k => by show K (σ'.set t (some (xs.getD i .non))) H; rw [r]; exact k) (fun i ys H hi p hD => hs i ys H _ (get i hi) p hD) hd
  have e := y.2 xs (hl i ys H p hD)
  rw [get i hi] at e
  exact (Option.some.inj e).symm
theorem comp_tup {K : PySem.W.Frag} {a : Addr} {xs : List V} {t : Nat} {tt : TT} {te : TE} {σ0 : St} {H1 : Hp} {Q : VK} {D : Addr} (P : Nat → List V → Hp → Prop) (h0 : P 0 [] (upd H1 D (.lst []))) (hl : ∀ i ys H, P i ys H → H D = some (.lst ys) → SqT K H a xs)
    (hs : ∀ i ys H x, xs[i]? = some x → P i ys H → H D = some (.lst ys) → tt (σ0.set t (some x)) H fun b H4 => if b = true then te (σ0.set t (some x)) H4 (cYes (Rset t σ0) P xs.length D (σ0.set t (some x)) i) else cNo (Rset t σ0) P xs.length D (σ0.set t (some x)) i H4)
    (hd : ∀ ys H, P xs.length ys H → H D = some (.lst ys) → Q (.ref D) H) :
    CompGo (Itt K a) (gName t) tt te σ0 H1 Q D := by
  have get : ∀ i, i < xs.length → xs[i]? = some (xs.getD i .non) := fun i hi => by simp [List.getD, hi]
  refine comp_gen (xv := fun i => xs.getD i .non) (st := fun i => σ0.set t (some (xs.getD i .non))) (Rset t σ0) P rset0 h0 (fun i ys H hi p hD => ⟨⟨xs, _, hl i ys H p hD, get i hi⟩, fun x H2 y => ⟨y.1, ?_⟩⟩) (fun ys H p hD => ⟨xs, hl _ ys H p hD, Nat.le_refl _⟩)
    (fun i _ σ' H K _ r _ k => by show K (σ'.set t (some (xs.getD i .non))) H; rw [r]; exact k) (fun i ys H hi p hD => hs i ys H _ (get i hi) p hD) hd
  have e := y.2 xs (hl i ys H p hD)
  rw [get i hi] at e
  exact (Option.some.inj e).symm
theorem comp_str {z : Str} {t : Nat} {tt : TT} {te : TE} {σ0 : St} {H1 : Hp} {Q : VK} {D : Addr} (P : Nat → List V → Hp → Prop) (h0 : P 0 [] (upd H1 D (.lst [])))
    (hs : ∀ i ys H c, z.cps[i]? = some c → P i ys H → H D = some (.lst ys) → tt (σ0.set t (some (.str ⟨#[c]⟩))) H fun b H4 => if b = true then te (σ0.set t (some (.str ⟨#[c]⟩))) H4 (cYes (Rset t σ0) P z.cps.size D (σ0.set t (some (.str ⟨#[c]⟩))) i) else cNo (Rset t σ0) P z.cps.size D (σ0.set t (some (.str ⟨#[c]⟩))) i H4)
    (hd : ∀ ys H, P z.cps.size ys H → H D = some (.lst ys) → Q (.ref D) H) :
    CompGo (Its z) (gName t) tt te σ0 H1 Q D := by
  have get : ∀ i, i < z.cps.size → z.cps[i]? = some (z.cps.getD i 0) := fun i hi => by simp [Array.getD, hi]
  refine comp_gen (xv := fun i => .str ⟨#[z.cps.getD i 0]⟩) (st := fun i => σ0.set t (some (.str ⟨#[z.cps.getD i 0]⟩))) (Rset t σ0) P rset0 h0 (fun i ys H hi p hD => ⟨hi, fun x H2 y => ⟨y.1, ?_⟩⟩) (fun ys H p hD => Nat.le_refl _)
    (fun i _ σ' H K _ r _ k => by show K (σ'.set t (some (.str ⟨#[z.cps.getD i 0]⟩))) H; rw [r]; exact k) (fun i ys H hi p hD => hs i ys H _ (get i hi) p hD) hd
  obtain ⟨c, e, ex⟩ := y.2
  rw [get i hi] at e
  rw [ex, ← Option.some.inj e]
theorem comp_tt3 {K : PySem.W.Frag} {a : Addr} {n : Nat} {xs : List V} {ad : Nat → Addr} {v1 v2 v3 : Nat → V} {tt : TT} {te : TE} {H1 : Hp} {Q : VK} {D : Addr} (P : Nat → List V → Hp → Prop) (h0 : P 0 [] (upd H1 D (.lst []))) (hn : xs.length = n) (hx : ∀ i, i < n → xs[i]? = some (.ref (ad i)))
    (hl : ∀ i ys H, P i ys H → H D = some (.lst ys) → SqT K H a xs) (ht : ∀ i ys H, i < n → P i ys H → SqT K H (ad i) [v1 i, v2 i, v3 i])
    (hs : ∀ i ys H, i < n → P i ys H → H D = some (.lst ys) → tt [some (v1 i), some (v2 i), some (v3 i)] H fun b H4 => if b = true then te [some (v1 i), some (v2 i), some (v3 i)] H4 (cYes (fun σ => σ.length = 3) P n D [some (v1 i), some (v2 i), some (v3 i)] i) else cNo (fun σ => σ.length = 3) P n D [some (v1 i), some (v2 i), some (v3 i)] i H4)
    (hd : ∀ ys H, P n ys H → H D = some (.lst ys) → Q (.ref D) H) :
    CompGo (Itt K a) (gTup K 3 (gCons (gName 0) (gCons (gName 1) (gCons (gName 2) gNil)))) tt te [none, none, none] H1 Q D := by
  refine comp_gen (xv := fun i => .ref (ad i)) (st := fun i => [some (v1 i), some (v2 i), some (v3 i)]) (fun σ => σ.length = 3) P rfl h0 (fun i ys H hi p hD => ⟨⟨xs, _, hl i ys H p hD, hx i hi⟩, fun x H2 y => ⟨y.1, ?_⟩⟩) (fun ys H p hD => ⟨xs, hl _ ys H p hD, Nat.le_of_eq hn⟩)
    (fun i ys σ' H K' hi r p k => ?_) hs hd
  · have e := y.2 xs (hl i ys H p hD)
    rw [hx i hi] at e
    exact (Option.some.inj e).symm
  · match σ', r with
    | [s1, s2, s3], _ => exact ⟨ad i, _, rfl, ht i ys H hi p, rfl, _, _, rfl, _, _, rfl, _, _, rfl, rfl, k⟩
end L2
namespace L2
open PySem PySem.Spec PyProof.Rows
theorem yes {σ : St} {H : Hp} {A B : Hp → Prop} (h : A H) : tYes σ H fun b H4 => if b = true then A H4 else B H4 := by
  show if true = true then A H else B H
  rw [if_pos rfl]
  exact h
end L2

set_option Elab.async false
set_option linter.all false
set_option maxRecDepth 100000
set_option maxHeartbeats 4000000
namespace L2
open PySem PySem.Spec PyProof.Rows
section
variable {X : Cx} (K : PySem.W.Frag)
theorem kix_seq (hK : X.K = K := by rfl) : IxR X (rIx K) := hK ▸ ix_seq
theorem kop_notIn_seq (hK : X.K = K := by rfl) : OpR X (compareOp .NotIn) (rIn K true) := hK ▸ op_notIn_seq
theorem ksl_any (hK : X.K = K := by rfl) : SlR X (fun x lo hi H Q => rSlL K x lo hi H Q ∨ (rSlT K x lo hi H Q ∨ rSlS x lo hi H Q)) := hK ▸ sl_any
theorem kmt_join (hK : X.K = K := by rfl) : MtR X "str.join" (rJoin K) := hK ▸ mt_join
theorem kcall_len (hK : X.K = K := by rfl) : CallR X (.builtin "len") (fun xs H Q => ∃ x n, xs = [x] ∧ LenV K x H n ∧ Q (.int n) H) := hK ▸ call_len
theorem kcall_tuple_of (hK : X.K = K := by rfl) : CallR X (.type "tuple") (fun xs H Q => ∃ p ys, xs = [.ref p] ∧ ((SqL K H p ys ∧ ∀ l, H l = none → Q (.ref l) (upd H l (.tup ys))) ∨ (SqT K H p ys ∧ Q (.ref p) H))) := hK ▸ call_tuple_of
theorem kcall_sum (hc : X.calm = true) (hK : X.K = K := by rfl) : CallR X (.builtin "sum") (fun xs H Q => ∃ (p : Addr) (ns : List Int), xs = [.ref p] ∧ SqL K H p (ns.map V.int) ∧ Q (.int ns.sum) H) := hK ▸ call_sum hc
theorem kcall_isiT (hK : X.K = K := by rfl) : CallR X (.builtin "isinstance") (fun xs H Q => ∃ x n t b, xs = [x, .ty n] ∧ TyOf K H x t ∧ PySem.W.kitOne K t (.type n) = some b ∧ Q (.bl b) H) := hK ▸ call_isiT
theorem kpi_list {tg l : Expr} {tl : TE} (hl : PE X l tl) (hK : X.K = K := by rfl) : PI X tg l (iList K tl) := hK ▸ pi_list hl
theorem kpi_tup {tg l : Expr} {tl : TE} (hl : PE X l tl) (hK : X.K = K := by rfl) : PI X tg l (iTup K tl) := hK ▸ pi_tup hl
theorem kpe_bm {o e : Expr} {es : List Expr} {to : TE} {t : TA} {name : Str} {apos cpos : Pos} {T id : String} {r : V → List V → Hp → VK → Prop} (pa : PlainAttrs T) (slot : Slot T name id) (hty : typeOf (.builtin id) = pure (.type "method_descriptor")) (hm : MtR X id r) (ho : PE X o to) (ha : PA X (e :: es) t)
    (hbase : attributeBase o name X.env (eval o X.env) = eval o X.env := by rfl)
    (hfew : ((backTo cpos (starEach (e :: es) X.env)).all (fun x => !x.1) && (backToKw cpos (keywordEach [] X.env)).all (fun x => x.1.isSome)
      && decide ((e :: es).length + ([] : List Keyword).length + (if ([] : List Keyword).isEmpty then 0 else 1) < 30)) = true := by rfl)
    (hline : (apos.endLine == cpos.line) = true := by rfl) (hs : starEach (e :: es) X.env = (false, eval e X.env) :: starEach es X.env := by rfl) (hplain : (backTo cpos (starEach es X.env)).any (·.1) = false := by rfl) (hK : X.K = K := by rfl) :
    PE X (.Call (.Attribute o name apos) (e :: es) [] cpos) (tBM K T r to t) := hK ▸ pe_bm pa slot hty hm ho ha hbase hfew hline hs hplain
theorem kpe_bm0 {o : Expr} {to : TE} {name : Str} {apos cpos : Pos} {T id : String} {r : V → List V → Hp → VK → Prop} (pa : PlainAttrs T) (slot : Slot T name id) (hty : typeOf (.builtin id) = pure (.type "method_descriptor")) (hm : MtR X id r) (ho : PE X o to)
    (hbase : attributeBase o name X.env (eval o X.env) = eval o X.env := by rfl) (hline : (apos.endLine == cpos.line) = true := by rfl) (hK : X.K = K := by rfl) : PE X (.Call (.Attribute o name apos) [] [] cpos) (tBM0 K T r to) := hK ▸ pe_bm0 pa slot hty hm ho hbase hline
theorem kpg_tup {es : List Expr} {k : Nat} {pos : Pos} {t : TGs} {n : Nat} (hc : X.calm = true) (h : PGs X es t) (hn : (assignEach es X.env).length = n := by rfl) (hst : (assignEach es X.env).findIdx? (·.1) = none := by rfl) (hK : X.K = K := by rfl) : PG X (.Tuple es k pos) (gTup K n t) := hK ▸ pg_tup hc h hn hst
end
end L2

set_option Elab.async false
set_option linter.all false
set_option maxRecDepth 100000
set_option maxHeartbeats 4000000
namespace L2
open PySem PySem.Spec PyProof.Rows

section
variable {X : Cx}
end

structure Fly (l : List Env) (H' : Hp) (old : Heap) (e : Addr) (cls : Value) (h : Heap) : Prop where
  ex : ∃ B a0, Heap.FlyingW B l e cls a0 h ∧ ∀ b o, h.get? b = some o → b ∉ frs l → ((∃ u, H' b = some u) ∨ ∃ u, old.get? b = some u) → B.get? b = some o
  new : H' e = none
  nold : old.get? e = none
noncomputable def CX1 (P : Program) (w : World) : CXT := fun outer H s E e s' => ∃ (ea : Addr) (cls : Value) (H' : Hp), e = .ref ea ∧ s'.os = s.os ∧ AllBare s'.gens ∧ Un (frs outer) [] H H' s.heap s'.heap ∧ HOk P w H' s'.heap ∧ Fly outer H' s.heap ea cls s'.heap ∧ E cls none H'
theorem ObjOk.some {P : Program} {w : World} {H : Hp} {h : Heap} {a : Addr} {o : HO} (x : ObjOk P w H h a o) : ∃ ob, h.get? a = some ob := by
  cases o with
  | lst xs => obtain ⟨_, _, _, _, e⟩ := x; exact ⟨_, e⟩
  | tup xs => obtain ⟨_, _, _, o, e, _⟩ := x; exact ⟨_, e⟩
  | dK kvs => obtain ⟨_, _, _, _, o, _, _, e, _⟩ := x; exact ⟨_, e⟩
  | dT kvs => obtain ⟨_, _, _, _, o, _, _, e, _⟩ := x; exact ⟨_, e⟩
  | set S n => obtain ⟨o, _, _, _, e, _⟩ := x; exact ⟨_, e⟩
  | ins C dx fs => obtain ⟨_, _, _, e, _⟩ := x; exact ⟨_, e⟩
  | own y => exact x
  | xd fs => obtain ⟨_, ⟨_, _, _, e, _⟩, _⟩ := x; exact ⟨_, e⟩
  | rng lo hi => obtain ⟨_, _, _, e⟩ := x; exact ⟨_, e⟩
  | frz ob u => obtain ⟨e, _⟩ := x; exact ⟨_, e⟩
  | tbl ps => exact ⟨_, x⟩
  | met f y => exact ⟨_, x⟩
  | ext φ => obtain ⟨_, z, _⟩ := x; exact z
section
variable {X : Cx} {pins : List (Addr × Obj)} {σ : St} {H H' : Hp} {s s' : Shared} {h2 : Heap}
theorem Inv.left (I : Inv X pins σ H s) (hex : X.ex = []) (k : ∀ b o, s.heap.get? b = some o → b ∉ frs X.stack → ((∃ u, H b = some u) ∨ ∃ u, X.s₀.heap.get? b = some u) → h2.get? b = some o)
    (sl : ∀ b o, s.heap.get? b = some o → b ∈ frs X.outer → ∃ q, h2.get? b = some { o with slots := q }) : Un (frs X.outer) [] X.H₀ H X.s₀.heap h2 ∧ HOk X.prog X.w H h2 := by
  have nx : ∀ b, b ∉ X.ex := fun b z => by rw [hex] at z; exact absurd z (by simp)
  have neL : ∀ b o, X.s₀.heap.get? b = some o → b ≠ X.env.locals := fun b o e => Nat.ne_of_lt (Nat.lt_of_lt_of_le (Heap.lt_size e) I.ok.above)
  have nst : ∀ b, b ≠ X.env.locals → b ∉ frs X.outer → b ∉ frs X.stack := fun b h1 h3 z => (List.mem_cons.mp (I.stkSub b z)).elim h1 h3
  refine ⟨⟨fun b o e n nf _ => ?_, fun b o e n hb _ => ?_, fun b o e n _ => I.base.free b o e n (nx b), fun b o e _ => ?_, I.base.tups, I.base.frzs, I.base.tbls⟩, fun a o e => ?_⟩
  · exact k b o (I.base.keep b o e n nf (nx b)) (nst b (neL b o e) nf) (.inr ⟨o, e⟩)
  · obtain ⟨q, e1⟩ := I.base.slot b o e n hb (nx b)
    obtain ⟨q', e2⟩ := sl b _ e1 hb
    exact ⟨q', e2⟩
  · obtain ⟨o', e1⟩ := I.base.there b o e (nx b)
    by_cases hb : b ∈ frs X.outer
    · obtain ⟨q, e2⟩ := sl b o' e1 hb
      exact ⟨_, e2⟩
    · exact ⟨o', k b o' e1 (nst b (neL b o e) hb) (.inr ⟨o, e⟩)⟩
  · refine (I.hok a o e).stay (fun b u hb q => ?_) (fun _ q => q) fun _ _ q => q
    have ht : ∃ u, H b = some u := by
      rcases hb with z | z
      · exact ⟨o, by rw [z]; exact e⟩
      · exact ⟨_, z⟩
    refine k b u q (fun z => ?_) (.inl ht)
    obtain ⟨v, hv⟩ := ht
    rw [I.stkFree b z] at hv
    cases hv
theorem Inv.cov (I : Inv X pins σ H s) (hex : X.ex = []) {b : Addr} (h : (∃ u, H b = some u) ∨ ∃ u, X.s₀.heap.get? b = some u) : (∃ o, s.heap.get? b = some o) ∧ b ≠ X.env.locals := by
  rcases h with ⟨u, e⟩ | ⟨u, e⟩
  · refine ⟨(I.hok b u e).some, fun z => ?_⟩
    rw [z, I.free] at e
    cases e
  · exact ⟨I.base.there b u e (by rw [hex]; simp), Nat.ne_of_lt (Nat.lt_of_lt_of_le (Heap.lt_size e) I.ok.above)⟩
end
noncomputable def Thrown (X : Cx) (E : XK) : Prop := ∀ (pins : List (Addr × Obj)) (σ : St) (H : Hp) (s : Shared) (h' : Heap) (e : Addr) (cls : Value) (vs : List Value), Inv X pins σ H s → Heap.MadeExcOf s.heap h' e cls vs → E cls none H → X.xe (.ref e) { s with heap := h' }
section
variable {P : Program} {w : World} {K : PySem.W.Frag} {mg : Str → Option Value} {base : Heap} {N : List Str} {qual : Str} {scope : Scope} {f : Addr} {cd : Value} {A : Around} {outer : List Env} {s : Shared} {H : Hp} {E : XK}
theorem frs_mem {l : List Env} : ∀ env ∈ l, ∀ b, env.frame = some b → b ∈ frs l := fun env he b hb => List.mem_filterMap.mpr ⟨env, he, hb⟩
theorem thrown1 : Thrown (cxOf (CX1 P w) P w K mg base N qual scope f cd A outer s H E) E := by
  intro pins σ H1 s1 h' e cls vs I hm q
  have hex : (cxOf (CX1 P w) P w K mg base N qual scope f cd A outer s H E).ex = [] := rfl
  have hst : (cxOf (CX1 P w) P w K mg base N qual scope f cd A outer s H E).stack = envOfC qual scope s.heap.objs.size f cd :: outer := rfl
  have fin : ∀ b o, s1.heap.get? b = some o → b ∉ frs (envOfC qual scope s.heap.objs.size f cd :: outer) → (PySem.W.hideAll s1.heap (frs (envOfC qual scope s.heap.objs.size f cd :: outer))).get? b = some o := fun b o e1 nb => PySem.W.hideAll_get _ e1 nb
  refine wpAny_leaves_madeW (base := PySem.W.hideAll s1.heap (frs (envOfC qual scope s.heap.objs.size f cd :: outer))) (h := s1.heap) (L := s.heap.objs.size) I.ok.frames rfl (fun b o z => PySem.W.of_hideAll _ z)
    (PySem.W.funFrames_hide I.stack frs_mem) hm fun h'' t fl tp bt up => ?_
  have k : ∀ b o, s1.heap.get? b = some o → b ∉ frs (envOfC qual scope s.heap.objs.size f cd :: outer) → ((∃ u, H1 b = some u) ∨ ∃ u, s.heap.get? b = some u) → h''.get? b = some o := fun b o e1 nb _ => fl.1 b o (fin b o e1 nb)
  obtain ⟨un, hok⟩ := I.left (h2 := h'') hex k (fun b o e1 hb => up b o (hm.keeps b o e1) (by
    obtain ⟨_, o2, e2, nf⟩ := I.funs.mem hb
    rw [e1] at e2
    cases e2
    exact nf))
  have hnew : H1 e = none := by
    cases z : H1 e with
    | none => rfl
    | some u =>
      obtain ⟨ob, eo⟩ := (I.hok e u z).some
      rw [hm.new] at eo
      cases eo
  refine ⟨e, cls, H1, rfl, I.os, I.bare, un, hok, ⟨⟨_, _, fl, fun b o e1 nb hc => ?_⟩, hnew, ?_⟩, q⟩
  · obtain ⟨⟨o', eo⟩, neL⟩ := I.cov hex hc
    have nb' : b ∉ frs (envOfC qual scope s.heap.objs.size f cd :: outer) := fun z => (List.mem_cons.mp (I.stkSub b z)).elim neL nb
    have e2 := fl.1 b o' (fin b o' eo nb')
    have e3 : o = o' := Option.some.inj (e1.symm.trans e2)
    rw [e3]
    exact fin b o' eo nb'
  · cases z : s.heap.get? e with
    | none => rfl
    | some u =>
      obtain ⟨ob, eo⟩ := I.base.there e u z (by rw [hex]; simp)
      rw [hm.new] at eo
      cases eo
end

theorem exc_obj {K : PySem.W.Frag} {g : Heap} {C : Addr} {bmB : List Value} {newId : String} (X : K.In g) (q : PySem.W.excIn K C bmB newId = true) :
    ∃ tl N nm qn bs hd sn sub ab col dd k0 k1 k2 k3 k5 mN, g.get? C = some (excClassObj nm qn C N bs tl hd sn sub ab col dd k0 k1 k2 k3 k5 newId) ∧ g.Ns N mN ∧ mN "__init__" = none ∧ OwnTail g bmB tl := by
  unfold PySem.W.excIn at q
  split at q
  · rename_i d1 c1 l1 at1
    split at q
    · rename_i C1 tl j0 j1 j2 j3 n1 j5 hm1 hs1
      simp only [Bool.and_eq_true, beq_iff_eq, Bool.not_eq_true'] at q
      obtain ⟨⟨⟨⟨⟨r1, r2⟩, r3⟩, r4⟩, r5⟩, r6⟩ := q
      subst r1 r2
      obtain ⟨nm, bs, mro, ns, qn, hd, sn, sub, ab, col, del⟩ := c1
      have hm2 : mro = _ := hm1
      have r3' : del = false := r3
      subst hm2 r3'
      have sl2 : l1 = #[j0, j1, j2, j3, some (.builtin n1), j5] := by
        cases l1 with
        | mk ls =>
          have : ls = _ := hs1
          rw [this]
      subst sl2
      exact ⟨tl, ns, nm, qn, bs, hd, sn, sub, ab, col, d1, j0, j1, j2, j3, j5, _, X _ _ at1, .of_isNs (PySem.W.isNs_of_in X r5), PySem.W.nsMap_none_of_in X r5 r6, PySem.W.tail_of_in X r4⟩
    · cases q
  · cases q
section
variable {X : Cx}
noncomputable def tRaise (C : Addr) (E : XK) (t : TA) : TS := fun _ σ H => t σ H fun vs H1 => vs.length ≤ sizeLine ∧ E (.ref C) none H1
theorem ps_raise {x : Str} {C : Addr} {bmB bmN : List Value} {newId nid initId inN Bn B0 : String} {E : XK} {e0 : Expr} {es : List Expr} {t : TA} {np cpos pos : Pos} (hg : Gl X x) (hm : X.mg x = some (.ref C)) (q : PySem.W.excIn X.K C bmB newId = true)
    (Fn : ExcBaseFacts Bn newId inN bmN) (hBn : bmB.contains (.type Bn) = true) (FB : ExcBaseFacts B0 nid initId bmB) (hc : X.calm = true) (hx : Thrown X E) (ha : PA X (e0 :: es) t) (hdb : (x == ("__debug__" : Str)) = false := by decide)
    (he : starEach (e0 :: es) X.env = (false, eval e0 X.env) :: starEach es X.env := by rfl) (hpl : (backTo cpos (starEach es X.env)).any (·.1) = false := by rfl) :
    PS X (.Raise (some (.Call (.Name x np) (e0 :: es) [] cpos)) none pos) (tRaise C E t) := by
  intro pins s σ H D I h
  obtain ⟨tl, N, nm, qn, bs, hd, sn, sub, ab, col, dd, k0, k1, k2, k3, k5, mN, hC, hN, hni, T⟩ := exc_obj I.mod.kin q
  have ha' := ha cpos pins s σ H _ I h
  rw [he] at ha'
  refine wpAny_Raise_call_subU (C := C) (nm := nm) (q := qn) (N := N) (bs := bs) (bm := tl) (hdct := hd) (sn := sn) (sub := sub) (ab := ab) (col := col) (dd := dd) (k0 := k0) (k1 := k1) (k2 := k2) (k3 := k3) (k5 := k5)
    Fn hBn FB (mN := mN) (T.hasType FB.hasBase) (I.ok.hd hc) (by rw [he]; show (false || (backTo cpos (starEach es X.env)).any (·.1)) = false; rw [hpl]; rfl) hni (ld_glob I hg hm ⟨rfl, ?_⟩ hdb)
  rw [he]
  refine Calls.evalArgs_plain (wpAny_mono ha' (fun us s2 ⟨vs, H2, I2, r, hz, qE⟩ => ⟨rfl, ?_, I2.bk _ _ hC, hN.keeps I2.bk, T.keeps I2.bk, fun h' e hm => ?_⟩) fun _ _ y => y)
  · rw [← r.length]; exact hz
  · exact hx pins σ H2 s2 h' e _ _ I2 hm qE
end
end L2

set_option Elab.async false
set_option linter.all false
set_option maxRecDepth 100000
set_option maxHeartbeats 4000000
namespace L2
open PySem PySem.Spec PyProof.Rows
noncomputable def ExcO (e : Addr) (cls : Value) : HO := .ext fun h => ∃ o vs, h.get? e = some o ∧ o.cls = cls ∧ o.data = .fields vs
noncomputable def Caught (X : Cx) (pins : List (Addr × Obj)) (R : Value → St → Hp → Prop) : Value → Shared → Prop := fun e s' => ∃ σ' Hc sc, Inv X pins σ' Hc sc ∧ CX1 X.prog X.w X.stack Hc sc (fun cls _ H' => R cls σ' H') e s'
noncomputable abbrev TSx := Ends → St → Hp → (Value → St → Hp → Prop) → Prop
noncomputable abbrev TEx := St → Hp → VK → (Value → Hp → Prop) → Prop
noncomputable def PSx (X : Cx) (st : Stmt) (t : TSx) : Prop := ∀ (E : Value → Shared → Prop) (pins : List (Addr × Obj)) (s : Shared) (σ : St) (H : Hp) (D : Ends) (R : Value → St → Hp → Prop), Inv X pins σ H s → t D σ H R → (∀ e s', Caught X pins R e s' → E e s') →
  wpAny (model X.prog X.w) X.A (exec st X.env) (SP X pins D) E s
noncomputable def PEx (X : Cx) (e : Expr) (t : TEx) : Prop := ∀ (E : Value → Shared → Prop) (pins : List (Addr × Obj)) (s : Shared) (σ : St) (H : Hp) (Q : VK) (R : Value → Hp → Prop), Inv X pins σ H s → t σ H Q R → (∀ e s', Caught X pins (fun cls σ' H' => σ' = σ ∧ R cls H') e s' → E e s') →
  wpAny (model X.prog X.w) X.A (eval e X.env) (EP X pins σ Q) E s
theorem CX1.imp {P : Program} {w : World} {l : List Env} {H : Hp} {s : Shared} {E E' : XK} {e : Value} {s' : Shared} (h : CX1 P w l H s E e s') (k : ∀ c d H, E c d H → E' c d H) : CX1 P w l H s E' e s' := by
  obtain ⟨ea, cls, H', a, b, c, d, f, g, q⟩ := h
  exact ⟨ea, cls, H', a, b, c, d, f, g, k _ _ _ q⟩
section
variable {X : Cx}
noncomputable def tCallX (sp : Sp) (t : TA) : TEx := fun σ H Q R => t σ H fun vs H1 => sp vs H1 Q fun cls _ H' => R cls H'
theorem pex_call {k : Nat} {f : Addr} {fd : FuncData} {ps : List Str} {sp : Sp} {x : Str} {p pos : Pos} {e : Expr} {es : List Expr} {t : TA} (F : FnOk X.prog X.w X.K X.mg X.base (CX1 X.prog X.w) k f fd ps sp) (hr : Room k X.A) (hg : Gl X x) (hm : X.mg x = some (.ref f))
    (hk : PySem.W.keepIn X.K (.ref f) = true) (hb : Binds X.K fd ps []) (ha : PA X.nox (e :: es) t) (hdb : (x == ("__debug__" : Str)) = false := by decide)
    (he : starEach (e :: es) X.env = (false, eval e X.env) :: starEach es X.env := by rfl) (hpl : (backTo pos (starEach es X.env)).any (·.1) = false := by rfl) : PEx X (.Call (.Name x p) (e :: es) [] pos) (tCallX sp t) := by
  intro E pins s σ H Q R I h hE
  refine wpAny_Call_Name_kw (ld_glob I hg hm ?_ hdb)
  refine PySem.W.callWith_K (h₀ := X.base) I.ok.mod.kin hk (wpAny_mono (ha pos pins s σ H _ (I.wish _) h) (fun us s1 ⟨vs, H1, I1', r, q⟩ => ⟨I1'.unwish.kIn, ?_⟩) fun _ _ z => False.elim z) he hpl
  have I1 := I1'.unwish
  have hl : us.length = ps.length := by rw [← r.length]; exact F.len _ _ _ _ q
  have hb' : BindsTo s1 fd ⟨us, []⟩ (ps.zip us) := by
    have z := hb s1 us I1.kIn (by rw [List.append_nil]; exact hl)
    rw [List.append_nil] at z
    exact z
  refine wpAny_call (codeAny_mono (F.run X.A X.stack s1 H1 ⟨us, []⟩ us vs Q _ hr I1.env0 hb' r q) fun res s' hq => ?_)
  cases res with
  | error e =>
    have hq' : CX1 X.prog X.w X.stack H1 s1 (fun cls _ H' => R cls H') e s' := hq
    exact hE e s' ⟨σ, H1, s1, I1, CX1.imp hq' fun _ _ _ z => ⟨rfl, z⟩⟩
  | ok fl =>
    cases fl with
    | ret u => exact I1.after hq
    | next => exact False.elim hq
    | brk => exact False.elim hq
    | cont => exact False.elim hq
theorem psx_expr {e : Expr} {t : TEx} {pos : Pos} (he : PEx X e t) (hs : swapsWith e none pos.line X.env = pure false := by rfl) : PSx X (.Expr e pos) (fun D σ H R => t σ H (fun _ H1 => D.nx σ H1) fun cls H' => R cls σ H') := by
  intro E pins s σ H D R I h hE
  refine wpAny_Expr_any (thn (he E pins s σ H _ _ I h fun e s' ⟨σ', Hc, sc, I', c⟩ => hE e s' ⟨σ', Hc, sc, I', c.imp fun cls d H2 z => ?_⟩) fun v s1 ⟨x, H1, I1, r1, q1⟩ => ⟨σ, H1, I1, q1⟩) I.quiet hs
  rw [z.1]
  exact z.2
end
section
variable {X : Cx} {pins : List (Addr × Obj)} {σ : St} {H : Hp} {s : Shared}
theorem Inv.adopt {e : Addr} {u : HO} (I : Inv X pins σ H s) (hn : H e = none) (h0 : X.s₀.heap.get? e = none) (nL : e ≠ X.env.locals) (nC : ∀ x c, X.env.cells.lookup x = some c → c ≠ e) (nP : ∀ p ∈ X.pn ++ pins, p.1 ≠ e)
    (ok : ObjOk X.prog X.w (upd H e u) s.heap e u) : Inv X pins σ (upd H e u) s := by
  have ne : ∀ {b : Addr} {v : HO}, H b = some v → b ≠ e := fun q => ne_of_none q hn
  refine ⟨I.ok, I.os, I.bare, ⟨I.base.keep, I.base.slot, fun b o q n hx => ?_, I.base.there, fun b xs q => ?_, fun b o v q => ?_, fun b ps q => ?_⟩, I.loc, I.cell, ?_, fun x c q => ?_, fun p hp => ?_, fun a o q => ?_, I.len⟩
  · have z : b ≠ e := fun z => by rw [z, h0] at q; cases q
    rw [upd_ne z]
    exact I.base.free b o q n hx
  · have q1 := I.base.tups b xs q
    rw [upd_ne (ne q1)]
    exact q1
  · have q1 := I.base.frzs b o v q
    rw [upd_ne (ne q1)]
    exact q1
  · obtain ⟨more, q1⟩ := I.base.tbls b ps q
    exact ⟨more, by rw [upd_ne (ne q1)]; exact q1⟩
  · rw [upd_ne (Ne.symm nL)]
    exact I.free
  · rw [upd_ne (nC x c q)]
    exact I.freeC x c q
  · obtain ⟨p1, p2, p3⟩ := I.pin p hp
    exact ⟨p1, by rw [upd_ne (nP p hp)]; exact p2, p3⟩
  · by_cases z : a = e
    · subst z
      rw [upd_same] at q
      cases q
      exact ok
    · rw [upd_ne z] at q
      exact (I.hok a o q).stay (fun _ _ _ r => r) (fun c r => by rw [upd_ne (ne r)]; exact r) fun c xs r => by rw [upd_ne (ne r)]; exact r
theorem name_goes {M : Model} {A : Around} {E : Value → Shared → Prop} {i : Nat} {n : Str} {pos : Pos} {Q : Unit → Shared → Prop} (I : Inv X pins σ H s) (hN : X.N.Nodup) (hi : X.N[i]? = some n) (hk : X.env.scope.names.lookup n = some .local)
    (h : ∀ s', Inv X pins (σ.set i none) H s' → Q () s') : wpAny M A (do bindName X.env n .none; unbindBehindTheSuite X.env n pos) Q E s := by
  obtain ⟨m, hn, hl⟩ := id I.loc
  have hcls : (X.env.scope.kind == .class || (X.env.scope.kind == .module && X.env.locals != X.env.globals)) = false := by rw [I.ok.kind]; rfl
  have hiσ : i < σ.length := by rw [I.len]; exact (List.getElem?_eq_some_iff.mp hi).1
  refine wpAny_nameGoes_keeps hk hn hcls fun h' v hn' hs => ?_
  have old : ∀ b o, X.s₀.heap.get? b = some o → b ≠ X.env.locals := fun b o e => Nat.ne_of_lt (Nat.lt_of_lt_of_le (Heap.lt_size e) I.ok.above)
  refine h _ ⟨I.ok, I.os, I.bare, ⟨fun b o e n hb hx => ?_, fun b o e n hb hx => ?_, I.base.free, fun b o e hx => ?_, I.base.tups, I.base.frzs, I.base.tbls⟩, ⟨_, hn', fun j y v' e1 e2 e3 => ?_⟩, fun y c e => ?_, I.free, I.freeC, fun p hp => ?_, fun b ob e => ?_, by simpa using I.len⟩
  · exact (hs.2 b (old b o e)).trans (I.base.keep b o e n hb hx)
  · obtain ⟨q, e1⟩ := I.base.slot b o e n hb hx
    exact ⟨q, (hs.2 b (old b o e)).trans e1⟩
  · obtain ⟨o', e1⟩ := I.base.there b o e hx
    exact ⟨o', (hs.2 b (old b o e)).trans e1⟩
  · by_cases hj : j = i
    · subst hj
      rw [List.getElem?_set_self hiσ] at e2
      cases e2
    · rw [List.getElem?_set_ne (Ne.symm hj)] at e2
      obtain ⟨u', r', q⟩ := hl j y v' e1 e2 e3
      refine ⟨u', r', ?_⟩
      rcases q with ⟨k, e⟩ | ⟨k, c, e, z⟩
      · refine .inl ⟨k, ?_⟩
        have ny : y ≠ n := fun e => hj (nodup_ix hN e1 (e ▸ hi))
        show (if y = n then v else m y) = some u'
        rw [if_neg ny]
        exact e
      · exact .inr ⟨k, c, e, z.sameBut hs (I.cne y c e)⟩
  · obtain ⟨w', z⟩ := I.cell y c e
    exact ⟨w', z.sameBut hs (I.cne y c e)⟩
  · obtain ⟨p1, p2, p3, p4⟩ := I.pin p hp
    exact ⟨(hs.2 p.1 p3).trans p1, p2, p3, p4⟩
  · refine (I.hok b ob e).stay (fun c w' hc q => (hs.2 c ?_).trans q) (fun _ q => q) fun _ _ q => q
    rintro rfl
    rcases hc with rfl | hc
    · rw [I.free] at e; cases e
    · rw [I.free] at hc; cases hc
end
section
variable {X : Cx} {pins : List (Addr × Obj)} {R : Value → St → Hp → Prop} {e : Value} {s' : Shared}
theorem Caught.see (h : Caught X pins R e s') : ∃ ea cls σ' H', e = .ref ea ∧ Inv X pins σ' H' s' ∧ H' ea = none ∧ R cls σ' H' ∧ (∃ oe vs, s'.heap.get? ea = some oe ∧ oe.cls = cls ∧ oe.data = .fields vs) ∧
    (X.ex = [] → X.s₀.heap.get? ea = none) ∧ ea ≠ X.env.locals ∧ (∀ x c, X.env.cells.lookup x = some c → c ≠ ea) ∧ ∀ p ∈ X.pn ++ pins, p.1 ≠ ea := by
  obtain ⟨σ', Hc, sc, I, ea, cls, H', rfl, os, bare, un, hok, fly, q⟩ := h
  have I' := I.call' os un hok bare (fun b z => absurd z (by simp))
  obtain ⟨B, a0, fl, cv⟩ := fly.ex
  obtain ⟨oe, vs, h1, h2, h3, _⟩ := fl.first
  have no : ∀ o, sc.heap.get? ea = some o → False := fun o z => by rw [fly.nold] at z; cases z
  refine ⟨ea, cls, σ', H', rfl, I', fly.new, q, ⟨oe, vs, h1, h2, h3⟩, fun hex => ?_, fun z => ?_, fun x c e z => ?_, fun p hp z => ?_⟩
  · cases z : X.s₀.heap.get? ea with
    | none => rfl
    | some u =>
      obtain ⟨o, e1⟩ := I.base.there ea u z (by rw [hex]; simp)
      exact (no o e1).elim
  · obtain ⟨m, ⟨o, _, _, ho, _⟩, _⟩ := I.loc
    exact no o (by rw [z]; exact ho)
  · obtain ⟨v, o, ho, _⟩ := I.cell x c e
    exact no o (by rw [← z]; exact ho)
  · exact no p.2 (by rw [← z]; exact (I.pin p hp).1)
theorem caught_move {ea : Addr} {cls a0 : Value} {σ' : St} {Hc H' : Hp} {sc : Shared} {B h5 : Heap} (I : Inv X pins σ' Hc sc) (os : s'.os = sc.os) (bare : AllBare s'.gens) (un : Un (frs X.stack) [] Hc H' sc.heap s'.heap) (hok : HOk X.prog X.w H' s'.heap)
    (new : H' ea = none) (nold : sc.heap.get? ea = none) (fl : Heap.FlyingW B X.stack ea cls a0 s'.heap) (cv : ∀ b o, s'.heap.get? b = some o → b ∉ frs X.stack → ((∃ u, H' b = some u) ∨ ∃ u, sc.heap.get? b = some u) → B.get? b = some o)
    (fl5 : Heap.FlyingW B X.stack ea cls a0 h5) (up : s'.heap.UpToSlots h5) (q : R cls σ' H') : Caught X pins R (.ref ea) { s' with heap := h5 } := by
  have I' := I.call' os un hok bare (fun b z => absurd z (by simp))
  have sl : ∀ b o, s'.heap.get? b = some o → b ∈ frs X.stack → ∃ q, h5.get? b = some { o with slots := q } := fun b o e1 hb => up b o e1 (by
    obtain ⟨_, o2, e2, nf⟩ := fl.2.2.1.mem hb
    rw [e1] at e2
    cases e2
    exact nf)
  refine ⟨σ', Hc, sc, I, ea, cls, H', rfl, os, bare, ⟨fun b o e n nf _ => ?_, fun b o e n hb hx => ?_, un.free, fun b o e hx => ?_, un.tups, un.frzs, un.tbls⟩, fun a o e => ?_, ⟨⟨B, a0, fl5, fun b o e1 nb hc => ?_⟩, new, nold⟩, q⟩
  · exact fl5.1 b o (cv b o (un.keep b o e n nf (by simp)) nf (.inr ⟨o, e⟩))
  · obtain ⟨q1, e1⟩ := un.slot b o e n hb hx
    obtain ⟨q2, e2⟩ := sl b _ e1 hb
    exact ⟨q2, e2⟩
  · obtain ⟨o', e1⟩ := un.there b o e hx
    by_cases hb : b ∈ frs X.stack
    · obtain ⟨q2, e2⟩ := sl b o' e1 hb
      exact ⟨_, e2⟩
    · exact ⟨o', fl5.1 b o' (cv b o' e1 hb (.inr ⟨o, e⟩))⟩
  · refine (hok a o e).stay (fun b u hb q => ?_) (fun _ q => q) fun _ _ q => q
    have ht : ∃ u, H' b = some u := by
      rcases hb with z | z
      · exact ⟨o, by rw [z]; exact e⟩
      · exact ⟨_, z⟩
    refine fl5.1 b u (cv b u q (fun z => ?_) (.inl ht))
    obtain ⟨v, hv⟩ := ht
    rw [I'.stkFree b z] at hv
    cases hv
  · have ho : ∃ o', s'.heap.get? b = some o' := by
      rcases hc with ⟨u, z⟩ | ⟨u, z⟩
      · exact (hok b u z).some
      · exact un.there b u z (by simp)
    obtain ⟨o', eo⟩ := ho
    have eB := cv b o' eo nb hc
    have e3 : o = o' := Option.some.inj (e1.symm.trans (fl5.1 b o' eB))
    rw [e3]
    exact eB
theorem land1 {E : Value → Shared → Prop} {A : Around} {M : Model} {rest : Sem Flow} {Q : Flow → Shared → Prop} (hst : X.stack = X.env :: X.outer) (hf : X.env.frame = some X.env.locals) (hfr : A.frames = some X.stack) (h : Caught X pins R e s')
    (k : ∀ h5, Caught X pins R e { s' with heap := h5 } → wpAny M A rest Q E { s' with heap := h5 }) : wpAny M A (noteFrame e X.env) (fun _ s2 => wpAny M A (setFlight e none) (fun _ s3 => wpAny M A rest Q E s3) E s2) E s' := by
  obtain ⟨σ', Hc, sc, I, ea, cls, H', rfl, os, bare, un, hok, fly, q⟩ := h
  obtain ⟨B, a0, fl, cv⟩ := fly.ex
  refine wpAny_looks_onW (base := B) (outer := X.outer) (by rw [hfr, hst]) hf (by rw [← hst]; exact fl) fun h4 held up4 => wpAny_landsW held fun h5 fl5 up5 => k h5 ?_
  exact caught_move I os bare un hok fly.new fly.nold fl cv (by rw [hst]; exact fl5) (up4.trans up5) q
theorem land2 {E : Value → Shared → Prop} {A : Around} {M : Model} {Q : Unit → Shared → Prop} (h : Caught X pins R e s') (k : ∀ h5, Caught X pins R e { s' with heap := h5 } → Q () { s' with heap := h5 }) : wpAny M A (setFlight e none) Q E s' := by
  obtain ⟨σ', Hc, sc, I, ea, cls, H', rfl, os, bare, un, hok, fly, q⟩ := h
  obtain ⟨B, a0, fl, cv⟩ := fly.ex
  exact lands_againW fl fun h5 fl5 up5 => k h5 (caught_move I os bare un hok fly.new fly.nold fl cv fl5 up5 q)
end
noncomputable def Cx.inEx (X : Cx) (ea : Addr) : Cx := { X with A := X.A.mark (some (.ref ea)), calm := false, xe := fun _ _ => False }
section
variable {X : Cx} {pins : List (Addr × Obj)} {σ : St} {H : Hp} {s : Shared} {ea : Addr}
theorem Inv.inEx (I : Inv X pins σ H s) (ea : Addr) : Inv (X.inEx ea) pins σ H s := ⟨⟨I.ok.mod, I.ok.kind, I.ok.glob, I.ok.blt, I.ok.above, I.ok.inj, I.ok.has, I.ok.cab, fun z => absurd (show false = true from z) (by simp), I.ok.frames, I.ok.stk, I.ok.exf, I.ok.bs, I.ok.bsz, I.ok.noex, I.ok.exfs, I.ok.funs, I.ok.frf⟩,
  I.os, I.bare, I.base, I.loc, I.cell, I.free, I.freeC, I.pin, I.hok, I.len⟩
theorem Inv.outEx (ok : X.Ok) (I : Inv (X.inEx ea) pins σ H s) : Inv X pins σ H s := ⟨ok, I.os, I.bare, I.base, I.loc, I.cell, I.free, I.freeC, I.pin, I.hok, I.len⟩
noncomputable def Ends.drop (D : Ends) (i : Nat) : Ends := { nx := fun σ H => D.nx (σ.set i none) H, rt := D.rt, bk := fun σ H => D.bk (σ.set i none) H, ct := fun σ H => D.ct (σ.set i none) H }
noncomputable def tTryAs (K : PySem.W.Frag) (C : Addr) (i : Nat) (tb : TSx) (ts : TS) : TS := fun D σ H => tb D σ H fun cls σ' H' => PySem.W.exmOne K cls (.ref C) = some true ∧ ∀ ea, H' ea = none → ts (D.drop i) (σ'.set i (some (.ref ea))) (upd H' ea (ExcO ea cls))
theorem excO_ok {P : Program} {w : World} {H : Hp} {h : Heap} {ea : Addr} {cls : Value} (z : ∃ oe vs, h.get? ea = some oe ∧ oe.cls = cls ∧ oe.data = .fields vs) : ObjOk P w H h ea (ExcO ea cls) := by
  refine ⟨z, ?_, fun h1 h2 ⟨o, vs, a, b, c⟩ k => ⟨o, vs, k o a, b, c⟩⟩
  obtain ⟨oe, _, a, _⟩ := z
  exact ⟨oe, a⟩
theorem ty_looks {M : Model} {h : Heap} {ea : Addr} {cls : Value} (z : ∃ oe vs, h.get? ea = some oe ∧ oe.cls = cls ∧ oe.data = .fields vs) : PySem.W.Looks M h (typeOf (.ref ea)) cls := by
  obtain ⟨oe, vs, a, b, _⟩ := z
  subst b
  exact (PySem.W.Looks.ld a).andThen .now
theorem ps_tryAs {x n : Str} {C : Addr} {i : Nat} {st b0 : Stmt} {suite : List Stmt} {np hpos pos : Pos} {tb : TSx} {ts : TS} (hst : X.stack = X.env :: X.outer) (hf : X.env.frame = some X.env.locals) (hex : X.ex = []) (hN : X.N.Nodup) (hi : X.N[i]? = some n) (hl : X.env.scope.names.lookup n = some .local)
    (hg : Gl X x) (hm : X.mg x = some (.ref C)) (hb : PSx X st tb) (hs : ∀ ea, PSs (X.inEx ea) (b0 :: suite) ts) (hdb : (x == ("__debug__" : Str)) = false := by decide) :
    PS X (.Try [st] [.ExceptHandler (some (.Name x np)) (some n) (b0 :: suite) hpos] [] [] pos) (tTryAs X.K C i tb ts) := by
  intro pins s σ H D I h
  refine wpAny_Try_except (wpAny_execs_cons (wpAny_mono (hb _ pins s σ H D _ I h (fun e s' hc => ?_)) (fun f s1 q => ?_) fun _ _ z => z))
  rotate_left
  · cases f with
    | next => exact wpAny_execs_nil (wpAny_execs_nil q)
    | ret v => exact q
    | brk => exact q
    | cont => exact q
  refine land1 hst hf I.ok.frames hc fun h5 hc5 => ?_
  obtain ⟨ea, cls, σ', H', rfl, I5, hn, ⟨hx, hR⟩, hob, h0, nL, nC, nP⟩ := hc5.see
  refine wpAny_handleBy_cons (codeAny_handlers_test (ld_glob (X := X.inEx ea) (I5.inEx ea) hg hm ((PySem.W.exm_one I5.kIn (ty_looks hob) hx).here ?_) hdb)) (by intro q; cases q)
  refine codeAny_handlers_suite_as (land2 hc5 fun h6 hc6 => ?_)
  obtain ⟨ea', cls', σ2, H2, e2, I6, hn6, ⟨hx6, hR6⟩, hob6, h06, nL6, nC6, nP6⟩ := hc6.see
  cases e2
  have I7 := (I6.adopt hn6 (h06 hex) nL6 nC6 nP6 (excO_ok (H := upd H2 ea (ExcO ea cls')) hob6)).inEx ea
  refine store_ok (X := X.inEx ea) (v := .ref ea) I7 hN hi (.inl hl) rfl (fun s8 I8 => ?_) (.inr hl)
  refine wpAny_mono (hs ea pins s8 _ _ (D.drop i) I8 (hR6 ea hn6)) (fun f s9 q => ?_) fun _ _ z => False.elim z
  cases f with
  | next =>
    obtain ⟨σ9, H9, I9, q9⟩ := q
    exact name_goes (I9.outEx I.ok) hN hi hl fun s10 I10 => ⟨_, _, I10, q9⟩
  | brk =>
    obtain ⟨σ9, H9, I9, q9⟩ := q
    exact name_goes (I9.outEx I.ok) hN hi hl fun s10 I10 => ⟨_, _, I10, q9⟩
  | cont =>
    obtain ⟨σ9, H9, I9, q9⟩ := q
    exact name_goes (I9.outEx I.ok) hN hi hl fun s10 I10 => ⟨_, _, I10, q9⟩
  | ret u =>
    obtain ⟨v, σ9, H9, I9, r9, q9⟩ := q
    exact name_goes (I9.outEx I.ok) hN hi hl fun s10 I10 => ⟨_, _, _, I10, r9, q9⟩
end
end L2
namespace L2
open PySem PySem.Spec PyProof.Rows
noncomputable def Def1 (P : Program) (w : World) (K : PySem.W.Frag) (mg : Str → Option Value) (base : Heap) (k : Nat) (x : Str) (ps : List Str) (sp : Sp) : Prop :=
  ∃ (f : Addr) (fd : FuncData), FnOk P w K mg base (CX1 P w) k f fd ps sp ∧ mg x = some (.ref f) ∧ PySem.W.keepIn K (.ref f) = true ∧ Binds K fd ps []
section
variable {X : Cx} {k k' : Nat} {x : Str} {ps : List Str} {sp : Sp} {e : Expr} {es : List Expr} {t : TA} {p pos : Pos}
theorem pe_def1 (D : Def1 X.prog X.w X.K X.mg X.base k x ps sp) (hr : Room k' X.A) (hk : k ≤ k') (hg : Gl X x) (ha : PA X (e :: es) t)
    (hdb : (x == ("__debug__" : Str)) = false := by decide) (he : starEach (e :: es) X.env = (false, eval e X.env) :: starEach es X.env := by rfl) (hpl : (backTo pos (starEach es X.env)).any (·.1) = false := by rfl) :
    PE X (.Call (.Name x p) (e :: es) [] pos) (tCall sp [] E0 t) := by
  obtain ⟨f, fd, F, m, kp, b⟩ := D
  exact pe_call F (hr.mono hk) hg m kp b .nil (fun _ _ _ _ _ _ _ h => by obtain ⟨_, _, _, _, _, _, _, _, _, z⟩ := h; exact False.elim z) ha hdb he hpl
theorem pex_def (D : Def1 X.prog X.w X.K X.mg X.base k x ps sp) (hr : Room k' X.A) (hk : k ≤ k') (hg : Gl X x) (ha : PA X.nox (e :: es) t)
    (hdb : (x == ("__debug__" : Str)) = false := by decide) (he : starEach (e :: es) X.env = (false, eval e X.env) :: starEach es X.env := by rfl) (hpl : (backTo pos (starEach es X.env)).any (·.1) = false := by rfl) :
    PEx X (.Call (.Name x p) (e :: es) [] pos) (tCallX sp t) := by
  obtain ⟨f, fd, F, m, kp, b⟩ := D
  exact pex_call F (hr.mono hk) hg m kp b ha hdb he hpl
end
section
variable {P : Program} {w : World} {K : PySem.W.Frag} {mg : Str → Option Value} {base : Heap}
theorem Fun.ok1 {x qual : Str} {st : Stmt} {f : Addr} {fd : FuncData} {N ps : List Str} {k : Nat} {sp : Sp} (F : Fun K x qual st f fd) (S : FnScope N ps (defScope st)) (len : ∀ vs H Q E, sp vs H Q E → vs.length = ps.length)
    (hbody : ∀ (cdv : Value) (A : Around) (outer : List Env) (s : Shared) (H : Hp) (vs : List V) (Q : VK) (E : XK), Room k (A.deeper (envOfC qual (defScope st) s.heap.objs.size f cdv)) → sp vs H Q E →
      ∃ t, PSs (cxOf (CX1 P w) P w K mg base N qual (defScope st) f cdv A outer s H E) (defBody st) t ∧ t { nx := fun _ H' => Q .non H', rt := Q } (start N vs) H) : FnOk P w K mg base (CX1 P w) (k + 1) f fd ps sp := by
  obtain ⟨oc, od, kV, doc, pm, an, cdv, ct, osl, rfl, lk, hcd⟩ := F.ex
  exact fn_of lk hcd S len fun A outer s H vs Q E hr hsp => hbody cdv A outer s H vs Q E hr hsp
end
end L2

set_option Elab.async false
set_option linter.all false
set_option maxRecDepth 100000
set_option maxHeartbeats 4000000
namespace L2
open PySem PySem.Spec PyProof.Rows
noncomputable def excLook (K : PySem.W.Frag) (C : Addr) : Bool :=
  PySem.W.findIn K (.ref C) "__getattribute__" == some (some (.builtin "BaseException.__getattribute__")) && PySem.W.findIn K (.ref C) "__getattr__" == some none && PySem.W.findIn K (.ref C) "__class__" == some (some (.builtin "object.__class__"))
    && PySem.W.specialIn K (.builtin "object.__class__") "__get__" == some (some (.builtin "getset_descriptor.__get__")) && PySem.W.takesIn K (.builtin "object.__class__") == some true && PySem.W.mroIn K C (.type "object") == some true
    && PySem.W.mroIn K C (.type "BaseException") == some true && (PySem.W.clsIn K C).isSome
noncomputable def ExcAt (e : Addr) (cls : Value) (h : Heap) : Prop := ∃ o vs, h.get? e = some o ∧ o.cls = cls ∧ o.data = .fields vs
section
variable {prog : Program} {w : World} {A : Around} {E : Value → Shared → Prop} {s : Shared} {K : PySem.W.Frag} {e C : Addr} {h : Heap}
theorem exc_find {M : Model} (X : K.In h) (l : excLook K C = true) : PySem.W.Looks M h (Builtin.ObjectAttr.find (.ref e) (.ref C) "__class__") (.bind (.builtin "getset_descriptor.__get__") (.builtin "object.__class__")) := by
  simp only [excLook, Bool.and_eq_true, beq_iff_eq] at l
  obtain ⟨⟨⟨⟨⟨⟨⟨_, _⟩, l3⟩, l4⟩, l5⟩, _⟩, _⟩, _⟩ := l
  refine (PySem.W.looks_findIn X l3).andThen ?_
  have g1 : PySem.W.Looks M h (Builtin.ObjectAttr.getOf (some (.builtin "object.__class__"))) (some (.builtin "getset_descriptor.__get__")) := PySem.W.looks_specialIn X l4
  refine g1.andThen ?_
  have g2 : PySem.W.Looks M h (Builtin.ObjectAttr.dataDescriptor? (some (.builtin "object.__class__")) (some (.builtin "getset_descriptor.__get__"))) (some (.builtin "getset_descriptor.__get__", .builtin "object.__class__")) := (PySem.W.looks_takesIn X l5).andThen .now
  exact g2.andThen (PySem.W.Looks.tag .now)
theorem exc_look {M : Model} (z : ExcAt e (.ref C) h) : PySem.W.Looks M h (typeOf (.ref e)) (.ref C) := ty_looks z
theorem exc_getset {R : Result → Shared → Prop} {tp : Value} (X : K.In s.heap) (l : excLook K C = true) (z : ExcAt e (.ref C) s.heap) (hq : R (.ok (.ret (.ref C))) s) :
    codeAny (model prog w) A (.call (.builtin "getset_descriptor.__get__") ⟨[.builtin "object.__class__", .ref e, tp], []⟩) R s := by
  simp only [excLook, Bool.and_eq_true, beq_iff_eq] at l
  obtain ⟨⟨⟨⟨⟨⟨⟨_, _⟩, _⟩, _⟩, _⟩, l6⟩, _⟩, _⟩ := l
  obtain ⟨hh, g, dr, t, os⟩ := s
  have T0 := exc_look (M := model prog w) z
  have T1 := PySem.W.looks_mroIn (M := model prog w) X l6
  refine codeAny_call_builtin PySem.W.KF.slot_gs.plain PySem.W.KF.entry_gs (PySem.W.KF.slot_gs.check _ _ _ _ _ _ _ _ PySem.W.KF.type_class (PySem.W.KF.args_gs _ _ _) ?_)
  unfold Builtin.«getset_descriptor.__get__» Builtin.Getset_descriptor.descrGet
  rw [PySem.W.dga_obj]
  refine wpAny_bind (wpAny_pure ?_); unfold Builtin.Getset_descriptor.descrGetter Builtin.Getset_descriptor.descrCheckInstance Builtin.Getset_descriptor.descrNameAndClass isInstance
  simp only [PySem.W.KF.owner_class]; repeat lk
  refine ⟨Code.quiet_builtin _ (by decide +kernel), codeAny_builtin PySem.W.KF.entry_class ?_⟩; unfold Builtin.«object.__class__» shownTypeOf
  repeat lk
  exact hq
theorem exc_ga {tk : Tok} {R : Result → Shared → Prop} (X : K.In s.heap) (l : excLook K C = true) (z : ExcAt e (.ref C) s.heap) (hq : R (.ok (.ret (.ref C))) s) :
    codeAny (model prog w) A (.call (.builtin "BaseException.__getattribute__") ⟨[.ref e, .str "__class__" tk], []⟩) R s := by
  have hk : builtinKind "BaseException.__getattribute__" = some .slot := by decide +kernel
  have hsp : splitId "BaseException.__getattribute__" = some ("BaseException", "__getattribute__") := by decide +kernel
  have l' := l
  simp only [excLook, Bool.and_eq_true, beq_iff_eq] at l'
  obtain ⟨⟨⟨⟨⟨⟨⟨_, _⟩, _⟩, _⟩, _⟩, _⟩, l7⟩, _⟩ := l'
  refine codeAny_call_builtin F.attr_ValueError.ga.plain F.entry_bexc_ga ?_
  obtain ⟨hh, g, dr, t, os⟩ := s
  have T0 := exc_look (M := model prog w) z
  have T1 := PySem.W.looks_mroIn (M := model prog w) X l7
  have T2 := exc_find (M := model prog w) (e := e) X l
  have ha := F.args_bexc_ga (.ref e) (.str "__class__" tk)
  simp only [checkBuiltinCall, hk, hsp]
  unfold isInstance
  refine wpAny_bind (wpAny_bind (T0.at (T1.at ?_)))
  simp only [Bool.not_true, Bool.false_eq_true, if_false]
  have hfin : wpAny (model prog w) A.in1 (Builtin.«object.__getattribute__» ⟨[.ref e, .str "__class__" tk], []⟩) (fun fin s' => match fin with | .done f => R (.ok f) s' | .again c' => c'.quiet = true ∧ codeAny (model prog w) A c' R s') (fun e s' => R (.error e) s') ⟨hh, g, dr, t, os⟩ := by
    unfold Builtin.«object.__getattribute__»
    refine wpAny_bind (wpAny_pure ?_)
    refine wpAny_bind (wpAny_pure (wpAny_bind (T0.at (wpAny_bind (T2.at ?_)))))
    show wpAny _ _ (holding [Value.builtin "object.__class__"] (call (.builtin "getset_descriptor.__get__") [.builtin "object.__class__", .ref e, .ref C]) >>= ret) _ _ _
    exact wpAny_bind (wpAny_holding (wpAny_call (exc_getset (s := ⟨hh, g, dr, t, os⟩) X l z (wpAny_pure hq))))
  cases hs : Manifest.signature? "BaseException.__getattribute__" with
  | none => exact wpAny_pure hfin
  | some sig =>
    simp only [argsOk, hs] at ha
    have h2 : Bind.checkArgs "BaseException.__getattribute__" sig ⟨[.ref e, .str "__class__" tk], []⟩ = pure () := ha
    show wpAny _ _ (Bind.checkArgs "BaseException.__getattribute__" sig _) _ _ _
    rw [h2]
    exact wpAny_pure hfin
theorem exc_class {Q : Option Value → Shared → Prop} (X : K.In s.heap) (l : excLook K C = true) (z : ExcAt e (.ref C) s.heap) (hq : Q (some (.ref C)) { s with toks := s.toks + 1 }) : wpAny (model prog w) A (getAttr? (.ref e) "__class__") Q E s := by
  have l' := l
  simp only [excLook, Bool.and_eq_true, beq_iff_eq] at l'
  obtain ⟨⟨⟨⟨⟨⟨⟨l1, l2⟩, _⟩, _⟩, _⟩, _⟩, _⟩, _⟩ := l'
  obtain ⟨hh, g, dr, t, os⟩ := s
  have T0 := exc_look (M := model prog w) z
  have T1 := PySem.W.looks_findIn (M := model prog w) X l1
  have T2 := PySem.W.looks_findIn (M := model prog w) X l2
  unfold getAttr? getAttrBy? getAttrBy
  refine wpAny_bind (wpAny_mkText (wpAny_bind (wpAny_attempt (wpAny_holding (wpAny_bind (T0.at (wpAny_bind (T1.at ?_))))))))
  show wpAny _ _ (getAttrByItsOwn _ _ _ _ _ _) _ _ _
  unfold getAttrByItsOwn
  have T3 : PySem.W.Looks (model prog w) hh (hookBefore (.ref C)) none := T2
  refine wpAny_bind (T3.at ?_)
  refine wpAny_bind (wpAny_attempt (wpAny_holding ?_))
  show wpAny _ _ (boundAndCalled (.builtin "BaseException.__getattribute__") (.ref e) _) _ _ _
  unfold boundAndCalled
  refine wpAny_bind (wpAny_of_eq (F.attr_ValueError.ga.bind (.ref e)) ?_)
  refine wpAny_call (exc_ga (s := ⟨hh, g, dr, t + 1, os⟩) X l z ?_)
  exact PySem.W.handed_on (v := .ref C) rfl (wpAny_pure hq)
theorem exc_kitx (l : excLook K C = true) : PySem.W.KitX K (.ref e) (.ref C) (ExcAt e (.ref C)) where
  ty := fun _ _ _ z => exc_look z
  it := fun _ _ X _ => by
    simp only [excLook, Bool.and_eq_true, beq_iff_eq] at l
    have lc := l.2
    unfold PySem.W.clsIn at lc
    split at lc
    · rename_i ho
      intro A' Q' E' s' k q
      unfold isType loadHead; exact wpAny_bind (wpAny_loadPart (k _ _ (X _ _ ho)) (wpAny_pure q))
    · cases lc
  ne := fun h tp dd its n sl X htp => by
    simp only [excLook, Bool.and_eq_true, beq_iff_eq] at l
    have lc := l.2
    refine Bool.eq_false_iff.mpr fun q => ?_
    have ec : C = tp := Value.ref.inj (beq_iff_eq.mp q)
    subst ec
    unfold PySem.W.clsIn at lc
    split at lc
    · rename_i ho
      have zz := (X _ _ ho).symm.trans htp
      cases zz
    · cases lc
  ca := fun X z k => exc_class X l z k
end
end L2
namespace L2
open PySem PySem.Spec PyProof.Rows
noncomputable def eqVs (xs ys : List V) : Bool := (xs.zip ys).all (fun p => eqV p.1 p.2) && xs.length == ys.length
noncomputable def rEqL (K : PySem.W.Frag) : R2 := fun x y H Q => ∃ p q xs ys, x = .ref p ∧ y = .ref q ∧ SqL K H p xs ∧ SqL K H q ys ∧ xs.all flatV = true ∧ ys.all flatV = true ∧ Q (.bl (eqVs xs ys)) H
theorem eqAt_get {A : Around} {s : Shared} {xs ys : List V} {us vs : List Value} (rx : Vals xs us) (ry : Vals ys vs) (fx : xs.all flatV = true) (fy : ys.all flatV = true) (j : Nat) (h1 : j < us.toArray.size) (h2 : j < vs.toArray.size) :
    SeqAt.EqAt A s us.toArray[j] vs.toArray[j] (eqV (xs.getD j .non) (ys.getD j .non)) := by
  have l1 := rx.length
  have l2 := ry.length
  have g1 : j < us.length := by simpa using h1
  have g2 : j < vs.length := by simpa using h2
  have k1 : xs[j]? = some (xs.getD j .non) := by simp [List.getD, show j < xs.length by walk_at "om"]
  have k2 : ys[j]? = some (ys.getD j .non) := by simp [List.getD, show j < ys.length by walk_at "om"]
  obtain ⟨u, e1, r1⟩ := rx.get k1
  obtain ⟨v, e2, r2⟩ := ry.get k2
  have f1 := List.all_eq_true.mp fx _ (List.mem_of_getElem? k1)
  have f2 := List.all_eq_true.mp fy _ (List.mem_of_getElem? k2)
  have w1 : us.toArray[j] = u := by
    rw [List.getElem?_eq_getElem g1] at e1
    simpa using Option.some.inj e1
  have w2 : vs.toArray[j] = v := by
    rw [List.getElem?_eq_getElem g2] at e2
    simpa using Option.some.inj e2
  rw [w1, w2]
  exact eqAt_V r1 r2 f1 f2
theorem range_all : ∀ (xs ys : List V), xs.length = ys.length → ((List.range xs.length).all fun j => eqV (xs.getD j .non) (ys.getD j .non)) = (xs.zip ys).all fun p => eqV p.1 p.2
  | [], [], _ => rfl
  | [], _ :: _, h => by cases h
  | _ :: _, [], h => by cases h
  | x :: xs, y :: ys, h => by
    have ih := range_all xs ys (by simpa using h)
    rw [List.length_cons, List.range_succ_eq_map, List.all_cons, List.all_map, List.zip_cons_cons, List.all_cons, ← ih]
    rfl
section
variable {X : Cx}
theorem op_eqL (K : PySem.W.Frag) {k : Nat} (hr : Room k X.A) (hK : X.K = K := by rfl) : OpR X (compareOp .Eq) (rEqL K) := by
  subst hK
  intro pins s σ H x y v u Q I rx ry h
  obtain ⟨p, q, xs, ys, rfl, rfl, h1, h2, f1, f2, hq⟩ := h
  cases rx
  cases ry
  obtain ⟨us, r1, pl1, _⟩ := I.list h1
  obtain ⟨vs, r2, pl2, _⟩ := I.list h2
  have hu : X.A.units < cLine := Nat.lt_of_succ_lt (hu_of hr)
  have l1 := r1.length
  have l2 := r2.length
  by_cases hz : xs.length = ys.length
  · have hz' : us.toArray.size = vs.toArray.size := by simp; walk_at "om"
    refine SeqAt.eq_listAt pl1.isList pl2.isList hz' hu (eqAt_get r1 r2 f1 f2) ⟨.bl _, H, I, rfl, ?_⟩
    have e : us.toArray.size = xs.length := by simp; walk_at "om"
    rw [e, range_all xs ys hz]
    unfold eqVs at hq
    rw [hz] at hq
    simpa using hq
  · have hz' : (us.toArray.size != vs.toArray.size) = true := by simp; walk_at "om"
    refine SeqAt.eq_list_lengthsAt pl1.isList pl2.isList hz' hu ⟨.bl _, H, I, rfl, ?_⟩
    have e : eqVs xs ys = false := by
      unfold eqVs
      simp [hz]
    rw [e] at hq
    exact hq
theorem bools_at {bs : List Bool} : ∀ {us : List Value}, Vals (bs.map V.bl) us → us = bs.map Value.bool := by
  induction bs with
  | nil => intro us r; rw [List.map_nil] at r; cases r; rfl
  | cons b bs ih =>
    intro us r
    rw [List.map_cons] at r
    cases r with
    | cons r1 r2 => rw [List.map_cons, ← ih r2]; cases r1; rfl
theorem range_bools : ∀ bs : List Bool, ((List.range bs.length).all fun i => bs.getD i true) = bs.all id
  | [] => rfl
  | b :: bs => by
    have ih := range_bools bs
    rw [List.length_cons, List.range_succ_eq_map, List.all_cons, List.all_map, List.all_cons, ← ih]
    rfl
theorem call_all (hc : X.calm = true) : CallR X (.builtin "all") (fun xs H Q => ∃ (p : Addr) (bs : List Bool), xs = [.ref p] ∧ SqL X.K H p (bs.map V.bl) ∧ Q (.bl (bs.all id)) H) := by
  intro pins s σ H xs us Q I r h
  obtain ⟨p, bs, rfl, hq, q⟩ := h
  obtain ⟨u, rfl, ru⟩ := vals1 r
  cases ru
  obtain ⟨its, rv, pl, _⟩ := I.list hq
  have hl : s.heap.IsList p its.toArray := pl.isList
  have hlt : p < s.heap.objs.size := by obtain ⟨_, e, _⟩ := hl; exact Heap.lt_size e
  refine call_all_walk (wpAny_pyIter_list hl ⟨_, _, _, _, _, _, fun i => bs.getD i true, rfl, Walks.list (A := X.A.in1) (I.ok.hd hc) _ p (Nat.ne_of_lt hlt) its.toArray, ⟨⟨_, Heap.get?_push_size _ rfl, rfl, rfl⟩, hl.push _⟩, fun i v s' Q' E' hv hQ => ?_, fun h' tk hk => ⟨.bl _, H, I.kept (old_kept hk), rfl, ?_⟩⟩)
  · have hv' : its[i]? = some v := by simpa using hv
    rw [bools_at rv, List.getElem?_map] at hv'
    obtain ⟨b, hb, rfl⟩ := Option.map_eq_some_iff.mp hv'
    have e : bs.getD i true = b := by simp [List.getD, hb]
    have z : Q' (bs.getD i true) s' := hQ
    rw [e] at z
    exact wpAny_truthy_bool z
  · have e1 : its.toArray.size = bs.length := by
      have := rv.length
      rw [List.length_map] at this
      simp; walk_at "om"
    rw [e1]
    have e2 := range_bools bs
    rw [e2]
    exact q
theorem exc_at {pins : List (Addr × Obj)} {σ : St} {H : Hp} {s : Shared} {e : Addr} {cls : Value} (I : Inv X pins σ H s) (h : H e = some (ExcO e cls)) : ExcAt e cls s.heap := (I.hok e _ h).1
theorem kcall_isiX (K : PySem.W.Frag) {C : Addr} (l : excLook K C = true) (hK : X.K = K := by rfl) : CallR X (.builtin "isinstance") (fun xs H Q => ∃ e D b, xs = [.ref e, .ref D] ∧ H e = some (ExcO e (.ref C)) ∧ PySem.W.kitOne K (.ref C) (.ref D) = some b ∧ Q (.bl b) H) := by
  subst hK
  intro pins s σ H xs us Q I r h
  obtain ⟨e, D, b, rfl, he, hb, q⟩ := h
  obtain ⟨u, w', rfl, r1, r2⟩ := vals2 r
  cases r1
  cases r2
  exact PySem.W.kia_one (exc_kitx l) I.kIn (exc_at I he) hb (fun z => nomatch z) fun tk => ⟨.bl b, H, I.tok tk, rfl, q⟩
theorem kcall_isiXT (K : PySem.W.Frag) {C : Addr} (l : excLook K C = true) (hK : X.K = K := by rfl) : CallR X (.builtin "isinstance") (fun xs H Q => ∃ e n b, xs = [.ref e, .ty n] ∧ H e = some (ExcO e (.ref C)) ∧ PySem.W.kitOne K (.ref C) (.type n) = some b ∧ Q (.bl b) H) := by
  subst hK
  intro pins s σ H xs us Q I r h
  obtain ⟨e, D, b, rfl, he, hb, q⟩ := h
  obtain ⟨u, w', rfl, r1, r2⟩ := vals2 r
  cases r1
  cases r2
  exact PySem.W.kia_one (exc_kitx l) I.kIn (exc_at I he) hb (fun z => nomatch z) fun tk => ⟨.bl b, H, I.tok tk, rfl, q⟩
theorem bt_ValueError : bootBuiltins "ValueError" = some (.type "ValueError") := by decide +kernel
theorem kcall_all (K : PySem.W.Frag) (hc : X.calm = true) (hK : X.K = K := by rfl) : CallR X (.builtin "all") (fun xs H Q => ∃ (p : Addr) (bs : List Bool), xs = [.ref p] ∧ SqL K H p (bs.map V.bl) ∧ Q (.bl (bs.all id)) H) := hK ▸ call_all hc
end
end L2

set_option Elab.async false
set_option linter.all false
set_option maxRecDepth 100000
set_option maxHeartbeats 4000000
namespace L2
open PySem PySem.Spec PyProof.Rows
section
variable {X : Cx} {tg : Expr}
end
end L2

set_option Elab.async false
set_option linter.all false
set_option maxRecDepth 100000
set_option maxHeartbeats 4000000
namespace L2
open PySem PySem.Spec PyProof.Rows
noncomputable def addK {α : Type} [DecidableEq α] (l : List α) (v : α) : List α := if v ∈ l then l else l ++ [v]
noncomputable def dedK {α : Type} [DecidableEq α] (vs : List α) : List α := vs.foldl addK []
theorem mem_addK {α : Type} [DecidableEq α] {l : List α} {v x : α} : x ∈ addK l v ↔ x ∈ l ∨ x = v := by
  unfold addK
  split
  · rename_i h
    constructor
    · exact .inl
    · rintro (z | rfl)
      · exact z
      · exact h
  · simp
theorem len_addK {α : Type} [DecidableEq α] {l : List α} {v : α} : (addK l v).length = if v ∈ l then l.length else l.length + 1 := by
  unfold addK
  split <;> simp
theorem dedK_snoc {α : Type} [DecidableEq α] (vs : List α) (v : α) : dedK (vs ++ [v]) = addK (dedK vs) v := by
  unfold dedK
  rw [List.foldl_append]
  rfl
theorem foldK_len {α : Type} [DecidableEq α] : ∀ (vs l : List α), (vs.foldl addK l).length ≤ l.length + vs.length
  | [], l => Nat.le_refl _
  | v :: vs, l => by
    have h := foldK_len vs (addK l v)
    rw [len_addK] at h
    rw [List.foldl_cons, List.length_cons]
    split at h <;> walk_at "om"
theorem dedK_len {α : Type} [DecidableEq α] (vs : List α) : (dedK vs).length ≤ vs.length := by
  have := foldK_len vs []
  simpa [dedK] using this
theorem foldK_nodup {α : Type} [DecidableEq α] : ∀ (vs l : List α), vs.Nodup → (∀ x ∈ vs, x ∉ l) → vs.foldl addK l = l ++ vs
  | [], l, _, _ => by simp
  | v :: vs, l, nd, hd => by
    obtain ⟨n1, n2⟩ := List.nodup_cons.mp nd
    have e : addK l v = l ++ [v] := by
      unfold addK
      rw [if_neg (hd v List.mem_cons_self)]
    rw [List.foldl_cons, e, foldK_nodup vs (l ++ [v]) n2 (fun x hx z => ?_), List.append_assoc]
    · rfl
    · rcases List.mem_append.mp z with z | z
      · exact hd x (List.mem_cons_of_mem _ hx) z
      · exact n1 (List.mem_singleton.mp z ▸ hx)
theorem dedK_nodup {α : Type} [DecidableEq α] {vs : List α} (nd : vs.Nodup) : dedK vs = vs := by
  have := foldK_nodup vs [] nd (fun _ _ z => by cases z)
  simpa [dedK] using this
section
variable {prog : Program} {w : World} {A : Around} {E : Value → Shared → Prop} {s : Shared}
noncomputable abbrev SetIs (prog : Program) (w : World) (h : Heap) (a : Addr) (l : List Str) : Prop := h.SetOf (PySem.strKind prog w) a (fun x => decide (x ∈ l)) l.length
theorem setIs_keep {h h' : Heap} {a : Addr} {l : List Str} (x : SetIs prog w h a l) (k : ∀ o, h.get? a = some o → h'.get? a = some o) : SetIs prog w h' a l := by
  obtain ⟨o, es, ep, t, ho, r⟩ := x
  exact ⟨o, es, ep, t, k o ho, r⟩
theorem set_loop {R : Result → Shared → Prop} {J l a : Addr} {items : Array Value} {ys : List Str} (hh : A.in1.handled = none) (hJ : l ≠ J) (aJ : a ≠ J) (al : a ≠ l) (hv : ∀ (i : Nat) (v : Value), items[i]? = some v → ∃ t, v = .str (ys.getD i "") t) (hn : items.size = ys.length) (hb : ys.length + 1 < scanBound) :
    ∀ (k i : Nat) (s : Shared), ys.length - i = k → i ≤ ys.length → s.heap.IsListIter J l i → s.heap.IsList l items → SetIs prog w s.heap a (dedK (ys.take i)) →
      (∀ h' tk, (∀ b o, b ≠ a → b ≠ J → s.heap.get? b = some o → h'.get? b = some o) → SetIs prog w h' a (dedK ys) → R (.ok (.ret .none)) { s with heap := h', toks := tk }) →
      codeAny (model prog w) A (.builtin "set.update.loop" ⟨[.ref a, .ref J], []⟩) R s := by
  intro k
  induction k with
  | zero =>
    intro i s hk hi h1 h2 h3 hR
    have e : i = ys.length := by walk_at "om"
    subst e
    refine codeAny_builtin PyProof.Rows.F.entry_set_update_loop ?_
    rw [Around.under_plainId PyProof.Rows.F.plain_set_update_loop _]
    show wpAny _ A.in1 (pyNext (.ref J) >>= _) _ _ s
    refine wpAny_bind (wpAny_pyNext_list_end hh h1 h2 (by first | walk_at "om" | (simp; walk_at "om")) fun h' eb => ?_)
    show wpAny _ A.in1 (ret Value.none) _ _ _
    rw [List.take_length] at h3
    exact wpAny_pure (hR h' s.toks (fun b o _ nb e => eb b o nb e) (setIs_keep h3 fun o e => eb a o aJ e))
  | succ k ih =>
    intro i s hk hi h1 h2 h3 hR
    have hlt : i < ys.length := by walk_at "om"
    refine codeAny_builtin PyProof.Rows.F.entry_set_update_loop ?_
    rw [Around.under_plainId PyProof.Rows.F.plain_set_update_loop _]
    show wpAny _ A.in1 (pyNext (.ref J) >>= _) _ _ s
    have hi2 : items[i]? = some (items[i]'(by walk_at "om")) := by simp [show i < items.size by walk_at "om"]
    refine wpAny_bind (wpAny_pyNext_list_item h1 h2 hi2 fun h' h1' sb => ?_)
    obtain ⟨t, et⟩ := hv i _ hi2
    rw [et]
    have h3' : SetIs prog w h' a (dedK (ys.take i)) := setIs_keep h3 fun o e => (sb.2 a aJ).trans e
    show wpAny _ A.in1 (holding [Value.str (ys.getD i "") t] (setAdd a (.str (ys.getD i "") t)) >>= _) _ _ _
    refine wpAny_bind (wpAny_holding ?_)
    unfold setAdd
    have is1 : (PySem.strKind prog w).is (ys.getD i "") (.str (ys.getD i "") t) = true := by
      simp [PySem.strKind, Value.isStrOf]
    refine wpAny_holding (wpAny_bind ((PySem.strKind prog w).pyHash (k := ys.getD i "") is1 ?_))
    have room : (dedK (ys.take i)).length + 1 < scanBound := by
      have := dedK_len (ys.take i)
      rw [List.length_take] at this
      walk_at "om"
    refine wpAny_setAddHashed_of (knd := PySem.strKind prog w) (s := { s with heap := h', toks := s.toks + 1 }) is1 rfl h3' room fun h'' sb2 h4 => ?_
    have ey : ys[i]? = some (ys.getD i "") := by simp [List.getD, hlt]
    have e1 : ys.take (i + 1) = ys.take i ++ [ys.getD i ""] := by rw [List.take_add_one, ey]; rfl
    have h5 : SetIs prog w h'' a (dedK (ys.take (i + 1))) := by
      refine SetOf_congr h4 (fun x => ?_) ?_
      · rw [e1, dedK_snoc]
        by_cases c1 : x ∈ dedK (ys.take i) <;> by_cases c2 : x = ys.getD i "" <;> simp [mem_addK, c1, c2]
      · rw [e1, dedK_snoc, len_addK]
        by_cases c1 : ys.getD i "" ∈ dedK (ys.take i) <;> simp [c1]
    refine wpAny_pure ⟨plainId_quiet PyProof.Rows.F.plain_set_update_loop _, ih (i + 1) { s with heap := h'', toks := s.toks + 1 } (by walk_at "om") hlt ?_ ?_ h5 fun h6 tk k6 s6 => hR h6 tk (fun b o na nJ e => k6 b o na nJ ((sb2.2 b na).trans ((sb.2 b nJ).trans e))) s6⟩
    · obtain ⟨o, q1, q2⟩ := h1'
      exact ⟨o, (sb2.2 J (Ne.symm aJ)).trans q1, q2⟩
    · obtain ⟨o, q1, q2⟩ := h2
      exact ⟨o, (sb2.2 l (Ne.symm al)).trans ((sb.2 l hJ).trans q1), q2⟩
theorem strs_at : ∀ {us : List Value} {ys : List Str}, StrsAre us ys → ∀ (i : Nat) (v : Value), us[i]? = some v → ∃ t, v = .str (ys.getD i "") t
  | _, _, .nil, i, v, h => by simp at h
  | _, _, .cons y t r, 0, v, h => ⟨t, (Option.some.inj h).symm⟩
  | _, _, .cons y t r, i + 1, v, h => by
    obtain ⟨t', e⟩ := strs_at r i v (by simpa using h)
    exact ⟨t', by rw [e]; rfl⟩
noncomputable def freshSet (b : Bool) : Obj := { cls := .type "set", dict := none, data := .set #[] 0 (.fresh 0 0 b) }
theorem set_made {l : Addr} {items : Array Value} {ys : List Str} {Q : Value → Shared → Prop} (hh : A.handled = none) (hl : s.heap.IsList l items) (hi : StrsAre items.toList ys) (hb : ys.length + 1 < scanBound)
    (h : ∀ h' tk, SetIs prog w h' s.heap.objs.size (dedK ys) → (∀ b o, b < s.heap.objs.size → s.heap.get? b = some o → h'.get? b = some o) → Q (.ref s.heap.objs.size) { s with heap := h', toks := tk }) :
    wpAny (model prog w) A (call (.type "set") [.ref l]) Q E s := by
  obtain ⟨c0, tl0, hmro⟩ := PySem.F.called_set.mro
  have made := PySem.F.called_set.made; have subs := PySem.F.called_set.sub
  have nt := PySem.F.called_set.notType; have cc := PySem.F.called_set.canCreate; have tcall := PySem.F.typeCall_set_1 (.ref l)
  refine wpAny_call (codeAny_of_tree ?_)
  show wpAny _ _ (callAny (.type "set") ⟨[.ref l], []⟩) _ _ _
  refine wpAny_pure ⟨Code.quiet_builtin _ (by decide +kernel), codeAny_builtin PySem.F.entry_type_call ?_⟩
  rw [Around.under_plain (weight_type_call_type "set" [.ref l] []) rfl]
  repeat (any_goals (first | assumption | wp_step))
  refine codeAny_mono (code_set_new_1 (.ref l) (E := E) (Q₁ := fun v s1 => ∃ b : Bool, v = .ref s.heap.objs.size ∧ s1 = { s with heap := s.heap.push (freshSet b) }) fun b => ⟨b, rfl, rfl⟩) fun r s1 hr => ?_
  match r, hr with
  | .error e, hr => exact hr
  | .ok (.ret v), hr =>
    obtain ⟨b, ev, es⟩ := hr
    subst ev es
    have at0 : (s.heap.push (freshSet b)).get? s.heap.objs.size = some (freshSet b) := Heap.get?_push_size _ rfl
    have ty0 : Shared.TypeIs { s with heap := s.heap.push (freshSet b) } (.ref s.heap.objs.size) "set" := ⟨_, at0, rfl⟩
    have il := PySem.F.called_set.init.lookup
    have ib := PySem.F.called_set.init.bind (.ref s.heap.objs.size)
    repeat (any_goals (first | assumption | wp_step))
    refine codeAny_mono (codeAny_call_builtin (R := wants (fun r s2 => r = .none ∧ ∃ h' tk, s2 = { s with heap := h', toks := tk } ∧ SetIs prog w h' s.heap.objs.size (dedK ys) ∧ ∀ b o, b < s.heap.objs.size → s.heap.get? b = some o → h'.get? b = some o) E) PySem.F.called_set.init.plain PySem.F.entry_set_init (check_set_init_1 ty0 ?_)) fun r2 s2 hr2 => ?_
    · obtain ⟨⟨oc, od, odt, osl⟩, hol, hcl, nl, hdl⟩ := id hl
      have hcl' : oc = _ := hcl; have hdl' : odt = _ := hdl
      subst hcl' hdl'
      have hol1 : (s.heap.push (freshSet b)).get? l = some { cls := .type "list", dict := od, data := .seq items nl, slots := osl } := Heap.get?_push_of_some _ hol
      have n1 := PySem.F.sub_list_set; have n2 := PySem.F.sub_list_frozenset
      have n3 : (Value.type "list" == Value.type "dict") = false := by decide
      have hl1 : (s.heap.push (freshSet b)).IsList l items := ⟨_, hol1, rfl, nl, rfl⟩
      have lS : l < s.heap.objs.size := Heap.lt_size hol
      have jS : (s.heap.push (freshSet b)).objs.size = s.heap.objs.size + 1 := Heap.size_push ..
      unfold Builtin.«set.__init__» noKeywords Builtin.Frozenset.updateFrom
      generalize ePI : pyIter = PI
      wp_walk
      subst ePI
      refine wpAny_pyIter_list hl1 (wpAny_bind (wpAny_runValue ?_))
      have hn : items.size = ys.length := by
        have := hi.length
        simpa using this
      refine set_loop (J := (s.heap.push (freshSet b)).objs.size) (l := l) (a := s.heap.objs.size) (items := items) (ys := ys) (by simp [hh]) (Nat.ne_of_lt (by rw [jS]; exact Nat.lt_succ_of_lt lS)) (Nat.ne_of_lt (by rw [jS]; exact Nat.lt_succ_self _)) (Nat.ne_of_gt lS) (fun i v hv => ?_) hn hb (ys.length - 0) 0 _ rfl (Nat.zero_le _) ⟨_, Heap.get?_push_size _ rfl, rfl, rfl⟩ (hl1.push _) ?_ fun h' tk hk hS => ?_
      · exact strs_at hi i v (by rw [Array.getElem?_toList]; exact hv)
      · exact SetOf_congr ((PyProof.Rows.setObjOf_fresh (knd := PySem.strKind prog w) b).setOf (Heap.get?_push_of_some _ at0) (by unfold scanBound; walk_at "om")) (fun x => by simp [dedK]) rfl
      · show wpAny _ _ _ _ _ _
        refine wpAny_pure ?_
        show wpAny _ _ (ret Value.none) _ _ _
        refine wpAny_pure ⟨rfl, h', tk, rfl, hS, fun c o hc e => hk c o (Nat.ne_of_lt hc) (Nat.ne_of_lt (by rw [jS]; exact Nat.lt_succ_of_lt hc)) (Heap.get?_push_of_some _ (Heap.get?_push_of_some _ e))⟩
    · match r2, hr2 with
      | .error e, hr2 => exact hr2
      | .ok (.ret v), hr2 =>
        obtain ⟨ev, h', tk, es, hS, hk⟩ := hr2
        subst ev es
        repeat (any_goals (first | assumption | wp_step))
        exact h _ _ hS hk
      | .ok .next, hr2 => exact hr2.elim
      | .ok .brk, hr2 => exact hr2.elim
      | .ok .cont, hr2 => exact hr2.elim
  | .ok .next, hr => exact hr.elim
  | .ok .brk, hr => exact hr.elim
  | .ok .cont, hr => exact hr.elim
end
noncomputable def StrSet (P : Program) (w : World) (a : Addr) (l : List Str) : HO := .ext fun h => SetIs P w h a l
section
variable {X : Cx}
theorem bt_set : bootBuiltins "set" = some (.type "set") := by decide +kernel
theorem kcall_setS (K : PySem.W.Frag) (hc : X.calm = true) (hK : X.K = K := by rfl) : CallR X (.type "set") (fun xs H Q => ∃ p ys, xs = [.ref p] ∧ SqL K H p (ys.map V.str) ∧ ys.length ≤ 1000 ∧ ∀ a, H a = none → Q (.ref a) (upd H a (StrSet X.prog X.w a (dedK ys)))) := by
  subst hK
  intro pins s σ H xs us Q I r h
  obtain ⟨p, ys, rfl, hq, hz, q⟩ := h
  obtain ⟨u, rfl, ru⟩ := vals1 r
  cases ru
  obtain ⟨its, rv, pl, _⟩ := I.list hq
  have hb : ys.length + 1 < scanBound := by unfold scanBound; walk_at "om"
  refine set_made (I.ok.hd hc) pl.isList (strsAre_of rv) hb fun h' tk hS hk => ?_
  have fr := I.hok.fresh (Nat.le_refl s.heap.objs.size)
  refine ⟨.ref s.heap.objs.size, _, I.laid (t' := tk) (o := StrSet X.prog X.w s.heap.objs.size (dedK ys)) (fun b o e => hk b o (Heap.lt_size e) e) (Nat.le_refl _) ⟨hS, ?_, fun h1 h2 z k => setIs_keep z k⟩, rfl, q _ fr⟩
  obtain ⟨o, _, _, _, ho, _⟩ := hS
  exact ⟨o, ho⟩
theorem call_lenS : CallR X (.builtin "len") (fun xs H Q => ∃ a l, xs = [.ref a] ∧ H a = some (StrSet X.prog X.w a l) ∧ Q (.int (l.length : Nat)) H) := by
  intro pins s σ H xs us Q I r h
  obtain ⟨a, l, rfl, ha, q⟩ := h
  obtain ⟨u, rfl, ru⟩ := vals1 r
  cases ru
  obtain ⟨o, es, ep, t, ho, hex, hd, _, _, hsz, hf, hn⟩ := (I.hok a _ ha).1
  have hb : (es.size : Int) < 2 ^ 63 := by
    unfold scanBound at hsz
    walk_at "om"
  refine call_len_set ho hex hd hf hb ⟨.int _, H, I.tok _, ⟨_, rfl⟩, ?_⟩
  rw [hn]
  exact q
end
end L2

set_option Elab.async false
set_option linter.all false
set_option maxRecDepth 100000
set_option maxHeartbeats 4000000
namespace L2
open PySem PySem.Spec PyProof.Rows
section
variable {prog : Program} {w : World} {A : Around} {E : Value → Shared → Prop} {s : Shared}
theorem nextOf_tupI {it t : Addr} {k : Nat} {items : Array Value} {x : Value} {Q : Value → Shared → Prop} (hi : s.heap.IsTupleIter it t k) (ht : s.heap.IsTuple t items) (hx : items[k]? = some x)
    (q : ∀ h', h'.IsTupleIter it t (k + 1) → Heap.SameBut it s.heap h' → Q x { s with heap := h' }) : wpAny (model prog w) A (Builtin.SmallTypes.nextOf (.ref it)) Q E s := by
  obtain ⟨oi, a1, a2, a3⟩ := id hi
  obtain ⟨ot, b1, _, nt, b3⟩ := ht
  unfold Builtin.SmallTypes.nextOf
  refine wpAny_bind (wpAny_callSpecial?_slot (name := Str.ofString "__next__") hi.typeIs PySem.F.slot_tuple_iterator_next (wpAny_call_entry PySem.F.slot_tuple_iterator_next hi.typeIs PySem.F.entry_tuple_iterator_next ?_ (PySem.F.args_tuple_iterator_next_1 _)))
  refine wpAny_bind (m := field (.ref it) 0) (wpAny_field a1 a3 (x := .ref t) rfl ?_)
  show wpAny _ _ (if (Value.ref t == Value.none) = true then _ else field (.ref it) 1 >>= _) _ _ s
  rw [if_neg (show ¬ ((Value.ref t == Value.none) = true) from Bool.false_ne_true)]
  refine wpAny_bind (wpAny_field a1 a3 (x := .int k 0) rfl (wpAny_bind (m := seqItems? (.ref t)) (wpAny_seqItems b1 b3 ?_)))
  simp only [Int.toNat_natCast, hx]
  refine wpAny_bind (wpAny_setField a1 a3 (by simp) (wpAny_pure ⟨x, rfl, wpAny_pure (q _ ⟨_, Heap.get?_update_self _ a1 (Obj.isFreed_of_fields (Obj.data_mapFields a3 _)), (Obj.cls_mapFields ..).trans a2, ?_⟩ (Heap.SameBut.update ..))⟩))
  rw [Obj.data_mapFields a3]; simp [rawInt]
theorem nextOf_tupE {it t : Addr} {k : Nat} {items : Array Value} {Q : Value → Shared → Prop} (hh : A.handled = none) (hi : s.heap.IsTupleIter it t k) (ht : s.heap.IsTuple t items) (hx : items[k]? = none)
    (q : ∀ h' e, Heap.ExtBut it s.heap h' → (∃ o, h'.get? e = some o ∧ o.cls = .type "StopIteration") → E (.ref e) { s with heap := h' }) : wpAny (model prog w) A (Builtin.SmallTypes.nextOf (.ref it)) Q E s := by
  obtain ⟨oi, a1, a2, a3⟩ := id hi
  obtain ⟨ot, b1, _, nt, b3⟩ := ht
  unfold Builtin.SmallTypes.nextOf
  refine wpAny_bind (wpAny_callSpecial?_slot (name := Str.ofString "__next__") hi.typeIs PySem.F.slot_tuple_iterator_next (wpAny_call_entry PySem.F.slot_tuple_iterator_next hi.typeIs PySem.F.entry_tuple_iterator_next ?_ (PySem.F.args_tuple_iterator_next_1 _)))
  refine wpAny_bind (m := field (.ref it) 0) (wpAny_field a1 a3 (x := .ref t) rfl ?_)
  show wpAny _ _ (if (Value.ref t == Value.none) = true then _ else field (.ref it) 1 >>= _) _ _ s
  rw [if_neg (show ¬ ((Value.ref t == Value.none) = true) from Bool.false_ne_true)]
  refine wpAny_bind (wpAny_field a1 a3 (x := .int k 0) rfl (wpAny_bind (m := seqItems? (.ref t)) (wpAny_seqItems b1 b3 ?_)))
  simp only [Int.toNat_natCast, hx]
  refine wpAny_bind (wpAny_rule (wpAny_bind (wpAny_setField a1 a3 (by simp) (wpAny_bind (m := newExc (.type "StopIteration") []) ?_))))
  simp only [newExc, newTuple]; refine wpAny_bind (wpAny_newObj_type (wpAny_bind (m := firstArgMember _ _) (wpAny_of_eq (a := Value.none) (by first | rfl | (simp only [firstArgMember]; rfl)) (wpAny_newObj_type ?_ (by size_fits)))) (by size_fits))
  simp only [raiseNew]; refine wpAny_bind (wpAny_handled ?_)
  first | rw [show A.in1.handled = none from hh] | rw [hh]
  exact wpAny_bind (wpAny_pure (wpAny_throw (q _ _ (((Heap.SameBut.update ..).extBut.push _).push _) ⟨_, Heap.get?_push_size _ rfl, rfl⟩)))
structure ZipAt (z TI TO i1 i2 t1 t2 : Addr) (xs ys : Array Value) (f0 : Value) (k1 k2 : Nat) (h : Heap) : Prop where
  zi : IsZip h z TI TO f0
  ti : IsPair h TI (.ref i1) (.ref i2)
  to : ∃ a b, IsPair h TO a b
  a1 : h.IsTupleIter i1 t1 k1
  a2 : h.IsTupleIter i2 t2 k2
  b1 : h.IsTuple t1 xs
  b2 : h.IsTuple t2 ys
structure Far (z TI TO i1 i2 t1 t2 : Addr) : Prop where
  nd : [z, TI, TO, i1, i2].Nodup
  f1 : t1 ∉ [z, TO, i1, i2]
  f2 : t2 ∉ [z, TO, i1, i2]
noncomputable def Kept4 (z TO i1 i2 : Addr) (h h' : Heap) : Prop := ∀ c o, c ∉ [z, TO, i1, i2] → h.get? c = some o → h'.get? c = some o
variable {z TI TO i1 i2 t1 t2 : Addr} {xs ys : Array Value} {k1 k2 : Nat}
theorem zip_item {x y : Value} {Q : Value → Shared → Prop} (D : Far z TI TO i1 i2 t1 t2) (Z : ZipAt z TI TO i1 i2 t1 t2 xs ys .none k1 k2 s.heap) (hx : xs[k1]? = some x) (hy : ys[k2]? = some y)
    (q : ∀ h', ZipAt z TI TO i1 i2 t1 t2 xs ys (rawInt s.heap.objs.size) (k1 + 1) (k2 + 1) h' → IsPair h' s.heap.objs.size x y → Kept4 z TO i1 i2 s.heap h' → Q (.ref s.heap.objs.size) { s with heap := h' }) :
    wpAny (model prog w) A (Builtin.«zip.__next__» ⟨[.ref z], []⟩) (fun fin s' => ∃ v, fin = .done (.ret v) ∧ Q v s') E s := by
  obtain ⟨nd, f1, f2⟩ := D
  simp only [List.nodup_cons, List.mem_cons, List.not_mem_nil, or_false, not_or, List.nodup_nil, and_true, not_false_eq_true] at nd f1 f2
  obtain ⟨⟨nzI, nzO, nz1, nz2⟩, ⟨nIO, nI1, nI2⟩, ⟨nO1, nO2⟩, n12⟩ := nd
  obtain ⟨p1z, p1O, p11, p12⟩ := f1
  obtain ⟨p2z, p2O, p21, p22⟩ := f2
  obtain ⟨zi, ti, ⟨a, b, to⟩, a1, a2, b1, b2⟩ := Z
  refine wpAny_bind (m := field (.ref z) 2) (wpAny_field zi rfl (x := .bool false) rfl ?_)
  refine wpAny_bind (m := field (.ref z) 3) (wpAny_field zi rfl (x := .ref TI) rfl (wpAny_bind (wpAny_seqItems ti rfl ?_)))
  refine wpAny_bind (m := Builtin.SmallTypes.ownedTupleIsFree (.ref z)) ?_
  unfold Builtin.SmallTypes.ownedTupleIsFree; refine wpAny_bind (wpAny_field zi rfl (x := .none) rfl (wpAny_pure ?_))
  simp only [if_true]; refine wpAny_bind (wpAny_rule (wpAny_bind (wpAny_field zi rfl (x := .ref TO) rfl (wpAny_bind (wpAny_setField_rec zi (by simp) fun g1 zi1' s1 => ?_)))))
  have zi1 : IsZip g1 z TI TO .ellipsis := zi1'
  refine wpAny_bind ?_
  simp only [List.zipIdx_cons, List.zipIdx_nil, List.forIn_cons, List.forIn_nil]
  refine wpAny_bind (wpAny_bind (wpAny_onRaise (wpAny_bind (m := Builtin.SmallTypes.nextOf (.ref i1)) ?_)))
  refine nextOf_tupI (a1.extBut s1.extBut (Ne.symm nz1)) (b1.extBut s1.extBut p1z) hx fun g2 a1' s2 => wpAny_pure ?_
  have to2 : IsPair g2 TO a b := s2.extBut _ _ nO1 (s1.extBut _ _ (Ne.symm nzO) to)
  refine wpAny_bind (wpAny_seqItems to2 rfl (wpAny_bind (wpAny_updateSeq_pair to2 fun g3 to3' s3 => wpAny_bind (wpAny_letGo (wpAny_pure ?_)))))
  have to3 : IsPair g3 TO x b := to3'
  refine wpAny_bind (wpAny_bind (wpAny_onRaise (wpAny_bind (m := Builtin.SmallTypes.nextOf (.ref i2)) ?_)))
  refine nextOf_tupI (((a2.extBut s1.extBut (Ne.symm nz2)).extBut s2.extBut (Ne.symm n12)).extBut s3.extBut (Ne.symm nO2)) (((b2.extBut s1.extBut p2z).extBut s2.extBut p21).extBut s3.extBut p2O) hy fun g4 a2' s4 => wpAny_pure ?_
  have to4 : IsPair g4 TO x b := s4.extBut _ _ nO2 to3
  refine wpAny_bind (wpAny_seqItems to4 rfl (wpAny_bind (wpAny_updateSeq_pair to4 fun g5 to5' s5 => wpAny_bind (wpAny_letGo (wpAny_pure (wpAny_pure ?_))))))
  have to5 : IsPair g5 TO x y := to5'
  refine wpAny_bind (wpAny_seqItems to5 rfl (wpAny_bind (wpAny_newTuple ?_)))
  have sz : g5.objs.size = s.heap.objs.size := by rw [s5.1, s4.1, s3.1, s2.1, s1.1]
  have zi5 : IsZip g5 z TI TO .ellipsis := s5.extBut _ _ nzO (s4.extBut _ _ nz2 (s3.extBut _ _ nzO (s2.extBut _ _ nz1 zi1)))
  have k5 : ∀ c o, c ≠ z → c ≠ TO → c ≠ i1 → c ≠ i2 → s.heap.get? c = some o → g5.get? c = some o := fun c o c1 c2 c3 c4 e => s5.extBut _ _ c2 (s4.extBut _ _ c4 (s3.extBut _ _ c2 (s2.extBut _ _ c3 (s1.extBut _ _ c1 e))))
  have a15 : g5.IsTupleIter i1 t1 (k1 + 1) := ((a1'.extBut s3.extBut (Ne.symm nO1)).extBut s4.extBut n12).extBut s5.extBut (Ne.symm nO1)
  have a25 : g5.IsTupleIter i2 t2 (k2 + 1) := a2'.extBut s5.extBut (Ne.symm nO2)
  refine wpAny_bind (m := Builtin.SmallTypes.ownedTupleHandOut (.ref z) (.ref g5.objs.size)) ?_
  unfold Builtin.SmallTypes.ownedTupleHandOut
  have zi6 : IsZip (g5.push { cls := .type "tuple", data := .seq #[x, y] }) z TI TO .ellipsis := Heap.get?_push_of_some _ zi5
  refine wpAny_bind (wpAny_setField_rec zi6 (by simp) fun g7 zi7' s7 => ?_)
  have zi7 : IsZip g7 z TI TO (rawInt g5.objs.size) := zi7'
  refine wpAny_setField_rec zi7 (by simp) fun g8 zi8' s8 => ?_
  have zi8 : IsZip g8 z TI TO (rawInt g5.objs.size) := zi8'
  have up : ∀ c o, c ≠ z → g5.get? c = some o → g8.get? c = some o := fun c o c1 e => s8.extBut _ _ c1 (s7.extBut _ _ c1 (Heap.get?_push_of_some _ e))
  have new : IsPair g8 g5.objs.size x y := s8.extBut _ _ (Nat.ne_of_gt (Heap.lt_size zi5)) (s7.extBut _ _ (Nat.ne_of_gt (Heap.lt_size zi5)) (Heap.get?_push_size _ rfl))
  have tp : ∀ {c : Addr} {us : Array Value}, c ≠ z → c ≠ TO → c ≠ i1 → c ≠ i2 → s.heap.IsTuple c us → g8.IsTuple c us := fun {c us} c1 c2 c3 c4 ⟨o, e, r⟩ => ⟨o, up c o c1 (k5 c o c1 c2 c3 c4 e), r⟩
  have il : ∀ {c u : Addr} {n : Nat}, c ≠ z → g5.IsTupleIter c u n → g8.IsTupleIter c u n := fun {c u n} c1 ⟨o, e, r⟩ => ⟨o, up c o c1 e, r⟩
  refine wpAny_pure ⟨_, rfl, ?_⟩
  have fin := q g8 ⟨by rw [← sz]; exact zi8, up _ _ (Ne.symm nzI) (k5 _ _ (Ne.symm nzI) nIO nI1 nI2 ti), ⟨x, y, up _ _ (Ne.symm nzO) to5⟩, il (Ne.symm nz1) a15, il (Ne.symm nz2) a25, tp p1z p1O p11 p12 b1, tp p2z p2O p21 p22 b2⟩ (by rw [← sz]; exact new) fun c o hc e => by
    simp only [List.mem_cons, List.not_mem_nil, or_false, not_or] at hc
    obtain ⟨c1, c2, c3, c4⟩ := hc
    exact up c o c1 (k5 c o c1 c2 c3 c4 e)
  rw [← sz] at fin
  exact fin
theorem zip_end {Q : Fin → Shared → Prop} (hh : A.handled = none) (D : Far z TI TO i1 i2 t1 t2) (Z : ZipAt z TI TO i1 i2 t1 t2 xs ys .none k1 k2 s.heap) (hend : xs[k1]? = none ∨ ys[k2]? = none)
    (q : ∀ h' e, Kept4 z TO i1 i2 s.heap h' → (∃ o, h'.get? e = some o ∧ o.cls = .type "StopIteration") → E (.ref e) { s with heap := h' }) : wpAny (model prog w) A (Builtin.«zip.__next__» ⟨[.ref z], []⟩) Q E s := by
  obtain ⟨nd, f1, f2⟩ := D
  simp only [List.nodup_cons, List.mem_cons, List.not_mem_nil, or_false, not_or, List.nodup_nil, and_true, not_false_eq_true] at nd f1 f2
  obtain ⟨⟨nzI, nzO, nz1, nz2⟩, ⟨nIO, nI1, nI2⟩, ⟨nO1, nO2⟩, n12⟩ := nd
  obtain ⟨p1z, p1O, p11, p12⟩ := f1
  obtain ⟨p2z, p2O, p21, p22⟩ := f2
  obtain ⟨zi, ti, ⟨a, b, to⟩, a1, a2, b1, b2⟩ := Z
  refine wpAny_bind (m := field (.ref z) 2) (wpAny_field zi rfl (x := .bool false) rfl ?_)
  refine wpAny_bind (m := field (.ref z) 3) (wpAny_field zi rfl (x := .ref TI) rfl (wpAny_bind (wpAny_seqItems ti rfl ?_)))
  refine wpAny_bind (m := Builtin.SmallTypes.ownedTupleIsFree (.ref z)) ?_
  unfold Builtin.SmallTypes.ownedTupleIsFree; refine wpAny_bind (wpAny_field zi rfl (x := .none) rfl (wpAny_pure ?_))
  simp only [if_true]; refine wpAny_bind (wpAny_rule (wpAny_bind (wpAny_field zi rfl (x := .ref TO) rfl (wpAny_bind (wpAny_setField_rec zi (by simp) fun g1 zi1' s1 => ?_)))))
  have zi1 : IsZip g1 z TI TO .ellipsis := zi1'
  refine wpAny_bind ?_
  simp only [List.zipIdx_cons, List.zipIdx_nil, List.forIn_cons, List.forIn_nil]
  refine wpAny_bind (wpAny_bind (wpAny_onRaise (wpAny_bind (m := Builtin.SmallTypes.nextOf (.ref i1)) ?_)))
  cases hx : xs[k1]? with
  | none =>
    refine nextOf_tupE hh (a1.extBut s1.extBut (Ne.symm nz1)) (b1.extBut s1.extBut p1z) hx fun g2 e s2 ⟨oe, oe1, oe2⟩ => ?_
    have zi2 : IsZip g2 z TI TO .ellipsis := s2 _ _ nz1 zi1
    have ez : e ≠ z := fun c => by rw [c, zi2] at oe1; cases oe1; simp at oe2
    refine wpAny_setField_rec zi2 (by simp) fun g3 _ s3 => q g3 e (fun c o hc e' => ?_) ⟨oe, s3.extBut _ _ ez oe1, oe2⟩
    simp only [List.mem_cons, List.not_mem_nil, or_false, not_or] at hc
    exact s3.extBut _ _ hc.1 (s2 _ _ hc.2.2.1 (s1.extBut _ _ hc.1 e'))
  | some x =>
    have hy : ys[k2]? = none := hend.elim (fun c => by rw [hx] at c; cases c) id
    refine nextOf_tupI (a1.extBut s1.extBut (Ne.symm nz1)) (b1.extBut s1.extBut p1z) hx fun g2 a1' s2 => wpAny_pure ?_
    have to2 : IsPair g2 TO a b := s2.extBut _ _ nO1 (s1.extBut _ _ (Ne.symm nzO) to)
    refine wpAny_bind (wpAny_seqItems to2 rfl (wpAny_bind (wpAny_updateSeq_pair to2 fun g3 to3' s3 => wpAny_bind (wpAny_letGo (wpAny_pure ?_)))))
    refine wpAny_bind (wpAny_bind (wpAny_onRaise (wpAny_bind (m := Builtin.SmallTypes.nextOf (.ref i2)) ?_)))
    refine nextOf_tupE hh (((a2.extBut s1.extBut (Ne.symm nz2)).extBut s2.extBut (Ne.symm n12)).extBut s3.extBut (Ne.symm nO2)) (((b2.extBut s1.extBut p2z).extBut s2.extBut p21).extBut s3.extBut p2O) hy fun g4 e s4 ⟨oe, oe1, oe2⟩ => ?_
    have zi4 : IsZip g4 z TI TO .ellipsis := s4 _ _ nz2 (s3.extBut _ _ nzO (s2.extBut _ _ nz1 zi1))
    have ez : e ≠ z := fun c => by rw [c, zi4] at oe1; cases oe1; simp at oe2
    refine wpAny_setField_rec zi4 (by simp) fun g5 _ s5 => q g5 e (fun c o hc e' => ?_) ⟨oe, s5.extBut _ _ ez oe1, oe2⟩
    simp only [List.mem_cons, List.not_mem_nil, or_false, not_or] at hc
    exact s5.extBut _ _ hc.1 (s4 _ _ hc.2.2.2 (s3.extBut _ _ hc.2.1 (s2.extBut _ _ hc.2.2.1 (s1.extBut _ _ hc.1 e'))))
theorem pyNext_zipI {x y : Value} {Q : Option Value → Shared → Prop} (D : Far z TI TO i1 i2 t1 t2) (Z : ZipAt z TI TO i1 i2 t1 t2 xs ys .none k1 k2 s.heap) (hx : xs[k1]? = some x) (hy : ys[k2]? = some y)
    (q : ∀ h', ZipAt z TI TO i1 i2 t1 t2 xs ys (rawInt s.heap.objs.size) (k1 + 1) (k2 + 1) h' → IsPair h' s.heap.objs.size x y → Kept4 z TO i1 i2 s.heap h' → Q (some (.ref s.heap.objs.size)) { s with heap := h' }) : wpAny (model prog w) A (pyNext (.ref z)) Q E s := by
  have ty : s.TypeIs (.ref z) "zip" := ⟨_, Z.zi, rfl⟩
  unfold pyNext
  exact wpAny_bind (wpAny_attempt (wpAny_callSpecial?_slot (name := Str.ofString "__next__") ty PySem.F.slot_zip_next (wpAny_call_entry PySem.F.slot_zip_next ty PySem.F.entry_zip_next (zip_item D Z hx hy fun h' u1 u2 u3 => wpAny_pure (q h' u1 u2 u3)) (PySem.F.args_zip_next_1 _))))
theorem pyNext_zipE {Q : Option Value → Shared → Prop} (hh : A.handled = none) (D : Far z TI TO i1 i2 t1 t2) (Z : ZipAt z TI TO i1 i2 t1 t2 xs ys .none k1 k2 s.heap) (hend : xs[k1]? = none ∨ ys[k2]? = none)
    (q : ∀ h', Kept4 z TO i1 i2 s.heap h' → Q none { s with heap := h' }) : wpAny (model prog w) A (pyNext (.ref z)) Q E s := by
  have ty : s.TypeIs (.ref z) "zip" := ⟨_, Z.zi, rfl⟩
  unfold pyNext
  refine wpAny_bind (wpAny_attempt (wpAny_callSpecial?_slot (name := Str.ofString "__next__") ty PySem.F.slot_zip_next (wpAny_call_entry PySem.F.slot_zip_next ty PySem.F.entry_zip_next (zip_end hh D Z hend fun h' e hk ⟨o, o1, o2⟩ => ?_) (PySem.F.args_zip_next_1 _))))
  exact wpAny_bind (wpAny_isInstance (T := "StopIteration") (b := true) ⟨o, o1, o2⟩ isSubtype_stop (wpAny_pure (q h' hk)))
noncomputable def zp1 (h : Heap) (t1 : Addr) : Heap := h.push { cls := .type "tuple_iterator", data := .fields #[.ref t1, .int 0 0] }
noncomputable def zp2 (h : Heap) (t1 t2 : Addr) : Heap := (zp1 h t1).push { cls := .type "tuple_iterator", data := .fields #[.ref t2, .int 0 0] }
noncomputable def zp3 (h : Heap) (t1 t2 : Addr) : Heap := (zp2 h t1 t2).push { cls := .type "tuple", data := .seq #[.ref h.objs.size, .ref (zp1 h t1).objs.size] }
noncomputable def zp4 (h : Heap) (t1 t2 : Addr) : Heap := (zp3 h t1 t2).push { cls := .type "tuple", data := .seq #[.none, .none] }
noncomputable def zp5 (h : Heap) (t1 t2 : Addr) : Heap := (zp4 h t1 t2).push { cls := .type "zip", data := .fields #[.none, .bool false, .bool false, .ref (zp2 h t1 t2).objs.size, .ref (zp3 h t1 t2).objs.size] }
theorem zip_new (t1 t2 : Addr) (xs ys : Array Value) : Meets (Builtin.«zip.__new__» ⟨[.type "zip", .ref t1, .ref t2], []⟩) (fun _ R s => s.heap.IsTuple t1 xs ∧ s.heap.IsTuple t2 ys ∧ R (.ok (.ret (.ref (zp4 s.heap t1 t2).objs.size))) { s with heap := zp5 s.heap t1 t2 }) :=
  .of_wp fun prog w A R s h => by
    obtain ⟨hp, g, d, tk, os⟩ := s
    obtain ⟨u1, u2, h⟩ := h
    have subz := PySem.sub_zip
    have T1 : Heap.IsTuple (Shared.heap ⟨hp, g, d, tk, os⟩) t1 xs := u1
    have T2 : Heap.IsTuple (Shared.heap ⟨hp.push { cls := .type "tuple_iterator", data := .fields #[.ref t1, .int 0 0] }, g, d, tk, os⟩) t2 ys := Heap.IsTuple.push u2 _
    wp_walk using wpAny_pyIter_tuple T1, wpAny_pyIter_tuple T2
    exact ⟨_, rfl, h⟩
theorem call_zipT {Q : Value → Shared → Prop} (h1 : s.heap.IsTuple t1 xs) (h2 : s.heap.IsTuple t2 ys)
    (q : ∀ h' z TI TO i1 i2, Far z TI TO i1 i2 t1 t2 → ZipAt z TI TO i1 i2 t1 t2 xs ys .none 0 0 h' → (∀ b ∈ [z, TI, TO, i1, i2], s.heap.objs.size ≤ b) → (∀ c o, s.heap.get? c = some o → h'.get? c = some o) → Q (.ref z) { s with heap := h' }) :
    wpAny (model prog w) A (call (.type "zip") [.ref t1, .ref t2]) Q E s := by
  refine callType_new PySem.F.called_zip (by decide) (PySem.F.typeCall_zip_2 _ _) (PySem.F.newCall_zip_2 _ _) (fun obj => PySem.F.args_object_init_3 obj _ _) PySem.F.entry_zip_new (zip_new t1 t2 xs ys) ⟨h1, h2, ?_⟩
  have l1 : t1 < s.heap.objs.size := by obtain ⟨_, e, _⟩ := h1; exact Heap.lt_size e
  have l2 : t2 < s.heap.objs.size := by obtain ⟨_, e, _⟩ := h2; exact Heap.lt_size e
  have z1 : (zp1 s.heap t1).objs.size = s.heap.objs.size + 1 := Heap.size_push ..
  have z2 : (zp2 s.heap t1 t2).objs.size = s.heap.objs.size + 2 := by unfold zp2; rw [Heap.size_push, z1]
  have z3 : (zp3 s.heap t1 t2).objs.size = s.heap.objs.size + 3 := by unfold zp3; rw [Heap.size_push, z2]
  have z4 : (zp4 s.heap t1 t2).objs.size = s.heap.objs.size + 4 := by unfold zp4; rw [Heap.size_push, z3]
  have kp : ∀ c o, s.heap.get? c = some o → (zp5 s.heap t1 t2).get? c = some o := fun c o e => Heap.get?_push_of_some _ (Heap.get?_push_of_some _ (Heap.get?_push_of_some _ (Heap.get?_push_of_some _ (Heap.get?_push_of_some _ e))))
  have g5 : (zp5 s.heap t1 t2).get? (zp4 s.heap t1 t2).objs.size = some _ := Heap.get?_push_size _ rfl
  have g4 : (zp5 s.heap t1 t2).get? (zp3 s.heap t1 t2).objs.size = some _ := Heap.get?_push_of_some _ (Heap.get?_push_size _ rfl)
  have g3 : (zp5 s.heap t1 t2).get? (zp2 s.heap t1 t2).objs.size = some _ := Heap.get?_push_of_some _ (Heap.get?_push_of_some _ (Heap.get?_push_size _ rfl))
  have g2 : (zp5 s.heap t1 t2).get? (zp1 s.heap t1).objs.size = some _ := Heap.get?_push_of_some _ (Heap.get?_push_of_some _ (Heap.get?_push_of_some _ (Heap.get?_push_size _ rfl)))
  have g1 : (zp5 s.heap t1 t2).get? s.heap.objs.size = some _ := Heap.get?_push_of_some _ (Heap.get?_push_of_some _ (Heap.get?_push_of_some _ (Heap.get?_push_of_some _ (Heap.get?_push_size _ rfl))))
  refine ⟨⟨_, g5, rfl⟩, q _ _ (zp2 s.heap t1 t2).objs.size (zp3 s.heap t1 t2).objs.size s.heap.objs.size (zp1 s.heap t1).objs.size ⟨?_, ?_, ?_⟩ ⟨g5, g3, ⟨_, _, g4⟩, ⟨_, g1, rfl, rfl⟩, ⟨_, g2, rfl, rfl⟩, ?_, ?_⟩ ?_ kp⟩
  · rw [z1, z2, z3, z4]
    generalize s.heap.objs.size = n
    simp
  · rw [z1, z3, z4]
    generalize s.heap.objs.size = n at *
    have : ∀ a b : Nat, a < b → ¬ (a = b) := fun a b h => Nat.ne_of_lt h
    simp only [List.mem_cons, List.not_mem_nil, or_false, not_or]
    exact ⟨this _ _ (Nat.lt_of_lt_of_le l1 (Nat.le_add_right ..)), this _ _ (Nat.lt_of_lt_of_le l1 (Nat.le_add_right ..)), this _ _ l1, this _ _ (Nat.lt_of_lt_of_le l1 (Nat.le_add_right ..))⟩
  · rw [z1, z3, z4]
    generalize s.heap.objs.size = n at *
    have : ∀ a b : Nat, a < b → ¬ (a = b) := fun a b h => Nat.ne_of_lt h
    simp only [List.mem_cons, List.not_mem_nil, or_false, not_or]
    exact ⟨this _ _ (Nat.lt_of_lt_of_le l2 (Nat.le_add_right ..)), this _ _ (Nat.lt_of_lt_of_le l2 (Nat.le_add_right ..)), this _ _ l2, this _ _ (Nat.lt_of_lt_of_le l2 (Nat.le_add_right ..))⟩
  · obtain ⟨o, e, r⟩ := h1
    exact ⟨o, kp _ _ e, r⟩
  · obtain ⟨o, e, r⟩ := h2
    exact ⟨o, kp _ _ e, r⟩
  · rw [z1, z2, z3, z4]
    generalize s.heap.objs.size = n
    intro b hb
    simp only [List.mem_cons, List.not_mem_nil, or_false] at hb
    rcases hb with rfl | rfl | rfl | rfl | rfl
    · exact Nat.le_add_right ..
    · exact Nat.le_add_right ..
    · exact Nat.le_add_right ..
    · exact Nat.le_refl _
    · exact Nat.le_add_right ..
end
end L2
namespace L2
open PySem PySem.Spec PyProof.Rows
noncomputable def Itz (K : PySem.W.Frag) (p q : Addr) : It :=
  ⟨fun i H => ∃ xs ys x y, SqT K H p xs ∧ SqT K H q ys ∧ xs[i]? = some x ∧ ys[i]? = some y,
   fun i H v H' => ∃ T x y, H T = none ∧ v = .ref T ∧ H' = upd H T (.tup [x, y]) ∧ ∀ xs ys, SqT K H p xs → SqT K H q ys → xs[i]? = some x ∧ ys[i]? = some y,
   fun i H => ∃ xs ys, SqT K H p xs ∧ SqT K H q ys ∧ (xs.length ≤ i ∨ ys.length ≤ i)⟩
theorem Inv.zipped {X : Cx} {pins : List (Addr × Obj)} {σ : St} {H : Hp} {s : Shared} {z TO i1 i2 : Addr} {h' : Heap} {t' : Nat} (I : Inv X pins σ H s) (hf : ∀ b ∈ [z, TO, i1, i2], FpOk X pins H b) (k : Kept4 z TO i1 i2 s.heap h') : Inv X pins σ H { s with heap := h', toks := t' } := by
  have nt : ∀ b u, H b = some u → b ∉ [z, TO, i1, i2] := fun b u e hb => by
    rw [(hf b hb).1] at e
    cases e
  have nl : X.env.locals ∉ [z, TO, i1, i2] := fun hb => (hf _ hb).2.1 rfl
  refine I.step (g' := s.gens) (d' := s.drawn) (ch := [z, TO, i1, i2]) (fun b hb => ⟨(hf b hb).2.2.2.1, (hf b hb).2.1, (hf b hb).2.2.2.2.1, (hf b hb).2.2.2.2.2⟩) (fun b o _ _ hc e _ => k b o hc e) (fun b o _ _ hc e _ => ⟨o.slots, k b o hc e⟩) (fun _ _ _ _ n => n)
    (fun b o hc e => ⟨o, k b o hc e⟩) (fun _ _ e => e) (fun _ _ _ e => e) (fun b ps e => ⟨#[], by rw [e]; simp⟩) (fun m hm => ?_) (fun b u e => ?_) I.bare
  · obtain ⟨o, es, ep, ho, r⟩ := hm
    exact ⟨o, es, ep, k _ o nl ho, r⟩
  · refine (I.hok b u e).stay (fun c v hc q => k c v ?_ q) (fun _ q => q) fun _ _ q => q
    rcases hc with z | z
    · rw [z]; exact nt b u e
    · exact nt c _ z
structure ZipTn (z TI TO i1 i2 t1 t2 : Addr) (k : Nat) (h : Heap) : Prop where
  zi : IsZip h z TI TO .none
  ti : IsPair h TI (.ref i1) (.ref i2)
  to : ∃ a b, IsPair h TO a b
  a1 : h.IsTupleIter i1 t1 k
  a2 : h.IsTupleIter i2 t2 k
theorem turn_zip {P : Program} {w : World} {K : PySem.W.Frag} {elts : List Expr} {kk : Nat} {pos : Pos} {z TI TO i1 i2 t1 t2 : Addr} (D : Far z TI TO i1 i2 t1 t2) :
    Turn P w K (.Tuple elts kk pos) (Itz K t1 t2) [z, TI, TO, i1, i2] z (fun i h => ZipTn z TI TO i1 i2 t1 t2 i h) where
  mem := by simp
  obj := fun i h st b hb => by
    obtain ⟨u1, u2, ⟨a, c, u3⟩, ⟨o4, u4, _, d4⟩, ⟨o5, u5, _, d5⟩⟩ := st
    simp only [List.mem_cons, List.not_mem_nil, or_false] at hb
    rcases hb with rfl | rfl | rfl | rfl | rfl
    · exact ⟨_, u1, fun v zz => by cases zz⟩
    · exact ⟨_, u2, fun v zz => by cases zz⟩
    · exact ⟨_, u3, fun v zz => by cases zz⟩
    · exact ⟨_, u4, fun v zz => by rw [d4] at zz; cases zz⟩
    · exact ⟨_, u5, fun v zz => by rw [d5] at zz; cases zz⟩
  keep := fun i h h' st k => by
    obtain ⟨u1, u2, ⟨a, c, u3⟩, ⟨o4, u4, r4⟩, ⟨o5, u5, r5⟩⟩ := st
    exact ⟨k _ (by simp) _ u1, k _ (by simp) _ u2, ⟨a, c, k _ (by simp) _ u3⟩, ⟨o4, k _ (by simp) _ u4, r4⟩, ⟨o5, k _ (by simp) _ u5, r5⟩⟩
  item := by
    intro X hP hw hK hc i pins s σ H E I hf st hg
    subst hP hw hK
    obtain ⟨xs, ys, x, y, hq1, hq2, hx, hy⟩ := hg
    obtain ⟨its1, rv1, p1, hz1⟩ := I.tuple hq1
    obtain ⟨its2, rv2, p2, hz2⟩ := I.tuple hq2
    obtain ⟨u, hu, ru⟩ := rv1.get hx
    obtain ⟨v, hv, rv⟩ := rv2.get hy
    refine pyNext_zipI (s := s) D ⟨st.zi, st.ti, st.to, st.a1, st.a2, p1, p2⟩ (x := u) (y := v) (by simpa using hu) (by simpa using hv) fun h' Z hp hk => ⟨_, rfl, wpAny_letOwnedTupleGo_zip Z.zi fun h2 z2 sb => ?_⟩
    have hf4 : ∀ b ∈ [z, TO, i1, i2], FpOk X pins H b := fun b hb => hf b (by simp only [List.mem_cons, List.not_mem_nil, or_false] at hb ⊢; rcases hb with e | e | e | e <;> simp [e])
    have k2 : Kept4 z TO i1 i2 s.heap h2 := fun c o hc e => (sb.2 c (fun zz => hc (by simp [zz]))).trans (hk c o hc e)
    have I1 : Inv X pins σ H { s with heap := h2 } := I.zipped (t' := s.toks) hf4 k2
    have zlt : z < s.heap.objs.size := Heap.lt_size st.zi
    have at2 : IsPair h2 s.heap.objs.size u v := (sb.2 _ (Nat.ne_of_gt zlt)).trans hp
    have Hn : H s.heap.objs.size = none := I.hok.fresh (Nat.le_refl _)
    have I2 : Inv X pins σ (upd H s.heap.objs.size (.tup [x, y])) { s with heap := h2 } := by
      refine I1.adopt Hn (Heap.get?_none_of_le I.sz) (Nat.ne_of_gt I.lt) (fun xx cc e zz => ?_) (fun p hp zz => ?_) ⟨by show 2 ≤ sizeLine; decide, [u, v], .cons ru (.cons rv .nil), ⟨_, at2, rfl, ⟨0, rfl⟩, rfl⟩⟩
      · obtain ⟨_, q⟩ := I.cell xx cc e
        exact absurd q.lt (by rw [zz]; exact Nat.lt_irrefl _)
      · exact absurd (Heap.lt_size (I.pin p hp).1) (by rw [zz]; exact Nat.lt_irrefl _)
    have n5 : ∀ b ∈ [z, TI, TO, i1, i2], b ≠ s.heap.objs.size := fun b hb zz => by
      obtain ⟨u1, u2, ⟨a, c, u3⟩, ⟨o4, u4, _⟩, ⟨o5, u5, _⟩⟩ := st
      simp only [List.mem_cons, List.not_mem_nil, or_false] at hb
      rcases hb with e | e | e | e | e
      · rw [e] at zz; exact absurd (Heap.lt_size u1) (by rw [zz]; exact Nat.lt_irrefl _)
      · rw [e] at zz; exact absurd (Heap.lt_size u2) (by rw [zz]; exact Nat.lt_irrefl _)
      · rw [e] at zz; exact absurd (Heap.lt_size u3) (by rw [zz]; exact Nat.lt_irrefl _)
      · rw [e] at zz; exact absurd (Heap.lt_size u4) (by rw [zz]; exact Nat.lt_irrefl _)
      · rw [e] at zz; exact absurd (Heap.lt_size u5) (by rw [zz]; exact Nat.lt_irrefl _)
    obtain ⟨nd, _, _⟩ := D
    simp only [List.nodup_cons, List.mem_cons, List.not_mem_nil, or_false, not_or, List.nodup_nil, and_true, not_false_eq_true] at nd
    obtain ⟨⟨nzI, nzO, nz1, nz2⟩, _, _, _⟩ := nd
    obtain ⟨a, b, to⟩ := Z.to
    refine ⟨.ref s.heap.objs.size, _, I2, rfl, ⟨_, x, y, Hn, rfl, rfl, fun xs' ys' h1 h2 => ?_⟩, ⟨z2, (sb.2 _ (Ne.symm nzI)).trans Z.ti, ⟨a, b, (sb.2 _ (Ne.symm nzO)).trans to⟩, Z.a1.extBut sb.extBut (Ne.symm nz1), Z.a2.extBut sb.extBut (Ne.symm nz2)⟩, fun b hb => ?_⟩
    · rw [I.tuple_inj h1 hq1, I.tuple_inj h2 hq2]
      exact ⟨hx, hy⟩
    · rw [upd_ne (n5 b hb)]
      exact (hf b hb).1
  done := by
    intro X hP hw hK hc i pins s σ H E I hf st hg
    subst hP hw hK
    obtain ⟨xs, ys, hq1, hq2, hx⟩ := hg
    obtain ⟨its1, rv1, p1, hz1⟩ := I.tuple hq1
    obtain ⟨its2, rv2, p2, hz2⟩ := I.tuple hq2
    have l1 := rv1.length
    have l2 := rv2.length
    have hf4 : ∀ b ∈ [z, TO, i1, i2], FpOk X pins H b := fun b hb => hf b (by simp only [List.mem_cons, List.not_mem_nil, or_false] at hb ⊢; rcases hb with e | e | e | e <;> simp [e])
    exact pyNext_zipE (I.ok.hd hc) D ⟨st.zi, st.ti, st.to, st.a1, st.a2, p1, p2⟩ (by rcases hx with h | h; exact .inl (by simp; walk_at "om"); exact .inr (by simp; walk_at "om")) fun h' hk => ⟨rfl, I.zipped (t' := s.toks) hf4 hk⟩
  self := fun A i s Q E st h => wpAny_pyIter_zip st.zi h
section
variable {X : Cx}
theorem bt_zip : bootBuiltins "zip" = some (.type "zip") := by decide +kernel
noncomputable def iZip (K : PySem.W.Frag) (ta : TA) : TI := fun σ H R => ta σ H fun vs H1 => ∃ p q xs ys, vs = [.ref p, .ref q] ∧ SqT K H1 p xs ∧ SqT K H1 q ys ∧ R (Itz K p q) H1
theorem kpi_zip (K : PySem.W.Frag) {elts : List Expr} {kk : Nat} {tpos : Pos} {a b : Expr} {ta : TA} {p pos : Pos} (hg : Gl X "zip") (hm : X.mg "zip" = none) (ha : PA X [a, b] ta) (hs : starEach [a, b] X.env = [(false, eval a X.env), (false, eval b X.env)] := by rfl) (hs2 : starEach [b] X.env = [(false, eval b X.env)] := by rfl) (hK : X.K = K := by rfl) :
    PI X (.Tuple elts kk tpos) (.Call (.Name "zip" p) [a, b] [] pos) (iZip K ta) := by
  subst hK
  intro pins s σ H R I h
  refine Call_ (ld_blt I hg hm bt_zip (PyProof.Rows.callWith_type1 (thn (ha pos pins s σ H _ I h) fun us s1 ⟨vs, H1, I1, r1, q1⟩ => ?_) (by rw [hs, hs2]) (by rw [hs2]; rfl)))
  obtain ⟨p1, p2, xs, ys, e, hq1, hq2, q⟩ := q1
  subst e
  obtain ⟨u1, u2, rfl, r1, r2⟩ := vals2 r1
  cases r1
  cases r2
  obtain ⟨its1, rv1, t1, _⟩ := I1.tuple hq1
  obtain ⟨its2, rv2, t2, _⟩ := I1.tuple hq2
  refine call_zipT t1 t2 fun h' z TI TO i1 i2 D Z new kp => wpAny_pyIter_zip Z.zi ?_
  have I2 : Inv X pins σ H1 { s1 with heap := h' } := I1.kept (t' := s1.toks) kp
  exact ⟨z, [z, TI, TO, i1, i2], _, Itz X.K p1 p2, H1, rfl, I2, turn_zip D, ⟨Z.zi, Z.ti, Z.to, Z.a1, Z.a2⟩, fun b hb => I1.fpOk (new b hb) (I1.hok.fresh (new b hb)), q⟩
end
end L2

set_option Elab.async false
set_option linter.all false
set_option maxRecDepth 100000
set_option maxHeartbeats 4000000
namespace L2
open PySem PySem.Spec PyProof.Rows
theorem comp_zip {K : PySem.W.Frag} {p q : Addr} {xs ys : List V} {n : Nat} {tt : TT} {te : TE} {H1 : Hp} {Q : VK} {D : Addr} (P : Nat → List V → Hp → Prop) (hn : n = min xs.length ys.length) (h0 : P 0 [] (upd H1 D (.lst [])))
    (hp : ∀ i zs H, P i zs H → H D = some (.lst zs) → SqT K H p xs ∧ SqT K H q ys)
    (hs : ∀ i zs H T x y, xs[i]? = some x → ys[i]? = some y → i < n → P i zs H → H D = some (.lst zs) → H T = none → tt [some x, some y] (upd H T (.tup [x, y])) fun b H4 => if b = true then te [some x, some y] H4 (cYes (fun σ => σ.length = 2) P n D [some x, some y] i) else cNo (fun σ => σ.length = 2) P n D [some x, some y] i H4)
    (hd : ∀ zs H, P n zs H → H D = some (.lst zs) → Q (.ref D) H) :
    CompGo (Itz K p q) (gTup K 2 (gCons (gName 0) (gCons (gName 1) gNil))) tt te [none, none] H1 Q D := by
  refine ⟨cW (fun σ => σ.length = 2) P n D, ⟨n, by simp [cW]; exact ⟨_, h0, upd_same⟩⟩, ?_⟩
  rintro i m σ' H' ⟨rfl, hi, r, zs, pp, hD⟩
  obtain ⟨q1, q2⟩ := hp i zs H' pp hD
  by_cases hlt : i < n
  · have k1 : xs[i]? = some (xs.getD i .non) := by simp [List.getD, show i < xs.length by walk_at "om"]
    have k2 : ys[i]? = some (ys.getD i .non) := by simp [List.getD, show i < ys.length by walk_at "om"]
    refine .inr ⟨⟨xs, ys, _, _, q1, q2, k1, k2⟩, ?_⟩
    rintro v H2 ⟨T, x, y, hT, rfl, rfl, hall⟩
    obtain ⟨e1, e2⟩ := hall xs ys q1 q2
    match σ', r with
    | [s1, s2], _ => exact ⟨T, _, rfl, SqT.of upd_same, rfl, _, _, rfl, _, _, rfl, rfl, hs i zs H' T x y e1 e2 hlt pp hD hT⟩
  · have e : i = n := by walk_at "om"
    subst e
    exact .inl ⟨⟨xs, ys, q1, q2, by walk_at "om"⟩, hd zs H' pp hD⟩
section
variable {X : Cx}
theorem op_le_str : OpR X (compareOp .LtE) (fun x y H Q => ∃ i j, x = .str i ∧ y = .str j ∧ Q (.bl (!decide (j.cps.toList < i.cps.toList))) H) := by
  intro pins s σ H x y v u Q I rx ry h
  obtain ⟨i, j, rfl, rfl, q⟩ := h
  obtain ⟨t, rfl⟩ := rx
  obtain ⟨t', rfl⟩ := ry
  exact PySem.P.le_str (fin_bl I q rfl)
theorem vals_strs : ∀ (tk : Tok) (ys : List Str), Vals (ys.map V.str) (strsFrom tk ys)
  | _, [] => .nil
  | tk, y :: ys => .cons ⟨_, rfl⟩ (vals_strs (tk + 1) ys)
noncomputable def rSplit : V → List V → Hp → VK → Prop := fun x vs H Q => ∃ z y, x = .str z ∧ vs = [.str y] ∧ (y.length == 0) = false ∧ z.length + 2 ≤ sizeLine ∧ ∀ l, H l = none → Q (.ref l) (upd H l (.lst ((PySem.Txt.split z y).map V.str)))
theorem mt_split : MtR X "str.split" rSplit := by
  intro pins s σ H x vs v us Q I rx rv h
  obtain ⟨z, y, rfl, rfl, hy, hz, q⟩ := h
  obtain ⟨t, rfl⟩ := rx
  obtain ⟨u, rfl, t', rfl⟩ := vals1 rv
  have fr := I.hok.fresh (Nat.le_refl s.heap.objs.size)
  have hl := PyProof.Rows.split_le z y
  have fin : ∀ (us : List Value) (tk : Nat), Vals ((PySem.Txt.split z y).map V.str) us → EP X pins σ Q (.ref s.heap.objs.size) { s with heap := s.heap.push { cls := .type "list", data := .seq us.toArray }, toks := tk } := fun us tk r =>
    ⟨.ref s.heap.objs.size, _, I.laid (t' := tk) (o := .lst ((PySem.Txt.split z y).map V.str)) (fun b o e => Heap.get?_push_of_some _ e) (Nat.le_refl _) ⟨by rw [List.length_map]; walk_at "om", us, 0, r, Heap.get?_push_size _ rfl⟩, rfl, q _ fr⟩
  cases h1 : (decide (z.length < y.length) || decide (Builtin.Str.strKind z < Builtin.Str.strKind y))
  · cases hf : (Builtin.Str.occurrences z y 0 z.length (z.length + 1)).isEmpty
    · have es : PySem.Txt.split z y = Builtin.Str.partsBetween z (Builtin.Str.occurrences z y 0 z.length (z.length + 1)) y.length := by
        unfold PySem.Txt.split
        rw [h1, hf]
        rfl
      refine call_meets F.slot_str_split (typeIs_str _ _ _) F.entry_str_split (F.args_str_split_2 _ _) (meets_str_split_sep z y t t' h1 hy hf (by walk_at "om") (by rw [← es]; walk_at "om")) ?_
      exact fin _ _ (by rw [es]; exact vals_strs _ _)
    · have es : PySem.Txt.split z y = [z] := by
        unfold PySem.Txt.split
        rw [h1, hf]
        rfl
      exact call_meets F.slot_str_split (typeIs_str _ _ _) F.entry_str_split (F.args_str_split_2 _ _) (meets_str_split_not_found z y t t' h1 hy hf) (fin [.str z t] s.toks (by rw [es]; exact .cons ⟨t, rfl⟩ .nil))
  · have es : PySem.Txt.split z y = [z] := by
      unfold PySem.Txt.split
      rw [h1]
      rfl
    exact call_meets F.slot_str_split (typeIs_str _ _ _) F.entry_str_split (F.args_str_split_2 _ _) (meets_str_split_cannot_occur z y t t' h1) (fin [.str z t] s.toks (by rw [es]; exact .cons ⟨t, rfl⟩ .nil))
noncomputable def rFind : V → List V → Hp → VK → Prop := fun x vs H Q => ∃ z y, x = .str z ∧ vs = [.str y] ∧ Q (.int (PySem.Txt.find z y)) H
theorem mt_find : MtR X "str.find" rFind := by
  intro pins s σ H x vs v us Q I rx rv h
  obtain ⟨z, y, rfl, rfl, q⟩ := h
  obtain ⟨t, rfl⟩ := rx
  obtain ⟨u, rfl, t', rfl⟩ := vals1 rv
  exact SC.find ⟨.int _, H, I.tok _, ⟨_, rfl⟩, q⟩
end
noncomputable def Alike (H : Hp) : Nat → V → V → Prop
  | 0, v, u => v = u ∧ flatV v = true
  | n + 1, v, u => (v = u ∧ flatV v = true) ∨ ∃ a b xs ys, v = .ref a ∧ u = .ref b ∧ H a = some (.tup xs) ∧ H b = some (.tup ys) ∧ Paired (Alike H n) xs ys
theorem eqV_self {v : V} (h : flatV v = true) : eqV v v = true := by
  cases v with
  | non => rfl
  | bl b => simp [eqV]
  | int i => simp [eqV]
  | str x => simp [eqV]
  | _ => cases h
theorem Paired.at {α β : Type} {F : α → β → Prop} : ∀ {l₁ : List α} {l₂ : List β}, Paired F l₁ l₂ → ∀ (i : Nat) (x : α) (y : β), l₁[i]? = some x → l₂[i]? = some y → F x y
  | _, _, .nil, i, x, y, h, _ => by simp at h
  | _, _, .cons r t, 0, x, y, h, k => by simp at h k; subst h k; exact r
  | _, _, .cons r t, i + 1, x, y, h, k => Paired.at t i x y (by simpa using h) (by simpa using k)
section
variable {X : Cx} {pins : List (Addr × Obj)} {σ : St} {H : Hp} {s : Shared}
theorem alike_parts {A : Around} {n : Nat} {xs ys : List V} {us vs : List Value} (ih : ∀ {v u : V} {v' u' : Value}, RelV v v' → RelV u u' → Alike H n v u → SeqAt.EqAt A s v' u' true) (r1 : Vals xs us) (r2 : Vals ys vs) (pr : Paired (Alike H n) xs ys) (j : Nat) (h1 : j < us.toArray.size) (h2 : j < vs.toArray.size) :
    SeqAt.EqAt A s us.toArray[j] vs.toArray[j] true := by
  have l1 := r1.length
  have l2 := r2.length
  have g1 : j < us.length := by simpa using h1
  have g2 : j < vs.length := by simpa using h2
  have k1 : xs[j]? = some (xs.getD j .non) := by simp [List.getD, show j < xs.length by walk_at "om"]
  have k2 : ys[j]? = some (ys.getD j .non) := by simp [List.getD, show j < ys.length by walk_at "om"]
  obtain ⟨u, e1, q1⟩ := r1.get k1
  obtain ⟨v, e2, q2⟩ := r2.get k2
  have w1 : us.toArray[j] = u := by
    rw [List.getElem?_eq_getElem g1] at e1
    simpa using Option.some.inj e1
  have w2 : vs.toArray[j] = v := by
    rw [List.getElem?_eq_getElem g2] at e2
    simpa using Option.some.inj e2
  rw [w1, w2]
  exact ih q1 q2 (Paired.at pr j _ _ k1 k2)
theorem alike_eq (I : Inv X pins σ H s) : ∀ (n : Nat) {A : Around} {v u : V} {v' u' : Value}, A.units + n < cLine → RelV v v' → RelV u u' → Alike H n v u → SeqAt.EqAt A s v' u' true
  | 0, A, v, u, v', u', _, r1, r2, h => by
    obtain ⟨rfl, f⟩ := h
    have := eqAt_V (A := A) (s := s) r1 r2 f f
    rw [eqV_self f] at this
    exact this
  | n + 1, A, v, u, v', u', hu, r1, r2, h => by
    rcases h with ⟨rfl, f⟩ | ⟨a, b, xs, ys, rfl, rfl, ha, hb, pr⟩
    · have := eqAt_V (A := A) (s := s) r1 r2 f f
      rw [eqV_self f] at this
      exact this
    · cases r1
      cases r2
      by_cases ab : a = b
      · subst ab
        exact SeqAt.EqAt.same _
      · obtain ⟨_, us, q1, p1⟩ := I.hok a _ ha
        obtain ⟨_, vs, q2, p2⟩ := I.hok b _ hb
        have ln := Paired.length pr
        have l1 := q1.length
        have l2 := q2.length
        have z := SeqAt.RcAt.tuples (A := A) (s := s) (e := fun _ => true) p1.isTup p2.isTup (by walk_at "om") (alike_parts (A := A.in1) (fun {v u v' u'} a1 a2 a3 => alike_eq I n (A := A.in1) (by show A.units + 1 + n < cLine; walk_at "om") a1 a2 a3) q1 q2 pr)
        have e : ((List.range (min us.toArray.size vs.toArray.size)).all (fun _ => true) && us.toArray.size == vs.toArray.size) = true := by
          simp; walk_at "om"
        rw [e] at z
        exact SeqAt.EqAt.of_refs ab z
noncomputable def rNeD (n : Nat) : R2 := fun x y H Q => ∃ a b xs ys, x = .ref a ∧ y = .ref b ∧ H a = some (.tup xs) ∧ H b = some (.tup ys) ∧ Paired (Alike H n) xs ys ∧ Q (.bl false) H
theorem op_neD (n : Nat) {k : Nat} (hr : Room k X.A) (hn : n ≤ 20) : OpR X (compareOp .NotEq) (rNeD n) := by
  intro pins s σ H x y v u Q I rx ry h
  obtain ⟨a, b, xs, ys, rfl, rfl, ha, hb, pr, q⟩ := h
  cases rx
  cases ry
  have hu : X.A.units + 64 < cLine := hr.units
  obtain ⟨_, us, q1, p1⟩ := I.hok a _ ha
  obtain ⟨_, vs, q2, p2⟩ := I.hok b _ hb
  have ln := Paired.length pr
  have l1 := q1.length
  have l2 := q2.length
  have z := SeqAt.RcNeAt.tuples (A := X.A) (s := s) (e := fun _ => true) p1.isTup p2.isTup (by walk_at "om") (alike_parts (A := X.A.in1) (fun {v u v' u'} a1 a2 a3 => alike_eq I n (A := X.A.in1) (by show X.A.units + 1 + n < cLine; walk_at "om") a1 a2 a3) q1 q2 pr)
  have e : (!((List.range (min us.toArray.size vs.toArray.size)).all (fun _ => true) && us.toArray.size == vs.toArray.size)) = false := by
    simp; walk_at "om"
  rw [e] at z
  exact z X.prog X.w _ _ ⟨.bl _, H, I, rfl, q⟩
end
end L2

set_option Elab.async false
set_option linter.all false
namespace L2
open PySem PySem.Spec PyProof.Rows
variable {X : Cx}
theorem pe_globR {x : Str} {v : V} {pos : Pos} (hg : Gl X x) (hm : ∃ u, X.mg x = some u ∧ RelV v u) (hd : (x == ("__debug__" : Str)) = false := by decide) : PE X (.Name x pos) (tC v) := by
  obtain ⟨u, h, r⟩ := hm
  exact pe_glob hg h r hd
end L2

set_option Elab.async false
set_option linter.all false
set_option maxRecDepth 100000
set_option maxHeartbeats 4000000
namespace HT
open PySem PyProof.Rows
open PySem.SeqAt
open PySem.AutoSeq1 (wpAny_loadPart')
open PySem.MeetsSeq PySem.MeetsSeq2 PySem.MeetsSeq3
variable {prog : Program} {w : World} {A : Around} {E : Value → Shared → Prop} {s : Shared}
theorem getItem_tuple_whole {t sl : Addr} {items : Array Value} {vl vu : Value} {lo hi : Option Int} {Q : Value → Shared → Prop} (ht : IsTup s.heap t items) (hs : s.heap.IsSliceOf sl vl vu .none) (pl : IsPart vl lo) (pu : IsPart vu hi)
    (hw : sIx items.size 0 lo = 0 ∧ sIx items.size items.size hi = items.size)
    (h : Q (.ref t) s) : wpAny (model prog w) A (getItem (.ref t) (.ref sl)) Q E s := by
  obtain ⟨os, hos, hcs, hds⟩ := id hs
  have hTs : s.TypeIs (.ref sl) "slice" := ⟨os, hos, hcs⟩
  unfold getItem
  try with_reducible refine wpAny_holding ?_
  first | refine wpAny_bind (wpAny_pure ?_) | skip
  refine wpAny_bind (wpAny_sequenceKey ht.typeIs (by decide) ?_)
  refine wpAny_bind (wpAny_callSpecial?_slot (name := Str.ofString "__getitem__") ht.typeIs PyProof.Rows.slot_tuple_getitem
    (wpAny_call_entry PyProof.Rows.slot_tuple_getitem ht.typeIs entry_tuple_getitem ?_ (args_tuple_getitem _ _)))
  show wpAny _ _ (Builtin.Tuple.tupleItemsOf (.ref t) >>= _) _ _ s
  refine wpAny_bind (tupleItemsOf_ ht ?_)
  refine wpAny_bind (wpAny_typeOf hTs ?_)
  rw [if_pos (by decide)]
  refine wpAny_bind (sliceApplied_gen hs pl pu ?_)
  have hyes : (((sIx items.size 0 lo : Nat) : Int) == 0 && (1 : Int) == 1 && (sIx items.size items.size hi - sIx items.size 0 lo) == items.size) = true := by
    rw [hw.1, hw.2]
    simp
  show wpAny _ _ (if (((sIx items.size 0 lo : Nat) : Int) == 0 && (1 : Int) == 1 && (sIx items.size items.size hi - sIx items.size 0 lo) == items.size) = true then _ else _) _ _ s
  rw [if_pos hyes]
  refine wpAny_bind (m := Builtin.Tuple.tupleIsExact _) (wpAny_bind (wpAny_typeOf ht.typeIs (wpAny_pure ?_)))
  rw [if_pos (by decide)]
  first
    | exact wpAny_bind (wpAny_rule (wpAny_pure ⟨_, rfl, wpAny_pure h⟩))
    | exact wpAny_rule (wpAny_pure ⟨_, rfl, wpAny_pure h⟩)
    | exact wpAny_bind (wpAny_rule ⟨_, rfl, wpAny_pure h⟩)
    | exact wpAny_pure ⟨_, rfl, wpAny_pure h⟩
end HT
namespace L2
open PySem PySem.Spec PyProof.Rows
variable {X : Cx}
noncomputable def rSlTW (K : PySem.W.Frag) : V → Option Int → Option Int → Hp → VK → Prop := fun x lo hi H Q => ∃ a xs, x = .ref a ∧ SqT K H a xs ∧
  (HT.sIx xs.length 0 lo = 0 ∧ HT.sIx xs.length xs.length hi = xs.length) ∧ Q (.ref a) H
theorem sl_tupW : SlR X (rSlTW X.K) := by
  intro pins s σ H x v vl vu lo hi sl Q I rx hs pl pu h
  obtain ⟨a, xs, rfl, hx, hw, q⟩ := h
  cases rx
  obtain ⟨its, r, ht, hz⟩ := I.tuple hx
  have hlen : its.toArray.size = xs.length := by rw [List.size_toArray]; exact r.length.symm
  refine ⟨"tuple", _, PyProof.Rows.slot_tuple_getitem.lookup, ht.typeIs, ?_⟩
  exact HT.getItem_tuple_whole ht hs pl pu (by rw [hlen]; exact hw) ⟨.ref a, H, I, rfl, q⟩
theorem ksl_tupA (K : PySem.W.Frag) (hK : X.K = K := by rfl) : SlR X (fun x lo hi H Q => rSlT K x lo hi H Q ∨ rSlTW K x lo hi H Q) := hK ▸ sl_tup.or sl_tupW
end L2

set_option Elab.async false
set_option linter.all false
set_option maxRecDepth 100000
set_option maxHeartbeats 4000000
namespace L2
open PySem PySem.Spec PyProof.Rows
section
variable {X : Cx}
noncomputable def rNeE : R2 := fun x y H Q => ∃ a b xs, x = .ref a ∧ y = .ref b ∧ H a = some (.tup xs) ∧ H b = some (.tup []) ∧ Q (.bl (!xs.isEmpty)) H
theorem op_neE {k : Nat} (hr : Room k X.A) : OpR X (compareOp .NotEq) rNeE := by
  intro pins s σ H x y v u Q I rx ry h
  obtain ⟨a, b, xs, rfl, rfl, ha, hb, q⟩ := h
  cases rx
  cases ry
  have hu : X.A.units + 64 < cLine := hr.units
  obtain ⟨_, us, q1, p1⟩ := I.hok a _ ha
  obtain ⟨_, vs, q2, p2⟩ := I.hok b _ hb
  have l1 := q1.length
  have l2 := q2.length
  have z := SeqAt.RcNeAt.tuples (A := X.A) (s := s) (e := fun _ => true) p1.isTup p2.isTup (by walk_at "om") (fun j h1 h2 => by
    rw [List.size_toArray, ← l2] at h2
    exact absurd h2 (Nat.not_lt_zero _))
  have e : (!((List.range (min us.toArray.size vs.toArray.size)).all (fun _ => true) && us.toArray.size == vs.toArray.size)) = !xs.isEmpty := by
    rw [List.size_toArray, List.size_toArray, ← l1, ← l2]
    cases xs with
    | nil => rfl
    | cons x xs => simp
  rw [e] at z
  exact z X.prog X.w _ _ ⟨.bl _, H, I, rfl, q⟩
end
end L2

set_option Elab.async false
set_option linter.all false
set_option maxRecDepth 100000
set_option maxHeartbeats 4000000
namespace L2
open PySem PySem.Spec PyProof.Rows
open Builtin
section
variable {X : Cx}
end
end L2

set_option Elab.async false
set_option linter.all false
set_option maxRecDepth 100000
set_option maxHeartbeats 4000000
namespace L4
open PySem L2
noncomputable def Pool (H : Hp) (p : Addr) : Prop := ∃ r a b : Int, H p = some (.lst [.int r, .int a, .int b])
noncomputable def Off (p : Addr) (H H' : Hp) : Prop := ∀ b o, b ≠ p → H b = some o → H' b = some o
noncomputable def Tk (H H' : Hp) : Prop := ∀ b xs, H b = some (.tup xs) → H' b = some (.tup xs)
theorem Off.refl {p : Addr} {H : Hp} : Off p H H := fun _ _ _ h => h
theorem Off.trans {p : Addr} {H H1 H2 : Hp} (a : Off p H H1) (b : Off p H1 H2) : Off p H H2 := fun c o n h => b c o n (a c o n h)
theorem Off.put {p : Addr} {H : Hp} {o : HO} : Off p H (upd H p o) := fun c u n h => by rw [upd_ne n]; exact h
theorem Off.new {p t : Addr} {H : Hp} {o : HO} (h : H t = none) : Off p H (upd H t o) := fun c u n q => by rw [upd_ne (ne_of_none q h)]; exact q
theorem Off.tk {p : Addr} {H H' : Hp} (o : Off p H H') (h : Pool H p) : Tk H H' := fun b xs q => by
  obtain ⟨r, a, c, e⟩ := h
  exact o b _ (ne_of q e (by intro z; cases z)) q
theorem Tk.trans {H H1 H2 : Hp} (a : Tk H H1) (b : Tk H1 H2) : Tk H H2 := fun c xs h => b c xs (a c xs h)
theorem Tk.new {t : Addr} {H : Hp} {o : HO} (h : H t = none) : Tk H (upd H t o) := fun c u q => by rw [upd_ne (ne_of_none q h)]; exact q
theorem Tk.put {t : Addr} {H : Hp} {xs : List V} {o : HO} (h : H t = some (.lst xs)) : Tk H (upd H t o) := fun c u q => by rw [upd_ne (ne_of q h (by intro z; cases z))]; exact q
theorem Pool.put {H : Hp} {p : Addr} {r a b : Int} : Pool (upd H p (.lst [.int r, .int a, .int b])) p := ⟨r, a, b, upd_same⟩
theorem Pool.new {H : Hp} {p t : Addr} {o : HO} (h : Pool H p) (n : H t = none) : Pool (upd H t o) p := by
  obtain ⟨r, a, b, e⟩ := h
  exact ⟨r, a, b, by rw [upd_ne (ne_of_none e n)]; exact e⟩
theorem Pool.off {H : Hp} {p t : Addr} {o : HO} (h : Pool H p) (n : p ≠ t) : Pool (upd H t o) p := by
  obtain ⟨r, a, b, e⟩ := h
  exact ⟨r, a, b, by rw [upd_ne n]; exact e⟩
noncomputable def spPool : Sp := fun vs H Q _ => ∃ c : Int, vs = [.int c] ∧ ∀ p r a b, H p = none → Q (.ref p) (upd H p (.lst [.int r, .int a, .int b]))
noncomputable def spDraw : Sp := fun vs H Q _ => ∃ (p : Addr) (m : Int), vs = [.ref p, .int m] ∧ Pool H p ∧ 0 < m ∧ m < 1073741824 ∧ ∀ v H', 0 ≤ v → v < m → Off p H H' → Pool H' p → Q (.int v) H'
theorem same_new {H : Hp} {p : Addr} (h : H p = none) (o : HO) : Same H (upd H p o) := fun b u q => by rw [upd_ne (ne_of_none q h)]; exact q
theorem Off.fresh {p f : Addr} {H H' : Hp} {o : HO} (h : Off p H H') (n : H f = none) : Off p H (upd H' f o) := fun b u hb q => by rw [upd_ne (ne_of_none q n)]; exact h b u hb q
theorem Off.of {p : Addr} {H H' : Hp} (s : Same H H') : Off p H H' := fun b o _ q => s b o q
theorem Tk.of {H H' : Hp} (s : Same H H') : Tk H H' := fun b xs q => s b _ q
theorem take_snoc {α : Type} {xs : List α} {i : Nat} {x : α} (h : xs[i]? = some x) : xs.take (i + 1) = xs.take i ++ [x] := by rw [List.take_add_one, h]; rfl
theorem small9 {n : Nat} (h : n ≤ 1000) : n ≤ sizeLine := Nat.le_of_lt (small1000 h)
end L4

set_option Elab.async false
set_option linter.all false
set_option maxRecDepth 100000
set_option maxHeartbeats 4000000
namespace L4
open PySem L2
theorem le_of_sub : ∀ (l ns : List Str), l.Nodup → (∀ x ∈ l, x ∈ ns) → l.length ≤ ns.length
  | [], ns, _, _ => Nat.zero_le _
  | x :: l, ns, nd, h => by
    obtain ⟨n1, n2⟩ := List.nodup_cons.mp nd
    have ih := le_of_sub l (ns.erase x) n2 fun y hy => (List.mem_erase_of_ne (fun (e : y = x) => n1 (e ▸ hy))).mpr (h y (List.mem_cons_of_mem _ hy))
    have hx := h x List.mem_cons_self
    have e := List.length_erase_of_mem hx
    have pos : 0 < ns.length := List.length_pos_of_mem hx
    rw [List.length_cons]
    walk_at "om"
noncomputable def glue (z : Str) (c : Nat) : Str := z ++ ⟨#[c]⟩
theorem glue_inj {z : Str} {c d : Nat} (h : glue z c = glue z d) : c = d := by
  have e : z.cps ++ #[c] = z.cps ++ #[d] := congrArg Str.cps h
  have e2 := congrArg Array.toList e
  simp at e2
  exact e2
theorem nodup_glue (z : Str) : ∀ cs : List Nat, cs.Nodup → (cs.map (glue z)).Nodup
  | [], _ => List.nodup_nil
  | c :: cs, nd => by
    obtain ⟨n1, n2⟩ := List.nodup_cons.mp nd
    rw [List.map_cons]
    refine List.nodup_cons.mpr ⟨fun hm => ?_, nodup_glue z cs n2⟩
    obtain ⟨d, hd, e⟩ := List.mem_map.mp hm
    exact n1 (glue_inj e ▸ hd)
theorem pick_new (z : Str) (cs : List Nat) (nd : cs.Nodup) (ns : List Str) (h : ns.length < cs.length) : ∃ c ∈ cs, glue z c ∉ ns := by
  refine Classical.byContradiction fun hn => ?_
  have all : ∀ x ∈ cs.map (glue z), x ∈ ns := fun x hx => by
    obtain ⟨c, hc, e⟩ := List.mem_map.mp hx
    refine Classical.byContradiction fun hx' => hn ⟨c, hc, e ▸ hx'⟩
  have := le_of_sub _ ns (nodup_glue z cs nd) all
  rw [List.length_map] at this
  walk_at "om"
structure Conn where
  nm : Str
  pl : Int
  cs : List (Option Int)
noncomputable def cellV : Option Int → V
  | none => .non
  | some i => .int i
noncomputable def Conns (H : Hp) : List Conn → List V → Prop
  | [], vs => vs = []
  | c :: r, vs => ∃ t u rest, vs = .ref t :: rest ∧ H t = some (.tup [.str c.nm, .int c.pl, .ref u]) ∧ H u = some (.tup (c.cs.map cellV)) ∧ Conns H r rest
theorem Conns.tk {H H' : Hp} (k : Tk H H') : ∀ {cs : List Conn} {vs : List V}, Conns H cs vs → Conns H' cs vs
  | [], _, h => h
  | _ :: _, _, ⟨t, u, rest, e, h1, h2, h3⟩ => ⟨t, u, rest, e, k _ _ h1, k _ _ h2, h3.tk k⟩
theorem Conns.len {H : Hp} : ∀ {cs : List Conn} {vs : List V}, Conns H cs vs → vs.length = cs.length
  | [], _, h => by cases h; rfl
  | _ :: _, _, ⟨t, u, rest, e, h1, h2, h3⟩ => by rw [e, List.length_cons, List.length_cons, h3.len]
theorem Conns.snoc {H : Hp} {c : Conn} {t u : Addr} (h1 : H t = some (.tup [.str c.nm, .int c.pl, .ref u])) (h2 : H u = some (.tup (c.cs.map cellV))) : ∀ {cs : List Conn} {vs : List V}, Conns H cs vs → Conns H (cs ++ [c]) (vs ++ [.ref t])
  | [], _, h => by cases h; exact ⟨t, u, [], rfl, h1, h2, rfl⟩
  | _ :: _, _, ⟨t', u', rest, e, q1, q2, q3⟩ => ⟨t', u', rest ++ [.ref t], by rw [e]; rfl, q1, q2, q3.snoc h1 h2⟩
theorem Conns.get {H : Hp} : ∀ {cs : List Conn} {vs : List V} {i : Nat} {c : Conn}, Conns H cs vs → cs[i]? = some c → ∃ t u, vs[i]? = some (.ref t) ∧ H t = some (.tup [.str c.nm, .int c.pl, .ref u]) ∧ H u = some (.tup (c.cs.map cellV))
  | [], _, _, _, _, e => by simp at e
  | _ :: _, _, 0, _, ⟨t, u, rest, e, h1, h2, h3⟩, q => by
    simp at q
    subst q
    exact ⟨t, u, by rw [e]; rfl, h1, h2⟩
  | _ :: _, _, i + 1, _, ⟨t, u, rest, e, h1, h2, h3⟩, q => by
    obtain ⟨t', u', a, b⟩ := h3.get (i := i) (by simpa using q)
    exact ⟨t', u', by rw [e]; simpa using a, b⟩
structure Half where
  m : Int
  ws : List Int
  cs : List Conn
noncomputable def IsHalf (H : Hp) (v : V) (T : Half) : Prop := ∃ a w c vs, v = .ref a ∧ H a = some (.tup [.int T.m, .ref w, .ref c]) ∧ H w = some (.tup (T.ws.map .int)) ∧ H c = some (.tup vs) ∧ Conns H T.cs vs
theorem IsHalf.tk {H H' : Hp} {v : V} {T : Half} (k : Tk H H') (h : IsHalf H v T) : IsHalf H' v T := by
  obtain ⟨a, w, c, vs, e, h1, h2, h3, h4⟩ := h
  exact ⟨a, w, c, vs, e, k _ _ h1, k _ _ h2, k _ _ h3, h4.tk k⟩
noncomputable def isN : Option Int → Bool
  | none => true
  | some _ => false
noncomputable def nonesC (c : Conn) : Nat := c.cs.countP isN
noncomputable def nones (T : Half) : Nat := (T.cs.map nonesC).sum
theorem flat_cells (cs : List (Option Int)) : (cs.map cellV).all flatV = true := by
  rw [List.all_eq_true]
  intro x hx
  obtain ⟨c, _, rfl⟩ := List.mem_map.mp hx
  cases c <;> rfl
theorem count_cells (cs : List (Option Int)) : ((cs.map cellV).countP fun z => eqV z .non) = cs.countP isN := by
  induction cs with
  | nil => rfl
  | cons c cs ih =>
    rw [List.map_cons, List.countP_cons, List.countP_cons, ih]
    cases c <;> rfl
noncomputable def Fits (T : Half) : Prop := 1 ≤ T.m ∧ T.m ≤ 9 ∧ T.ws.length ≤ 9 ∧ T.cs.length ≤ 8 ∧ ∀ c ∈ T.cs, c.cs.length ≤ 81
end L4

set_option Elab.async false
set_option linter.all false
set_option maxRecDepth 100000
set_option maxHeartbeats 4000000
namespace L4
open PySem L2 PySem.StrLaws
theorem join_codes (y p q : Str) (r : List Str) : (Str.join y (p :: q :: r)).cps.toList = p.cps.toList ++ (y.cps.toList ++ (Str.join y (q :: r)).cps.toList) := by
  show ((p ++ y) ++ Str.join y (q :: r)).cps.toList = _
  simp [Str.cps_append]
theorem at_codes {x y : Str} {k : Nat} : At x y x.length k ↔ k + y.length ≤ x.length ∧ (x.cps.toList.drop k).take y.length = y.cps.toList := by
  unfold At
  rw [subAt_eq]
  constructor
  · rintro ⟨a, b⟩
    exact ⟨a, eq_of_beq b⟩
  · rintro ⟨a, b⟩
    exact ⟨a, beq_iff_eq.mpr b⟩
theorem at_head {x y : Str} {c k : Nat} {yt : List Nat} (hy : y.cps.toList = c :: yt) (h : At x y x.length k) : x.cps.toList[k]? = some c := by
  have e := (at_codes.mp h).2
  have hl : y.length = (c :: yt).length := by rw [← hy]; simp [Str.length]
  rw [hy, hl] at e
  have e0 := congrArg (fun l => l[0]?) e
  simpa using e0
theorem sub_codes {x : Str} {a b : Nat} : (Builtin.Str.strSub x a b).cps.toList = (x.cps.toList.drop a).take (b - a) := strSub_toList ..
theorem str_of_codes {p q : Str} (h : p.cps.toList = q.cps.toList) : p = q := by
  apply Str.ext'
  exact Array.toList_inj.mp h
theorem chain_parts {x y : Str} {c : Nat} {yt : List Nat} (hy : y.cps.toList = c :: yt) : ∀ (ps : List Str) (a f : Nat) (cuts : List Nat), ps ≠ [] → (∀ p ∈ ps, c ∉ p.cps.toList) → a ≤ x.length →
    x.cps.toList.drop a = (Str.join y ps).cps.toList → ChainG x y x.length a cuts f → (∀ k, f ≤ k → ¬ At x y x.length k) → partsFrom x y.length a cuts = ps
  | [], _, _, _, h, _, _, _, _, _ => absurd rfl h
  | [p], a, f, cuts, _, fr, ha, hd, ch, hn => by
    have hx : x.cps.toList.length = x.length := by simp [Str.length]
    have hd' : x.cps.toList.drop a = p.cps.toList := hd
    cases cuts with
    | nil =>
      show [Builtin.Str.strSub x a x.length] = [p]
      congr 1
      apply str_of_codes
      rw [sub_codes, ← hd', List.take_of_length_le]
      rw [List.length_drop, hx]
      exact Nat.le_refl _
    | cons d r =>
      exfalso
      obtain ⟨h1, h2, _⟩ := ch
      have h3 := at_head hy h2
      apply fr p List.mem_cons_self
      rw [← hd']
      have : (x.cps.toList.drop a)[d - a]? = some c := by rw [List.getElem?_drop]; rw [show a + (d - a) = d by walk_at "om"]; exact h3
      exact List.mem_of_getElem? this
  | p :: q :: r, a, f, cuts, _, fr, ha, hd, ch, hn => by
    have hx : x.cps.toList.length = x.length := by simp [Str.length]
    rw [join_codes] at hd
    have hyl : y.length = y.cps.toList.length := by simp [Str.length]
    have hlen := congrArg List.length hd
    rw [List.length_drop, hx, List.length_append, List.length_append, ← hyl] at hlen
    have hA : At x y x.length (a + p.cps.toList.length) := by
      refine at_codes.mpr ⟨by walk_at "om", ?_⟩
      rw [← List.drop_drop, hd, List.drop_left, hyl, List.take_left]
    have before : ∀ k, a ≤ k → k < a + p.cps.toList.length → ¬ At x y x.length k := fun k k1 k2 hk => by
      have h3 := at_head hy hk
      apply fr p List.mem_cons_self
      have : (x.cps.toList.drop a)[k - a]? = some c := by rw [List.getElem?_drop]; rw [show a + (k - a) = k by walk_at "om"]; exact h3
      rw [hd, List.getElem?_append_left (by walk_at "om")] at this
      exact List.mem_of_getElem? this
    cases cuts with
    | nil =>
      have e : f = a := ch
      exact absurd hA (hn _ (by walk_at "om"))
    | cons d s =>
      obtain ⟨h1, h2, h3, h4⟩ := ch
      have ed : d = a + p.cps.toList.length := by
        by_cases z : d < a + p.cps.toList.length
        · exact absurd h2 (before d h1 z)
        · by_cases z2 : a + p.cps.toList.length < d
          · exact absurd hA (h3 _ (by walk_at "om") z2)
          · walk_at "om"
      subst ed
      have ih := chain_parts hy (q :: r) (a + p.cps.toList.length + y.length) f s (by simp) (fun z hz => fr z (List.mem_cons_of_mem _ hz)) hA.1 (by
        rw [← List.drop_drop, ← List.drop_drop, hd, List.drop_left, hyl, List.drop_left]) h4 hn
      show Builtin.Str.strSub x a (a + p.cps.toList.length) :: partsFrom x y.length (a + p.cps.toList.length + y.length) s = p :: q :: r
      rw [ih]
      congr 1
      apply str_of_codes
      rw [sub_codes, hd, show a + p.cps.toList.length - a = p.cps.toList.length by walk_at "om", List.take_left]
theorem split_join {y : Str} {c : Nat} {yt : List Nat} (hy : y.cps.toList = c :: yt) (hk : Builtin.Str.strKind y = 1) {ps : List Str} (hne : ps ≠ []) (fr : ∀ p ∈ ps, c ∉ p.cps.toList) :
    Txt.split (Txt.join y ps) y = ps := by
  have ej : Txt.join y ps = Str.join y ps := glued_eq_join _ _
  rw [ej]
  generalize hx : Str.join y ps = x
  have hyl : y.length = yt.length + 1 := by
    have : y.length = y.cps.toList.length := by simp [Str.length]
    rw [this, hy]; rfl
  obtain ⟨f, hG, hn⟩ := occ_tight x y (by walk_at "om")
  have key := chain_parts hy ps 0 f _ hne fr (Nat.zero_le _) (by rw [List.drop_zero, hx]) hG hn
  have one : (x.length < y.length → [x] = ps) := fun hlt => by
    match ps, hne with
    | [p], _ => rw [← hx]; rfl
    | p :: q :: r, _ =>
      exfalso
      have := congrArg List.length (join_codes y p q r)
      rw [hx] at this
      have hxl : x.cps.toList.length = x.length := by simp [Str.length]
      have hyl2 : y.cps.toList.length = y.length := by simp [Str.length]
      rw [hxl, List.length_append, List.length_append, hyl2] at this
      walk_at "om"
  have knd : 1 ≤ Builtin.Str.strKind x := by
    unfold Builtin.Str.strKind
    split
    · walk_at "om"
    · split <;> walk_at "om"
  unfold Txt.split
  split
  · rename_i hc
    rw [Bool.or_eq_true, decide_eq_true_eq, decide_eq_true_eq] at hc
    rcases hc with h | h
    · exact one h
    · rw [hk] at h
      walk_at "om"
  · split
    · rename_i he
      have e0 : Builtin.Str.occurrences x y 0 x.length (x.length + 1) = [] := List.isEmpty_iff.mp he
      rw [e0] at key
      rw [← key]
      show [x] = [Builtin.Str.strSub x 0 x.length]
      rw [sub_whole]
    · rw [partsBetween_eq]
      exact key
noncomputable def fig (d : Int) : Str := Str.ofString (toString d)
noncomputable def figures : Str := Str.ofString "0123456789"
theorem fig_is {d : Int} (h0 : 0 ≤ d) (h9 : d ≤ 9) : (fig d).length = 1 ∧ 32 ∉ (fig d).cps.toList ∧ 59 ∉ (fig d).cps.toList ∧ Txt.find figures (fig d) = d := by
  have e : d = 0 ∨ d = 1 ∨ d = 2 ∨ d = 3 ∨ d = 4 ∨ d = 5 ∨ d = 6 ∨ d = 7 ∨ d = 8 ∨ d = 9 := by walk_at "om"
  rcases e with rfl | rfl | rfl | rfl | rfl | rfl | rfl | rfl | rfl | rfl <;> decide +kernel
end L4

set_option Elab.async false
set_option linter.all false
set_option maxRecDepth 100000
set_option maxHeartbeats 4000000
namespace L4
open PySem L2 PySem.StrLaws
noncomputable def Small (x : Str) : Prop := ∀ c ∈ x.cps.toList, 97 ≤ c ∧ c ≤ 122
noncomputable def IsName (x : Str) : Prop := 2 ≤ x.length ∧ x.length ≤ 8 ∧ Small x
noncomputable def CellOk (m : Int) (o : Option Int) : Prop := ∀ i, o = some i → 0 ≤ i ∧ i < m
structure GoodC (m : Int) (c : Conn) : Prop where
  nm : IsName c.nm
  p0 : 0 ≤ c.pl
  p2 : c.pl ≤ 2
  len : (c.cs.length : Int) = m ^ c.pl.toNat
  cells : ∀ o ∈ c.cs, CellOk m o
structure Good (T : Half) : Prop where
  m1 : 1 ≤ T.m
  m9 : T.m ≤ 9
  ws : ∀ w ∈ T.ws, 0 ≤ w ∧ w < T.m
  rising : T.ws.Pairwise (· < ·)
  wl : T.ws.length ≤ 9
  few : T.cs.length ≤ 8
  nd : (T.cs.map (·.nm)).Nodup
  each : ∀ c ∈ T.cs, GoodC T.m c
noncomputable def Full (T : Half) : Prop := ∀ c ∈ T.cs, ∀ o ∈ c.cs, o ≠ none
theorem len_codes (x : Str) : x.cps.toList.length = x.length := by simp [Str.length]
theorem slice7 (x : Str) : (Txt.slice x none (some 7)).cps.toList = x.cps.toList.take 7 := by
  by_cases h : (7 : Int) ≤ x.length
  · have := beq_iff_eq.mp (PyProof.Rows.slice_closes_toL (x := x) (j := 7) (by decide) h)
    rw [this]
    simp
  · rw [PyProof.Rows.slice_to_beyond (by walk_at "om"), beq_iff_eq.mp (PyProof.Rows.slice_closes_toL (x := x) (j := (x.length : Int)) (by walk_at "om") (Int.le_refl _))]
    have hl := len_codes x
    rw [List.take_of_length_le (l := x.cps.toList) (i := 7) (by walk_at "om")]
    show ((x.cps.toList.drop 0).take ((x.length : Int) - 0).toNat).toArray.toList = _
    rw [List.drop_zero, show ((x.length : Int) - 0).toNat = x.cps.toList.length by walk_at "om", List.take_length]
theorem glue_codes (z : Str) (c : Nat) : (glue z c).cps.toList = z.cps.toList ++ [c] := by
  show (z ++ ⟨#[c]⟩ : Str).cps.toList = _
  simp [Str.cps_append]
theorem glue_name {z : Str} {c : Nat} (h : IsName z) (h0 : 97 ≤ c) (h1 : c ≤ 122) : IsName (glue (Txt.slice z none (some 7)) c) := by
  obtain ⟨a, b, s⟩ := h
  have e := glue_codes (Txt.slice z none (some 7)) c
  rw [slice7] at e
  have hl := len_codes (glue (Txt.slice z none (some 7)) c)
  have hz := len_codes z
  rw [e, List.length_append, List.length_take, List.length_singleton] at hl
  refine ⟨by walk_at "om", by walk_at "om", fun d hd => ?_⟩
  rw [e] at hd
  rcases List.mem_append.mp hd with q | q
  · exact s d (List.mem_of_mem_take q)
  · rw [List.mem_singleton.mp q]
    exact ⟨h0, h1⟩
theorem join0_codes : ∀ cs : List Nat, (Txt.join (Str.ofString "") (cs.map fun c => (⟨#[c]⟩ : Str))).cps.toList = cs := by
  intro cs
  have e2 : ∀ ps, Txt.join (Str.ofString "") ps = Str.join (Str.ofString "") ps := fun ps => glued_eq_join _ _
  rw [e2]
  have e0 : (Str.ofString "").cps.toList = [] := by decide +kernel
  induction cs with
  | nil => rfl
  | cons c cs ih =>
    cases cs with
    | nil => rfl
    | cons d ds =>
      rw [List.map_cons, List.map_cons, join_codes, e0, List.nil_append]
      rw [List.map_cons] at ih
      rw [ih]
      rfl
theorem Small.free {x : Str} (h : Small x) : 32 ∉ x.cps.toList ∧ 59 ∉ x.cps.toList := by
  refine ⟨fun z => ?_, fun z => ?_⟩
  · have := (h _ z).1
    walk_at "om"
  · have := (h _ z).1
    walk_at "om"
theorem name_words : IsName (Str.ofString "grades") ∧ IsName (Str.ofString "wished") := by
  refine ⟨⟨by decide +kernel, by decide +kernel, ?_⟩, ⟨by decide +kernel, by decide +kernel, ?_⟩⟩
  · unfold Small
    decide +kernel
  · unfold Small
    decide +kernel
theorem Conns.same {H H' : Hp} (k : Same H H') {cs : List Conn} {vs : List V} (h : Conns H cs vs) : Conns H' cs vs := h.tk (Tk.of k)
theorem IsHalf.same {H H' : Hp} {v : V} {T : Half} (k : Same H H') (h : IsHalf H v T) : IsHalf H' v T := h.tk (Tk.of k)
noncomputable def gsOf (c : Conn) : List Int := c.cs.map fun o => o.getD 0
theorem full_cells : ∀ {cs : List (Option Int)}, (∀ o ∈ cs, o ≠ none) → cs.map cellV = (cs.map fun o => o.getD 0).map V.int
  | [], _ => rfl
  | none :: cs, h => absurd rfl (h none List.mem_cons_self)
  | some i :: cs, h => by
    rw [List.map_cons, List.map_cons, List.map_cons, full_cells fun o ho => h o (List.mem_cons_of_mem _ ho)]
    rfl
noncomputable def sp1 : Str := Str.ofString " "
noncomputable def sp2 : Str := Str.ofString "; "
noncomputable def wordsOf (w : Str) (ns : List Int) : List Str := w :: ns.map fig
noncomputable def partOf (w : Str) (ns : List Int) : Str := Txt.join sp1 (wordsOf w ns)
noncomputable def wordsC (c : Conn) : List Str := wordsOf c.nm (c.pl :: gsOf c)
noncomputable def wordsT (T : Half) : List (List Str) := wordsOf (Str.ofString "grades") [T.m] :: wordsOf (Str.ofString "wished") T.ws :: T.cs.map wordsC
noncomputable def partsT (T : Half) : List Str := (wordsT T).map (Txt.join sp1)
noncomputable def textT (T : Half) : Str := Txt.join sp2 (partsT T)
noncomputable def Fig (i : Int) : Prop := 0 ≤ i ∧ i ≤ 9
theorem Good.figs {T : Half} (g : Good T) : ∀ ws ∈ wordsT T, ∃ w ns, ws = wordsOf w ns ∧ IsName w ∧ (∀ i ∈ ns, Fig i) ∧ ns.length ≤ 82 := by
  intro ws h
  have hm := g.m9
  have hm1 := g.m1
  rcases List.mem_cons.mp h with rfl | h
  · exact ⟨_, _, rfl, name_words.1, fun i hi => by rw [List.mem_singleton.mp hi]; exact ⟨by walk_at "om", hm⟩, by show 1 ≤ 82; decide⟩
  rcases List.mem_cons.mp h with rfl | h
  · exact ⟨_, _, rfl, name_words.2, fun i hi => by have := g.ws i hi; exact ⟨this.1, by walk_at "om"⟩, by have := g.wl; walk_at "om"⟩
  · obtain ⟨c, hc, rfl⟩ := List.mem_map.mp h
    have gc := g.each c hc
    refine ⟨_, _, rfl, gc.nm, fun i hi => ?_, ?_⟩
    · rcases List.mem_cons.mp hi with rfl | hi
      · exact ⟨gc.p0, by have := gc.p2; walk_at "om"⟩
      · obtain ⟨o, ho, rfl⟩ := List.mem_map.mp hi
        have k := gc.cells o ho
        cases o with
        | none => exact ⟨by decide, by decide⟩
        | some j => have := k j rfl; exact ⟨this.1, by show j ≤ 9; walk_at "om"⟩
    · have hl := gc.len
      have e : c.pl.toNat = 0 ∨ c.pl.toNat = 1 ∨ c.pl.toNat = 2 := by have := gc.p2; walk_at "om"
      have hb : T.m ^ c.pl.toNat ≤ 81 := by
        have hmm : T.m * T.m ≤ 81 := Int.le_trans (Int.mul_le_mul_of_nonneg_right hm (by walk_at "om")) (by walk_at "om")
        rcases e with e | e | e <;> rw [e]
        · rw [Int.pow_zero]; decide
        · rw [Int.pow_succ, Int.pow_zero, Int.one_mul]; walk_at "om"
        · rw [Int.pow_succ, Int.pow_succ, Int.pow_zero, Int.one_mul]; exact hmm
      show (c.pl :: gsOf c).length ≤ 82
      rw [List.length_cons]
      unfold gsOf
      rw [List.length_map]
      walk_at "om"
theorem words_free {w : Str} {ns : List Int} (hw : IsName w) (h : ∀ i ∈ ns, Fig i) {x : Str} (hx : x ∈ wordsOf w ns) : 32 ∉ x.cps.toList ∧ 59 ∉ x.cps.toList := by
  rcases List.mem_cons.mp hx with rfl | hx
  · exact hw.2.2.free
  · obtain ⟨i, hi, rfl⟩ := List.mem_map.mp hx
    have := fig_is (h i hi).1 (h i hi).2
    exact ⟨this.2.1, this.2.2.1⟩
theorem join_free {c : Nat} {y : Str} (hy : c ∉ y.cps.toList) : ∀ ps : List Str, (∀ p ∈ ps, c ∉ p.cps.toList) → c ∉ (Txt.join y ps).cps.toList := by
  intro ps h
  have ej : Txt.join y ps = Str.join y ps := glued_eq_join _ _
  rw [ej]
  induction ps with
  | nil => intro z; exact absurd z (by show c ∉ (Str.empty).cps.toList; simp [Str.empty])
  | cons p ps ih =>
    cases ps with
    | nil => exact h p List.mem_cons_self
    | cons q r =>
      rw [join_codes]
      intro z
      rcases List.mem_append.mp z with z | z
      · exact h p List.mem_cons_self z
      rcases List.mem_append.mp z with z | z
      · exact hy z
      · exact ih (fun a ha => h a (List.mem_cons_of_mem _ ha)) (glued_eq_join _ _) z
theorem text_split {T : Half} (g : Good T) : Txt.split (textT T) sp2 = partsT T := by
  refine split_join (c := 59) (yt := [32]) (by decide +kernel) (by decide +kernel) (by simp [partsT, wordsT]) fun p hp => ?_
  obtain ⟨ws, hws, rfl⟩ := List.mem_map.mp hp
  obtain ⟨w, ns, rfl, h1, h2, _⟩ := g.figs ws hws
  exact join_free (by decide +kernel) _ fun x hx => (words_free h1 h2 hx).2
theorem sum_ones : ∀ ns : List Int, (∀ i ∈ ns, Fig i) → ((ns.map fig).map (·.length)).sum = ns.length
  | [], _ => rfl
  | i :: ns, h => by
    have := (fig_is (h i List.mem_cons_self).1 (h i List.mem_cons_self).2).1
    rw [List.map_cons, List.map_cons, List.sum_cons, sum_ones ns fun j hj => h j (List.mem_cons_of_mem _ hj), List.length_cons]
    walk_at "om"
theorem part_len {w : Str} {ns : List Int} (hw : IsName w) (h : ∀ i ∈ ns, Fig i) (hl : ns.length ≤ 82) : ((wordsOf w ns).map (·.length)).sum + (wordsOf w ns).length * sp1.length ≤ 200 ∧ (partOf w ns).length ≤ 200 := by
  have e : sp1.length = 1 := by decide +kernel
  have b : ((wordsOf w ns).map (·.length)).sum + (wordsOf w ns).length * sp1.length ≤ 200 := by
    unfold wordsOf
    rw [List.map_cons, List.sum_cons, sum_ones ns h, List.length_cons, List.length_map, e]
    have := hw.2.1
    walk_at "om"
  refine ⟨b, ?_⟩
  have j := StrLaws.join_length_le sp1 (wordsOf w ns)
  have ej : Txt.join sp1 (wordsOf w ns) = Str.join sp1 (wordsOf w ns) := glued_eq_join _ _
  unfold partOf
  rw [ej]
  walk_at "om"
theorem sum_le : ∀ (ps : List Str), (∀ p ∈ ps, p.length ≤ 200) → (ps.map (·.length)).sum ≤ ps.length * 200
  | [], _ => Nat.zero_le _
  | p :: ps, h => by
    have h1 := h p List.mem_cons_self
    have h2 := sum_le ps fun q hq => h q (List.mem_cons_of_mem _ hq)
    rw [List.map_cons, List.sum_cons, List.length_cons]
    walk_at "om"
theorem parts_len {T : Half} (g : Good T) : (∀ p ∈ partsT T, p.length ≤ 200) ∧ (partsT T).length ≤ 10 := by
  refine ⟨fun p hp => ?_, ?_⟩
  · obtain ⟨ws, hws, rfl⟩ := List.mem_map.mp hp
    obtain ⟨w, ns, rfl, h1, h2, h3⟩ := g.figs ws hws
    exact (part_len h1 h2 h3).2
  · have := g.few
    unfold partsT wordsT
    rw [List.length_map, List.length_cons, List.length_cons, List.length_map]
    walk_at "om"
theorem text_len {T : Half} (g : Good T) : ((partsT T).map (·.length)).sum + (partsT T).length * sp2.length ≤ 2100 ∧ (textT T).length ≤ 2100 := by
  have e : sp2.length = 2 := by decide +kernel
  obtain ⟨h1, h2⟩ := parts_len g
  have hs := sum_le _ h1
  have b : ((partsT T).map (·.length)).sum + (partsT T).length * sp2.length ≤ 2100 := by
    rw [e]
    walk_at "om"
  refine ⟨b, ?_⟩
  have j := StrLaws.join_length_le sp2 (partsT T)
  have ej : Txt.join sp2 (partsT T) = Str.join sp2 (partsT T) := glued_eq_join _ _
  unfold textT
  rw [ej]
  walk_at "om"
end L4

set_option Elab.async false
set_option linter.all false
set_option maxRecDepth 100000
set_option maxHeartbeats 4000000
namespace L4
open PySem L2
theorem map_tup {α : Type} {K : PySem.W.Frag} {a D : Addr} {t : Nat} {te : TE} {σ0 : St} {H1 : Hp} {Q : VK} (as : List α) (g h : α → V) (ha : H1 a = some (.tup (as.map g))) (hl : as.length ≤ 1000) (hD : H1 D = none)
    (he : ∀ z ∈ as, ∀ H' Q', Same H1 H' → (∀ H'', Same H' H'' → Q' (h z) H'') → te (σ0.set t (some (g z))) H' Q')
    (q : ∀ H', Same H1 H' → H' D = some (.lst (as.map h)) → Q (.ref D) H') : CompGo (Itt K a) (gName t) tYes te σ0 H1 Q D := by
  refine comp_tup (xs := as.map g) (fun i ys H' => Same H1 H' ∧ ys = (as.take i).map h) ⟨same_new hD _, rfl⟩ (fun i ys H' hh _ => SqT.of (hh.1 _ _ ha)) ?_ ?_
  · rintro i ys H' x hx ⟨s1, rfl⟩ hD'
    have hi : i < (as.map g).length := (List.getElem?_eq_some_iff.mp hx).1
    rw [List.getElem?_map] at hx
    obtain ⟨z, hz, rfl⟩ := Option.map_eq_some_iff.mp hx
    refine yes (he z (List.mem_of_getElem? hz) H' _ s1 fun H'' s2 => ?_)
    rw [List.length_map] at hi
    refine cyes (by rw [List.length_map]; exact hi) rset1 (s2 _ _ hD') (by rw [List.length_map, List.length_take]; exact small1000 (by walk_at "om")) ⟨fun b o qb => ?_, ?_⟩
    · rw [upd_ne (ne_of_none qb hD)]
      exact s2 b o (s1 b o qb)
    · rw [take_snoc hz, List.map_append]
      rfl
  · rintro ys H' ⟨s1, rfl⟩ hD'
    rw [List.length_map, List.take_length] at hD'
    exact q H' s1 hD'
theorem map_list {α : Type} {K : PySem.W.Frag} {a D : Addr} {t : Nat} {te : TE} {σ0 : St} {H1 : Hp} {Q : VK} (as : List α) (g h : α → V) (ha : H1 a = some (.lst (as.map g))) (hl : as.length ≤ 1000) (hD : H1 D = none)
    (he : ∀ z ∈ as, ∀ H' Q', Same H1 H' → (∀ H'', Same H' H'' → Q' (h z) H'') → te (σ0.set t (some (g z))) H' Q')
    (q : ∀ H', Same H1 H' → H' D = some (.lst (as.map h)) → Q (.ref D) H') : CompGo (Itl K a) (gName t) tYes te σ0 H1 Q D := by
  refine comp_list (xs := as.map g) (fun i ys H' => Same H1 H' ∧ ys = (as.take i).map h) ⟨same_new hD _, rfl⟩ (fun i ys H' hh _ => SqL.of (hh.1 _ _ ha)) ?_ ?_
  · rintro i ys H' x hx ⟨s1, rfl⟩ hD'
    have hi : i < (as.map g).length := (List.getElem?_eq_some_iff.mp hx).1
    rw [List.getElem?_map] at hx
    obtain ⟨z, hz, rfl⟩ := Option.map_eq_some_iff.mp hx
    refine yes (he z (List.mem_of_getElem? hz) H' _ s1 fun H'' s2 => ?_)
    rw [List.length_map] at hi
    refine cyes (by rw [List.length_map]; exact hi) rset1 (s2 _ _ hD') (by rw [List.length_map, List.length_take]; exact small1000 (by walk_at "om")) ⟨fun b o qb => ?_, ?_⟩
    · rw [upd_ne (ne_of_none qb hD)]
      exact s2 b o (s1 b o qb)
    · rw [take_snoc hz, List.map_append]
      rfl
  · rintro ys H' ⟨s1, rfl⟩ hD'
    rw [List.length_map, List.take_length] at hD'
    exact q H' s1 hD'
theorem map_str {z : Str} {D : Addr} {t : Nat} {te : TE} {σ0 : St} {H1 : Hp} {Q : VK} (h : Nat → V) (hl : z.length ≤ 1000) (hD : H1 D = none)
    (he : ∀ c ∈ z.cps.toList, ∀ H' Q', Same H1 H' → (∀ H'', Same H' H'' → Q' (h c) H'') → te (σ0.set t (some (.str ⟨#[c]⟩))) H' Q')
    (q : ∀ H', Same H1 H' → H' D = some (.lst (z.cps.toList.map h)) → Q (.ref D) H') : CompGo (Its z) (gName t) tYes te σ0 H1 Q D := by
  refine comp_str (fun i ys H' => Same H1 H' ∧ ys = (z.cps.toList.take i).map h) ⟨same_new hD _, rfl⟩ ?_ ?_
  · rintro i ys H' c hc ⟨s1, rfl⟩ hD'
    have hi : i < z.cps.size := (Array.getElem?_eq_some_iff.mp hc).1
    have hc' : z.cps.toList[i]? = some c := by simpa using hc
    have hs : z.cps.size = z.length := rfl
    refine yes (he c (List.mem_of_getElem? hc') H' _ s1 fun H'' s2 => ?_)
    refine cyes hi rset1 (s2 _ _ hD') (by rw [List.length_map, List.length_take]; exact small1000 (by walk_at "om")) ⟨fun b o qb => ?_, ?_⟩
    · rw [upd_ne (ne_of_none qb hD)]
      exact s2 b o (s1 b o qb)
    · rw [take_snoc hc', List.map_append]
      rfl
  · rintro ys H' ⟨s1, rfl⟩ hD'
    rw [List.take_of_length_le (by simp)] at hD'
    exact q H' s1 hD'
theorem trues {α : Type} (as : List α) : as.map (fun _ => V.bl true) = (as.map fun _ => true).map V.bl := by rw [List.map_map]; rfl
theorem all_trues {α : Type} (as : List α) : (as.map fun _ => true).all id = true := by
  rw [List.all_eq_true]
  intro x hx
  obtain ⟨_, _, rfl⟩ := List.mem_map.mp hx
  rfl
theorem Same.rfl' {H : Hp} : Same H H := fun _ _ h => h
end L4

set_option Elab.async false
set_option linter.all false
set_option maxRecDepth 100000
set_option maxHeartbeats 4000000
namespace L4
open PySem L2 PySem.StrLaws
inductive Th where
  | non
  | bl (b : Bool)
  | int (i : Int)
  | str (x : Str)
  | lst
  | dct
  | tup (ts : List Th)
inductive IsTh (H : Hp) : Th → V → Prop where
  | non : IsTh H .non .non
  | bl (b : Bool) : IsTh H (.bl b) (.bl b)
  | int (i : Int) : IsTh H (.int i) (.int i)
  | str (x : Str) (h : x.length ≤ 3000) : IsTh H (.str x) (.str x)
  | lst {a : Addr} {xs : List V} (e : H a = some (.lst xs)) : IsTh H .lst (.ref a)
  | dct {a : Addr} {kvs : List (Key × V)} (e : H a = some (.dK kvs)) : IsTh H .dct (.ref a)
  | tup {a : Addr} {ts : List Th} {xs : List V} (e : H a = some (.tup xs)) (hl : ts.length = xs.length) (h8 : ts.length ≤ 1000) (hi : ∀ (i : Nat) (t : Th) (x : V), ts[i]? = some t → xs[i]? = some x → IsTh H t x) : IsTh H (.tup ts) (.ref a)
theorem IsTh.same {H H' : Hp} (s : Same H H') {t : Th} {v : V} (h : IsTh H t v) : IsTh H' t v := by
  induction h with
  | non => exact .non
  | bl b => exact .bl b
  | int i => exact .int i
  | str x h => exact .str x h
  | lst e => exact .lst (s _ _ e)
  | dct e => exact .dct (s _ _ e)
  | tup e hl h8 hi ih => exact .tup (s _ _ e) hl h8 ih
noncomputable def tyTh : Th → Value
  | .non => .type "NoneType"
  | .bl _ => .type "bool"
  | .int _ => .type "int"
  | .str _ => .type "str"
  | .lst => .type "list"
  | .dct => .type "dict"
  | .tup _ => .type "tuple"
theorem IsTh.ty {K : PySem.W.Frag} {H : Hp} {t : Th} {v : V} (h : IsTh H t v) : TyOf K H v (tyTh t) := by
  cases h with
  | non => exact .non
  | bl b => exact .bl b
  | int i => exact .int i
  | str x h => exact .str x
  | lst e => exact .lst e
  | dct e => exact .dK e
  | tup e hl h8 hi => exact .tup e
noncomputable def isIntB : Th → Bool
  | .bl _ => true
  | .int _ => true
  | _ => false
noncomputable def isBoolB : Th → Bool
  | .bl _ => true
  | _ => false
noncomputable def isStrB : Th → Bool
  | .str _ => true
  | _ => false
noncomputable def isTupB : Th → Bool
  | .tup _ => true
  | _ => false
theorem kit_int {K : PySem.W.Frag} (t : Th) : PySem.W.kitOne K (tyTh t) (.type "int") = some (isIntB t) := by cases t <;> first | rfl | exact kit_same _
theorem kit_bool {K : PySem.W.Frag} (t : Th) : PySem.W.kitOne K (tyTh t) (.type "bool") = some (isBoolB t) := by cases t <;> first | rfl | exact kit_same _
theorem kit_str {K : PySem.W.Frag} (t : Th) : PySem.W.kitOne K (tyTh t) (.type "str") = some (isStrB t) := by cases t <;> first | rfl | exact kit_same _
theorem kit_tup {K : PySem.W.Frag} (t : Th) : PySem.W.kitOne K (tyTh t) (.type "tuple") = some (isTupB t) := by cases t <;> first | rfl | exact kit_same _
noncomputable def smallB (x : Str) : Bool := x.cps.toList.all fun c => decide (97 ≤ c) && decide (c ≤ 122)
noncomputable def wholeB : Th → Bool
  | .int _ => true
  | _ => false
noncomputable def nameB : Th → Bool
  | .str x => decide (2 ≤ x.length) && decide (x.length ≤ 8) && smallB x
  | _ => false
noncomputable def gradeB (m : Int) : Th → Bool
  | .int i => decide (0 ≤ i) && decide (i < m)
  | _ => false
noncomputable def intTh : Th → Int
  | .int i => i
  | _ => 0
noncomputable def strTh : Th → Str
  | .str x => x
  | _ => ""
noncomputable def risB : List Int → Bool
  | x :: y :: r => decide (x < y) && risB (y :: r)
  | _ => true
noncomputable def risingB (m : Int) : Th → Bool
  | .tup ts => ts.all (gradeB m) && risB (ts.map intTh)
  | _ => false
noncomputable def cellB (m : Int) : Th → Bool
  | .non => true
  | t => gradeB m t
noncomputable def cellsB (m n : Int) : Th → Bool
  | .tup ts => decide ((ts.length : Int) = n) && ts.all (cellB m)
  | _ => false
noncomputable def conn3 (m : Int) : List Th → Bool
  | [a, b, c] => nameB a && (wholeB b && (decide (0 ≤ intTh b) && decide (intTh b ≤ 2)) && cellsB m (m ^ (intTh b).toNat) c)
  | _ => false
noncomputable def connB (m : Int) : Th → Bool
  | .tup ts => conn3 m ts
  | _ => false
noncomputable def headTh : Th → Th
  | .tup (a :: _) => a
  | _ => .non
noncomputable def connsB (m : Int) : Th → Bool
  | .tup ts => decide (ts.length ≤ 8) && ts.all (connB m) && decide ((ts.map fun t => strTh (headTh t)).Nodup)
  | _ => false
noncomputable def half3 : List Th → Bool
  | [a, b, c] => wholeB a && (decide (1 ≤ intTh a) && decide (intTh a ≤ 9)) && (risingB (intTh a) b && connsB (intTh a) c)
  | _ => false
noncomputable def halfB : Th → Bool
  | .tup ts => half3 ts
  | _ => false
end L4

set_option Elab.async false
set_option linter.all false
set_option maxRecDepth 100000
set_option maxHeartbeats 4000000
namespace L4
open PySem L2 PySem.StrLaws
theorem foldK_full {α : Type} [DecidableEq α] : ∀ (vs l : List α), (vs.foldl addK l).length = l.length + vs.length → vs.Nodup ∧ ∀ x ∈ vs, x ∉ l
  | [], _, _ => ⟨List.nodup_nil, by simp⟩
  | v :: vs, l, h => by
    rw [List.foldl_cons] at h
    have h1 := foldK_len vs (addK l v)
    have h2 := len_addK (l := l) (v := v)
    rw [List.length_cons] at h
    by_cases hv : v ∈ l
    · rw [if_pos hv] at h2
      walk_at "om"
    · rw [if_neg hv] at h2
      have ih := foldK_full vs (addK l v) (by walk_at "om")
      refine ⟨List.nodup_cons.mpr ⟨fun hm => ih.2 v hm (mem_addK.mpr (.inr rfl)), ih.1⟩, fun x hx => ?_⟩
      rcases List.mem_cons.mp hx with rfl | hx
      · exact hv
      · exact fun hl => ih.2 x hx (mem_addK.mpr (.inl hl))
theorem dedK_iff {α : Type} [DecidableEq α] (vs : List α) : (dedK vs).length = vs.length ↔ vs.Nodup := by
  constructor
  · intro h
    exact (foldK_full vs [] (by rw [List.length_nil, Nat.zero_add]; exact h)).1
  · intro h
    rw [dedK_nodup h]
theorem zip_snd {α β : Type} : ∀ (as : List α) (bs : List β), as.length = bs.length → (as.zip bs).map Prod.snd = bs
  | [], [], _ => rfl
  | a :: as, b :: bs, h => by
    rw [List.zip_cons_cons, List.map_cons, zip_snd as bs (by simpa using h)]
theorem zip_fst {α β γ : Type} (f : α → γ) : ∀ (as : List α) (bs : List β), as.length = bs.length → (as.zip bs).map (fun p => f p.1) = as.map f
  | [], [], _ => rfl
  | a :: as, b :: bs, h => by
    rw [List.zip_cons_cons, List.map_cons, List.map_cons, zip_fst f as bs (by simpa using h)]
theorem zip_mem {H : Hp} {ts : List Th} {a : Addr} {xs : List V} (h : IsTh H (.tup ts) (.ref a)) (e : H a = some (.tup xs)) {p : Th × V} (hp : p ∈ ts.zip xs) : IsTh H p.1 p.2 := by
  obtain ⟨i, hi⟩ := List.getElem?_of_mem hp
  rw [List.getElem?_zip_eq_some] at hi
  cases h with
  | tup e' hl h8 hh =>
    rw [e] at e'
    cases e'
    exact hh i _ _ hi.1 hi.2
theorem zip_of_get {H : Hp} {ts : List Th} {v : V} (h : IsTh H (.tup ts) v) : ∃ (a : Addr) (xs : List V), v = .ref a ∧ H a = some (.tup xs) ∧ ts.length = xs.length ∧ ts.length ≤ 1000 := by
  cases h with
  | tup e hl h8 hi => exact ⟨_, _, rfl, e, hl, h8⟩
theorem all_map_id {α : Type} (f : α → Bool) (as : List α) : (as.map f).all id = as.all f := by
  rw [List.all_map]
  rfl
theorem ris_zip : ∀ ws : List Int, ((ws.zip (ws.drop 1)).map fun p => decide (p.1 < p.2)).all id = risB ws
  | [] => rfl
  | [x] => rfl
  | x :: y :: r => by
    have ih := ris_zip (y :: r)
    show ((decide (x < y)) :: (((y :: r).zip r).map fun p => decide (p.1 < p.2))).all id = (decide (x < y) && risB (y :: r))
    rw [List.all_cons, ← ih]
    rfl
theorem all_ints {H : Hp} {m : Int} : ∀ {ts : List Th} {xs : List V}, ts.length = xs.length → (∀ p ∈ ts.zip xs, IsTh H p.1 p.2) → ts.all (gradeB m) = true → xs = (ts.map intTh).map V.int
  | [], [], _, _, _ => rfl
  | t :: ts, x :: xs, hl, h, ha => by
    rw [List.all_cons, Bool.and_eq_true] at ha
    have ih := all_ints (by simpa using hl) (fun p hp => h p (by rw [List.zip_cons_cons]; exact List.mem_cons_of_mem _ hp)) ha.2
    have h0 := h (t, x) (by rw [List.zip_cons_cons]; exact List.mem_cons_self)
    rw [List.map_cons, List.map_cons, ← ih]
    cases t with
    | int i => cases h0; rfl
    | _ => exact absurd ha.1 (by simp [gradeB])
theorem small_a (c : Nat) : (!decide ((Str.mk #[c]).cps.toList < (Str.ofString "a").cps.toList)) = decide (97 ≤ c) := by
  have : (Str.ofString "a").cps.toList = [97] := by decide +kernel
  rw [this, Bool.eq_iff_iff]
  simp [List.cons_lt_cons_iff]
theorem small_z (c : Nat) : (!decide ((Str.ofString "z").cps.toList < (Str.mk #[c]).cps.toList)) = decide (c ≤ 122) := by
  have : (Str.ofString "z").cps.toList = [122] := by decide +kernel
  rw [this, Bool.eq_iff_iff]
  simp [List.cons_lt_cons_iff]
theorem conn_false {m : Int} : ∀ {ts : List Th}, ts.length ≠ 3 → connB m (.tup ts) = false
  | [], _ => rfl
  | [_], _ => rfl
  | [_, _], _ => rfl
  | [_, _, _], h => absurd rfl h
  | _ :: _ :: _ :: _ :: _, _ => rfl
theorem half_false : ∀ {ts : List Th}, ts.length ≠ 3 → halfB (.tup ts) = false
  | [], _ => rfl
  | [_], _ => rfl
  | [_, _], _ => rfl
  | [_, _, _], h => absurd rfl h
  | _ :: _ :: _ :: _ :: _, _ => rfl
theorem three {α : Type} : ∀ {ts : List α}, ts.length = 3 → ∃ a b c, ts = [a, b, c]
  | [a, b, c], _ => ⟨a, b, c, rfl⟩
theorem conn_heads {H : Hp} {m : Int} {t : Th} {v : V} (h : IsTh H t v) (hc : connB m t = true) : ∃ (a : Addr) (x : Str) (rest : List V), v = .ref a ∧ H a = some (.tup (.str x :: rest)) ∧ x = strTh (headTh t) := by
  cases t with
  | tup ts =>
    by_cases hl : ts.length = 3
    · obtain ⟨a, b, c, rfl⟩ := three hl
      obtain ⟨ad, xs, rfl, e, hxl, h8⟩ := zip_of_get h
      obtain ⟨x, y, z, rfl⟩ := three (hxl.symm.trans hl)
      have h0 := zip_mem h e (p := (a, x)) (by simp)
      cases a with
      | str s => cases h0; exact ⟨ad, s, _, rfl, e, rfl⟩
      | _ => exact absurd hc (by simp [connB, conn3, nameB])
    · rw [conn_false hl] at hc
      cases hc
  | _ => cases hc
end L4

set_option Elab.async false
set_option linter.all false
set_option maxRecDepth 100000
set_option maxHeartbeats 4000000
namespace L4
open PySem L2 PySem.StrLaws
noncomputable def isNonTh : Th → Bool
  | .non => true
  | _ => false
noncomputable def third : Th → List Th
  | .tup [_, _, .tup ts] => ts
  | _ => []
noncomputable def nonesTh (t : Th) : Nat := ((third t).map fun c => (third c).countP isNonTh).sum
noncomputable def tableB (t : Th) : Bool := halfB t && decide (nonesTh t = 0)
theorem ris_head : ∀ (x : Int) (ws : List Int), risB (x :: ws) = true → (∀ z ∈ ws, x < z) ∧ risB ws = true
  | x, [], _ => ⟨by simp, rfl⟩
  | x, y :: r, h => by
    have h' : (decide (x < y) && risB (y :: r)) = true := h
    rw [Bool.and_eq_true] at h'
    have ih := ris_head y r h'.2
    have xy : x < y := of_decide_eq_true h'.1
    refine ⟨fun z hz => ?_, h'.2⟩
    rcases List.mem_cons.mp hz with rfl | hz
    · exact xy
    · have := ih.1 z hz
      walk_at "om"
theorem ris_pair : ∀ ws : List Int, risB ws = true → ws.Pairwise (· < ·)
  | [], _ => List.Pairwise.nil
  | x :: ws, h => by
    have := ris_head x ws h
    exact List.pairwise_cons.mpr ⟨this.1, ris_pair ws this.2⟩
theorem ris_len : ∀ (ws : List Int) (lo hi : Int), risB ws = true → (∀ w ∈ ws, lo ≤ w ∧ w < hi) → lo ≤ hi → (ws.length : Int) ≤ hi - lo
  | [], lo, hi, _, _, h => by show (0 : Int) ≤ _; walk_at "om"
  | x :: ws, lo, hi, h, hb, hh => by
    have hr := ris_head x ws h
    have hx := hb x List.mem_cons_self
    have := ris_len ws (x + 1) hi hr.2 (fun w hw => ⟨by have := hr.1 w hw; walk_at "om", (hb w (List.mem_cons_of_mem _ hw)).2⟩) (by walk_at "om")
    rw [List.length_cons]
    walk_at "om"
theorem cells_of {H : Hp} {m : Int} : ∀ {ts : List Th} {xs : List V}, ts.length = xs.length → (∀ p ∈ ts.zip xs, IsTh H p.1 p.2) → ts.all (cellB m) = true →
    ∃ cs : List (Option Int), xs = cs.map cellV ∧ (∀ o ∈ cs, CellOk m o) ∧ cs.countP isN = ts.countP isNonTh
  | [], [], _, _, _ => ⟨[], rfl, by simp, rfl⟩
  | t :: ts, x :: xs, hl, h, ha => by
    rw [List.all_cons, Bool.and_eq_true] at ha
    obtain ⟨cs, e, ok, cn⟩ := cells_of (by simpa using hl) (fun p hp => h p (by rw [List.zip_cons_cons]; exact List.mem_cons_of_mem _ hp)) ha.2
    have h0 := h (t, x) (by rw [List.zip_cons_cons]; exact List.mem_cons_self)
    cases t with
    | non =>
      cases h0
      refine ⟨none :: cs, by rw [List.map_cons, ← e]; rfl, fun o ho => ?_, ?_⟩
      · rcases List.mem_cons.mp ho with rfl | ho
        · exact fun i z => nomatch z
        · exact ok o ho
      · rw [List.countP_cons, List.countP_cons, cn]
        rfl
    | int i =>
      cases h0
      have hg : gradeB m (.int i) = true := ha.1
      rw [show gradeB m (.int i) = (decide (0 ≤ i) && decide (i < m)) from rfl, Bool.and_eq_true] at hg
      refine ⟨some i :: cs, by rw [List.map_cons, ← e]; rfl, fun o ho => ?_, ?_⟩
      · rcases List.mem_cons.mp ho with rfl | ho
        · intro j z
          cases z
          exact ⟨of_decide_eq_true hg.1, of_decide_eq_true hg.2⟩
        · exact ok o ho
      · rw [List.countP_cons, List.countP_cons, cn]
        rfl
    | _ => exact absurd ha.1 (by simp [cellB, gradeB])
theorem name_of {x : Str} (h : nameB (.str x) = true) : IsName x := by
  rw [show nameB (.str x) = (decide (2 ≤ x.length) && decide (x.length ≤ 8) && smallB x) from rfl, Bool.and_eq_true, Bool.and_eq_true] at h
  refine ⟨of_decide_eq_true h.1.1, of_decide_eq_true h.1.2, fun c hc => ?_⟩
  have := List.all_eq_true.mp h.2 c hc
  rw [Bool.and_eq_true] at this
  exact ⟨of_decide_eq_true this.1, of_decide_eq_true this.2⟩
theorem conn_of {H : Hp} {m : Int} {t : Th} {v : V} (h : IsTh H t v) (hc : connB m t = true) :
    ∃ (c : Conn) (a u : Addr), v = .ref a ∧ H a = some (.tup [.str c.nm, .int c.pl, .ref u]) ∧ H u = some (.tup (c.cs.map cellV)) ∧ GoodC m c ∧ c.nm = strTh (headTh t) ∧ nonesC c = (third t).countP isNonTh := by
  cases t with
  | tup ts =>
    by_cases hl : ts.length = 3
    · obtain ⟨t0, t1, t2, rfl⟩ := three hl
      obtain ⟨ad, xs, rfl, e, hxl, h8⟩ := zip_of_get h
      obtain ⟨x, y, z, rfl⟩ := three (hxl.symm.trans hl)
      have h0 := zip_mem h e (p := (t0, x)) (by simp)
      have h1 := zip_mem h e (p := (t1, y)) (by simp)
      have h2 := zip_mem h e (p := (t2, z)) (by simp)
      rw [show connB m (.tup [t0, t1, t2]) = (nameB t0 && (wholeB t1 && (decide (0 ≤ intTh t1) && decide (intTh t1 ≤ 2)) && cellsB m (m ^ (intTh t1).toNat) t2)) from rfl, Bool.and_eq_true, Bool.and_eq_true, Bool.and_eq_true, Bool.and_eq_true] at hc
      obtain ⟨hn, ⟨hw, hp0, hp2⟩, hcl⟩ := hc
      cases t0 with
      | str s =>
        cases h0
        cases t1 with
        | int p =>
          cases h1
          cases t2 with
          | tup us =>
            obtain ⟨u, zs, rfl, eu, hul, h8u⟩ := zip_of_get h2
            rw [show cellsB m (m ^ (intTh (.int p)).toNat) (.tup us) = (decide ((us.length : Int) = m ^ p.toNat) && us.all (cellB m)) from rfl, Bool.and_eq_true] at hcl
            obtain ⟨cs, ec, ok, cn⟩ := cells_of hul (fun q hq => zip_mem h2 eu hq) hcl.2
            refine ⟨⟨s, p, cs⟩, ad, u, rfl, e, by rw [eu, ec], ⟨name_of hn, of_decide_eq_true hp0, of_decide_eq_true hp2, ?_, ok⟩, rfl, cn⟩
            have e1 : (us.length : Int) = m ^ p.toNat := of_decide_eq_true hcl.1
            have e2 : cs.length = us.length := by rw [hul, ec, List.length_map]
            show (cs.length : Int) = m ^ p.toNat
            rw [e2, e1]
          | _ => cases hcl
        | _ => cases hw
      | _ => cases hn
    · rw [conn_false hl] at hc
      cases hc
  | _ => cases hc
theorem conns_of {H : Hp} {m : Int} : ∀ {ts : List Th} {xs : List V}, ts.length = xs.length → (∀ p ∈ ts.zip xs, IsTh H p.1 p.2) → ts.all (connB m) = true →
    ∃ cs : List Conn, Conns H cs xs ∧ (∀ c ∈ cs, GoodC m c) ∧ cs.map (·.nm) = (ts.map fun t => strTh (headTh t)) ∧ (cs.map nonesC).sum = (ts.map fun c => (third c).countP isNonTh).sum ∧ cs.length = ts.length
  | [], [], _, _, _ => ⟨[], rfl, by simp, rfl, rfl, rfl⟩
  | t :: ts, x :: xs, hl, h, ha => by
    rw [List.all_cons, Bool.and_eq_true] at ha
    obtain ⟨cs, hC, hg, hn, hs, hcl⟩ := conns_of (by simpa using hl) (fun p hp => h p (by rw [List.zip_cons_cons]; exact List.mem_cons_of_mem _ hp)) ha.2
    have h0 := h (t, x) (by rw [List.zip_cons_cons]; exact List.mem_cons_self)
    obtain ⟨c, a, u, e, e1, e2, gc, en, ec⟩ := conn_of h0 ha.1
    refine ⟨c :: cs, ⟨a, u, xs, by rw [show x = V.ref a from e], e1, e2, hC⟩, fun d hd => ?_, ?_, ?_, by rw [List.length_cons, List.length_cons, hcl]⟩
    · rcases List.mem_cons.mp hd with rfl | hd
      · exact gc
      · exact hg d hd
    · rw [List.map_cons, List.map_cons, hn, en]
    · rw [List.map_cons, List.map_cons, List.sum_cons, List.sum_cons, hs, ec]
theorem half_of {H : Hp} {t : Th} {v : V} (h : IsTh H t v) (hh : halfB t = true) : ∃ T : Half, IsHalf H v T ∧ Good T ∧ nones T = nonesTh t := by
  cases t with
  | tup ts =>
    by_cases hl : ts.length = 3
    · obtain ⟨t0, t1, t2, rfl⟩ := three hl
      obtain ⟨ad, xs, rfl, e, hxl, h8⟩ := zip_of_get h
      obtain ⟨x, y, z, rfl⟩ := three (hxl.symm.trans hl)
      have h0 := zip_mem h e (p := (t0, x)) (by simp)
      have h1 := zip_mem h e (p := (t1, y)) (by simp)
      have h2 := zip_mem h e (p := (t2, z)) (by simp)
      rw [show halfB (.tup [t0, t1, t2]) = (wholeB t0 && (decide (1 ≤ intTh t0) && decide (intTh t0 ≤ 9)) && (risingB (intTh t0) t1 && connsB (intTh t0) t2)) from rfl, Bool.and_eq_true, Bool.and_eq_true, Bool.and_eq_true, Bool.and_eq_true] at hh
      obtain ⟨⟨hw, hm1, hm9⟩, hr, hc⟩ := hh
      cases t0 with
      | int m =>
        cases h0
        have m1 : 1 ≤ m := of_decide_eq_true hm1
        have m9 : m ≤ 9 := of_decide_eq_true hm9
        cases t1 with
        | tup us =>
          obtain ⟨w, ys, rfl, ew, hul, _⟩ := zip_of_get h1
          rw [show risingB (intTh (.int m)) (.tup us) = (us.all (gradeB m) && risB (us.map intTh)) from rfl, Bool.and_eq_true] at hr
          have ey := all_ints hul (fun q hq => zip_mem h1 ew hq) hr.1
          cases t2 with
          | tup ks =>
            obtain ⟨c, zs, rfl, ec, hkl, _⟩ := zip_of_get h2
            rw [show connsB (intTh (.int m)) (.tup ks) = (decide (ks.length ≤ 8) && ks.all (connB m) && decide ((ks.map fun t => strTh (headTh t)).Nodup)) from rfl, Bool.and_eq_true, Bool.and_eq_true] at hc
            obtain ⟨cs, hC, hg, hn, hs, hcl⟩ := conns_of hkl (fun q hq => zip_mem h2 ec hq) hc.1.2
            have hws : ∀ w ∈ us.map intTh, 0 ≤ w ∧ w < m := fun w hw => by
              obtain ⟨t, ht, rfl⟩ := List.mem_map.mp hw
              have := List.all_eq_true.mp hr.1 t ht
              cases t with
              | int i =>
                rw [show gradeB m (.int i) = (decide (0 ≤ i) && decide (i < m)) from rfl, Bool.and_eq_true] at this
                exact ⟨of_decide_eq_true this.1, of_decide_eq_true this.2⟩
              | _ => cases this
            have hk8 : ks.length ≤ 8 := of_decide_eq_true hc.1.1
            refine ⟨⟨m, us.map intTh, cs⟩, ⟨ad, w, c, zs, rfl, e, by rw [ew, ey], ec, hC⟩, ⟨m1, m9, hws, ris_pair _ hr.2, ?_, by show cs.length ≤ 8; walk_at "om", ?_, hg⟩, ?_⟩
            · have := ris_len (us.map intTh) 0 m hr.2 hws (by walk_at "om")
              show (us.map intTh).length ≤ 9
              walk_at "om"
            · show (cs.map (·.nm)).Nodup
              rw [hn]
              exact of_decide_eq_true hc.2
            · exact hs
          | _ => cases hc
        | _ => cases hr
      | _ => cases hw
    · rw [half_false hl] at hh
      cases hh
  | _ => cases hh
end L4

set_option Elab.async false
set_option linter.all false
set_option maxRecDepth 100000
set_option maxHeartbeats 4000000
namespace L4
open PySem L2
open Classical in
noncomputable def cutH (X : Addr → Prop) (H : Hp) : Hp := fun b => if X b then none else H b
theorem cut_yes {X : Addr → Prop} {H : Hp} {b : Addr} (h : ¬ X b) : cutH X H b = H b := by
  unfold cutH
  rw [if_neg h]
theorem cut_no {X : Addr → Prop} {H : Hp} {b : Addr} (h : X b) : cutH X H b = none := by
  unfold cutH
  rw [if_pos h]
theorem cut_of {X : Addr → Prop} {H : Hp} {b : Addr} {o : HO} (h : cutH X H b = some o) : ¬ X b ∧ H b = some o := by
  by_cases hx : X b
  · rw [cut_no hx] at h
    cases h
  · rw [cut_yes hx] at h
    exact ⟨hx, h⟩
theorem cut_same {X : Addr → Prop} {H H' : Hp} (s : Same H H') : Same (cutH X H) (cutH X H') := fun b o h => by
  obtain ⟨h1, h2⟩ := cut_of h
  rw [cut_yes h1]
  exact s _ _ h2
theorem cut_upd {X : Addr → Prop} {H : Hp} {p : Addr} {o : HO} (h : X p) : cutH X (upd H p o) = cutH X H := by
  funext b
  by_cases hb : X b
  · rw [cut_no hb, cut_no hb]
  · rw [cut_yes hb, cut_yes hb, upd_ne (fun z => hb (by rw [z]; exact h))]
theorem same_cut {X : Addr → Prop} {H0 H : Hp} (s : Same H0 H) (h : ∀ b, X b → H0 b = none) : Same H0 (cutH X H) := fun b o e => by
  rw [cut_yes (fun z => by rw [h b z] at e; cases e)]
  exact s _ _ e
noncomputable def Kept (X : Addr → Prop) (H : Hp) : Prop := ∀ b, X b → H b ≠ none
theorem Kept.same {X : Addr → Prop} {H H' : Hp} (k : Kept X H) (s : Same H H') : Kept X H' := fun b hb z => by
  cases e : H b with
  | none => exact k b hb e
  | some o => rw [s _ _ e] at z; cases z
theorem Kept.new {X : Addr → Prop} {H : Hp} {p : Addr} (k : Kept X H) (h : H p = none) : ¬ X p := fun z => k p z h
noncomputable def Ths (H : Hp) : List Th → List V → Prop := Paired fun t v => IsTh H t v
theorem Ths.same {H H' : Hp} (s : Same H H') {ts : List Th} {vs : List V} (h : Ths H ts vs) : Ths H' ts vs := by
  unfold Ths at h ⊢
  induction h with
  | nil => exact .nil
  | cons r _ ih => exact .cons (r.same s) ih
theorem Ths.at {H : Hp} {ts : List Th} {vs : List V} (h : Ths H ts vs) : ∀ (i : Nat) (t : Th) (v : V), ts[i]? = some t → vs[i]? = some v → IsTh H t v := fun i t v a b => Paired.at h i t v a b
theorem Ths.len {H : Hp} {ts : List Th} {vs : List V} (h : Ths H ts vs) : ts.length = vs.length := Paired.length h
theorem Ths.get {H : Hp} {ts : List Th} {vs : List V} (h : Ths H ts vs) {i : Nat} {v : V} (e : vs[i]? = some v) : ∃ t, t ∈ ts ∧ IsTh H t v := by
  have hl := h.len
  have hi : i < vs.length := (List.getElem?_eq_some_iff.mp e).1
  have ht : ts[i]? = some (ts.getD i .non) := by simp [List.getD, show i < ts.length by walk_at "om"]
  exact ⟨_, List.mem_of_getElem? ht, h.at i _ _ ht e⟩
theorem Ths.tup {H : Hp} {ts : List Th} {vs : List V} {p : Addr} (h : Ths H ts vs) (e : H p = some (.tup vs)) (h8 : ts.length ≤ 1000) : IsTh H (.tup ts) (.ref p) := .tup e h.len h8 fun i t v a b => h.at i t v a b
noncomputable def MkE (X : Addr → Prop) (H0 : Hp) (σ : St) (te : TE) (t : Th) : Prop := ∀ (H : Hp) (Q : VK), Same H0 (cutH X H) → Kept X H → (∀ v H', Same H H' → IsTh (cutH X H') t v → Q v H') → te σ H Q
noncomputable def MkA (X : Addr → Prop) (H0 : Hp) (σ : St) (ta : TA) (ts : List Th) : Prop := ∀ (H : Hp) (Q : List V → Hp → Prop), Same H0 (cutH X H) → Kept X H → (∀ vs H', Same H H' → Ths (cutH X H') ts vs → Q vs H') → ta σ H Q
section
variable {X : Addr → Prop} {H0 : Hp} {σ : St}
theorem mk_int {i : Int} : MkE X H0 σ (tC (.int i)) (.int i) := fun H Q s k q => q _ _ Same.rfl' (.int i)
theorem mk_bl {b : Bool} : MkE X H0 σ (tC (.bl b)) (.bl b) := fun H Q s k q => q _ _ Same.rfl' (.bl b)
theorem mk_non : MkE X H0 σ (tC .non) .non := fun H Q s k q => q _ _ Same.rfl' .non
theorem mk_str {x : Str} (h : x.length ≤ 3000) : MkE X H0 σ (tC (.str x)) (.str x) := fun H Q s k q => q _ _ Same.rfl' (.str x h)
theorem mk_var {i : Nat} {v : V} {t : Th} (e : σ[i]? = some (some v)) (h : IsTh H0 t v) : MkE X H0 σ (tVar i) t := fun H Q s k q => ⟨v, e, q _ _ Same.rfl' (h.same s)⟩
theorem mk_nil : MkA X H0 σ tNil [] := fun H Q s k q => q _ _ Same.rfl' .nil
theorem mk_cons {te : TE} {ta : TA} {t : Th} {ts : List Th} (he : MkE X H0 σ te t) (ha : MkA X H0 σ ta ts) : MkA X H0 σ (tCons te ta) (t :: ts) := fun H Q s k q =>
  he H _ s k fun v H1 s1 h1 => ha H1 _ (fun b o e => cut_same s1 _ _ (s _ _ e)) (k.same s1) fun vs H2 s2 h2 => q _ _ (fun b o e => s2 _ _ (s1 _ _ e)) (.cons (h1.same (cut_same s2)) h2)
theorem mk_lst {ta : TA} {ts : List Th} (ha : MkA X H0 σ ta ts) (hl : ts.length ≤ 1000) : MkE X H0 σ (tLst ta) .lst := fun H Q s k q =>
  ha H _ s k fun vs H1 s1 h1 => ⟨by rw [← h1.len]; exact small9 hl, fun p hp => q _ _ (fun b o e => same_new hp _ _ _ (s1 _ _ e)) (.lst (xs := vs) (by rw [cut_yes ((k.same s1).new hp)]; exact upd_same))⟩
end
end L4

set_option Elab.async false
set_option linter.all false
set_option maxRecDepth 100000
set_option maxHeartbeats 4000000
namespace L4
open PySem L2
noncomputable def thO : Option Int → Th
  | none => .non
  | some i => .int i
noncomputable def thC (c : Conn) : Th := .tup [.str c.nm, .int c.pl, .tup (c.cs.map thO)]
noncomputable def thW (T : Half) : Th := .tup (T.ws.map Th.int)
noncomputable def thCs (T : Half) : Th := .tup (T.cs.map thC)
noncomputable def thT (T : Half) : Th := .tup [.int T.m, thW T, thCs T]
theorem ths_map {α : Type} {H : Hp} (f : α → Th) (g : α → V) : ∀ (as : List α), (∀ a ∈ as, IsTh H (f a) (g a)) → Ths H (as.map f) (as.map g)
  | [], _ => .nil
  | a :: as, h => .cons (h a List.mem_cons_self) (ths_map f g as fun b hb => h b (List.mem_cons_of_mem _ hb))
theorem ths_conns {H : Hp} {m : Int} : ∀ {cs : List Conn} {vs : List V}, Conns H cs vs → (∀ c ∈ cs, c.nm.length ≤ 8 ∧ c.cs.length ≤ 1000) → Ths H (cs.map thC) vs
  | [], _, h, _ => by cases h; exact .nil
  | c :: cs, _, ⟨t, u, rest, e, h1, h2, h3⟩, hb => by
    rw [e]
    have hc := hb c List.mem_cons_self
    refine .cons ?_ (ths_conns (m := m) h3 fun d hd => hb d (List.mem_cons_of_mem _ hd))
    refine Ths.tup (vs := [.str c.nm, .int c.pl, .ref u]) (.cons (.str _ (by walk_at "om")) (.cons (.int _) (.cons ?_ .nil))) h1 (by show 3 ≤ 1000; decide)
    refine Ths.tup (ths_map thO cellV c.cs fun o _ => ?_) h2 (by rw [List.length_map]; walk_at "om")
    cases o with
    | none => exact .non
    | some i => exact .int i
theorem pow81' {m : Int} {p : Nat} (h1 : 1 ≤ m) (h9 : m ≤ 9) (hp : p ≤ 2) : m ^ p ≤ 81 := by
  have e : p = 0 ∨ p = 1 ∨ p = 2 := by walk_at "om"
  have hmm : m * m ≤ 81 := Int.le_trans (Int.mul_le_mul_of_nonneg_right h9 (by walk_at "om")) (by walk_at "om")
  rcases e with e | e | e <;> rw [e]
  · rw [Int.pow_zero]; decide
  · rw [Int.pow_succ, Int.pow_zero, Int.one_mul]; walk_at "om"
  · rw [Int.pow_succ, Int.pow_succ, Int.pow_zero, Int.one_mul]; exact hmm
theorem half_th {H : Hp} {a w c : Addr} {vs : List V} {T : Half} (g : Good T) (h1 : H a = some (.tup [.int T.m, .ref w, .ref c])) (h2 : H w = some (.tup (T.ws.map .int))) (h3 : H c = some (.tup vs)) (h4 : Conns H T.cs vs) :
    IsTh H (thW T) (.ref w) ∧ IsTh H (thCs T) (.ref c) ∧ IsTh H (thT T) (.ref a) := by
  have k1 : IsTh H (thW T) (.ref w) := Ths.tup (ths_map Th.int V.int T.ws fun i _ => .int i) h2 (by rw [List.length_map]; have := g.wl; walk_at "om")
  have k2 : IsTh H (thCs T) (.ref c) := Ths.tup (ths_conns (m := T.m) h4 fun c hc => by
    have gc := g.each c hc
    have := pow81' (p := c.pl.toNat) g.m1 g.m9 (by have := gc.p2; walk_at "om")
    exact ⟨gc.nm.2.1, by have := gc.len; walk_at "om"⟩) h3 (by rw [List.length_map]; have := g.few; walk_at "om")
  exact ⟨k1, k2, Ths.tup (vs := [.int T.m, .ref w, .ref c]) (.cons (.int _) (.cons k1 (.cons k2 .nil))) h1 (by show 3 ≤ 1000; decide)⟩
theorem bad_two {m : Int} {t u : Th} (h : risingB m t = false) : halfB (.tup [.int m, t, u]) = false := by
  show (wholeB (.int m) && (decide (1 ≤ m) && decide (m ≤ 9)) && (risingB m t && connsB m u)) = false
  rw [h, Bool.false_and, Bool.and_false]
theorem bad_three {m : Int} {t u : Th} (h : connsB m u = false) : halfB (.tup [.int m, t, u]) = false := by
  show (wholeB (.int m) && (decide (1 ≤ m) && decide (m ≤ 9)) && (risingB m t && connsB m u)) = false
  rw [h, Bool.and_false, Bool.and_false]
end L4

set_option Elab.async false
set_option linter.all false
set_option maxRecDepth 100000
set_option maxHeartbeats 4000000
namespace L4
open PySem L2
theorem cut_upd1 {H : Hp} {l : Addr} {o : HO} : cutH (fun x => x = l) (upd H l o) = cutH (fun x => x = l) H := cut_upd (X := fun x => x = l) rfl
theorem cut_ne1 {H : Hp} {l b : Addr} (h : b ≠ l) : cutH (fun x => x = l) H b = H b := cut_yes (X := fun x => x = l) h
theorem cut0 (H : Hp) : cutH (fun _ => False) H = H := by
  funext b
  exact cut_yes (fun z => z)
theorem kept0 (H : Hp) : Kept (fun _ => False) H := fun _ h => h.elim
theorem seq_of {A B : TS} {D : Ends} {σ : St} {H : Hp} (h : A { D with nx := B D } σ H) : tSeq A B D σ H := h
theorem asg_of {te : TE} {g : TG} {D : Ends} {σ : St} {H : Hp} (h : te σ H fun x H1 => g x σ H1 D.nx) : tAsg te g D σ H := h
theorem cut_sub {X : Addr → Prop} {H : Hp} : Same (cutH X H) H := fun b o q => (cut_of q).2
end L4

set_option Elab.async false
set_option linter.all false
set_option maxRecDepth 100000
set_option maxHeartbeats 4000000
namespace L4
open PySem L2
noncomputable def BadB (B : Th → Bool) (H : Hp) (v : V) : Prop := ∃ t, IsTh H t v ∧ B t = false
theorem BadB.same {B : Th → Bool} {H H' : Hp} (s : Same H H') {v : V} (h : BadB B H v) : BadB B H' v := by
  obtain ⟨t, h1, h2⟩ := h
  exact ⟨t, h1.same s, h2⟩
noncomputable def FoundB (B : Th → Bool) (H0 : Hp) (l : Addr) (n : Nat) (H : Hp) : Prop := H0 l = none ∧ Same H0 H ∧ ∃ ys, H l = some (.lst ys) ∧ ys.length ≤ n ∧ ∀ y ∈ ys, BadB B (cutH (fun x => x = l) H) y
section
variable {B : Th → Bool} {H0 H : Hp} {l : Addr} {n : Nat} {σ : St}
theorem FoundB.kept (f : FoundB B H0 l n H) : Kept (fun x => x = l) H := fun b hb z => by
  obtain ⟨_, _, ys, e, _⟩ := f
  rw [hb, e] at z
  cases z
theorem FoundB.base (f : FoundB B H0 l n H) : Same H0 (cutH (fun x => x = l) H) := same_cut f.2.1 fun b hb => by rw [hb]; exact f.1
theorem FoundB.same {H' : Hp} (f : FoundB B H0 l n H) (s : Same H H') : FoundB B H0 l n H' := by
  obtain ⟨a, b, ys, e, h1, h2⟩ := f
  exact ⟨a, fun c o q => s _ _ (b _ _ q), ys, s _ _ e, h1, fun y hy => (h2 y hy).same (cut_same s)⟩
theorem FoundB.app {v : V} (f : FoundB B H0 l n H) (hv : BadB B (cutH (fun x => x = l) H) v) : ∃ ys, H l = some (.lst ys) ∧ ys.length ≤ n ∧ FoundB B H0 l (n + 1) (upd H l (.lst (ys ++ [v]))) := by
  obtain ⟨a, b, ys, e, h1, h2⟩ := f
  refine ⟨ys, e, h1, a, fun c o q => ?_, ys ++ [v], upd_same, by rw [List.length_append, List.length_singleton]; walk_at "om", fun y hy => ?_⟩
  · rw [upd_ne (fun z => by rw [z, a] at q; cases q)]
    exact b _ _ q
  · rw [cut_upd1]
    rcases List.mem_append.mp hy with hy | hy
    · exact h2 y hy
    · rw [List.mem_singleton.mp hy]
      exact hv
theorem FoundB.cat {p : Addr} {k : Nat} {vs ys : List V} (f : FoundB B H0 l n H) (e : H l = some (.lst ys)) (hp : H p = none) (hvs : ∀ v ∈ vs, ∃ X : Addr → Prop, BadB B (cutH X H) v) (hk : vs.length ≤ k) :
    FoundB B H0 p (n + k) (upd H p (.lst (ys ++ vs))) := by
  obtain ⟨a, s, ys', e', h1, h2⟩ := f
  rw [e] at e'
  cases e'
  have hp0 : H0 p = none := by
    cases z : H0 p with
    | none => rfl
    | some o => rw [s _ _ z] at hp; cases hp
  have sc : ∀ X : Addr → Prop, Same (cutH X H) (cutH (fun x => x = p) (upd H p (.lst (ys ++ vs)))) := fun X c o q => by
    have q2 := (cut_of q).2
    have cp : c ≠ p := ne_of_none q2 hp
    rw [cut_ne1 cp, upd_ne cp]
    exact q2
  refine ⟨hp0, fun c o q => same_new hp _ _ _ (s _ _ q), _, upd_same, by rw [List.length_append]; walk_at "om", fun y hy => ?_⟩
  rcases List.mem_append.mp hy with hy | hy
  · exact (h2 y hy).same (sc _)
  · obtain ⟨X, hb⟩ := hvs y hy
    exact hb.same (sc X)
theorem Ths.badB {H : Hp} {ts : List Th} {vs : List V} (h : Ths H ts vs) (hb : ∀ t ∈ ts, B t = false) : ∀ v ∈ vs, BadB B H v := fun v hv => by
  obtain ⟨i, hi⟩ := List.getElem?_of_mem hv
  obtain ⟨t, ht, k⟩ := h.get hi
  exact ⟨t, k, hb t ht⟩
theorem catB {j : Nat} {ta : TA} {ts : List Th} {Q : VK} (f : FoundB B H0 l n H) (e : σ[j]? = some (some (.ref l))) (ha : MkA (fun x => x = l) H0 σ ta ts) (hb : ∀ t ∈ ts, B t = false) (hn : n + ts.length ≤ 1000)
    (q : ∀ p H', FoundB B H0 p (n + ts.length) H' → Q (.ref p) H') : tOp rCat (tVar j) (tLst ta) σ H Q := by
  refine ⟨_, e, ha H _ f.base f.kept fun vs H1 s1 hT => ?_⟩
  have hl := hT.len
  refine ⟨by rw [← hl]; exact small9 (by walk_at "om"), fun g hg => ?_⟩
  have f1 := f.same s1
  have f2 := f1.same (same_new hg (.lst vs))
  obtain ⟨_, _, ys, ey, hy, _⟩ := id f2
  refine ⟨l, g, ys, vs, rfl, rfl, ey, upd_same, small9 (by walk_at "om"), fun p hp => ?_⟩
  exact q p _ (f2.cat ey hp (fun v hv => ⟨_, (hT.badB hb v hv).same (cut_same (same_new hg _))⟩) (by walk_at "om"))
theorem appB {K : PySem.W.Frag} {j : Nat} {te : TE} {t : Th} {D : Ends} (f : FoundB B H0 l n H) (e : σ[j]? = some (some (.ref l))) (he : MkE (fun x => x = l) H0 σ te t) (hb : B t = false) (hn : n + 1 ≤ 1000)
    (hd : ∀ H', FoundB B H0 l (n + 1) H' → D.nx σ H') : tDrop (tBM K "list" rAppend (tVar j) (tCons te tNil)) D σ H := by
  obtain ⟨_, _, yl, el, _⟩ := id f
  refine ⟨_, e, .inl ⟨rfl, _, SqL.of el⟩, he H _ f.base f.kept fun v H1 s1 hv => ?_⟩
  obtain ⟨ys, ey, hy, fa⟩ := (f.same s1).app ⟨t, hv, hb⟩
  exact ⟨l, ys, v, rfl, rfl, ey, small1000 (by walk_at "om"), hd _ fa⟩
end
end L4

set_option Elab.async false
set_option linter.all false
set_option maxRecDepth 100000
set_option maxHeartbeats 4000000
namespace L2
open PySem PySem.Spec PyProof.Rows
theorem runs_toks {M : Model} {Γ : PySem.Ctx} {p : Pos} {t : Sem Fin} {fs : List Frame} {s : Shared} {e : End} {s' : Shared} (h : Runs M Γ p t fs s e s') : s.toks ≤ s'.toks := by
  induction h <;> first | exact Nat.le_refl _ | assumption | (exact Nat.le_trans ‹_› ‹_›) | (rename_i a b; exact Nat.le_trans a b) | (rename_i a b; exact Nat.le_of_succ_le a) | (rename_i a; exact Nat.le_of_succ_le a) | (simp only [setGen_toks] at *; walk_at "om")
theorem wp_toks {α : Type} {M : Model} {Γ : PySem.Ctx} : ∀ (t : Sem α) {Q : α → Pos → Shared → Prop} {E : Value → Pos → Shared → Prop} {p : Pos} {s : Shared} (n : Nat), n ≤ s.toks → Sem.wp M Γ t Q E p s → Sem.wp M Γ t (fun a p' s' => Q a p' s' ∧ n ≤ s'.toks) (fun x p' s' => E x p' s' ∧ n ≤ s'.toks) p s := by
  intro t
  induction t with
  | pure a => intro Q E p s n hn h; exact ⟨h, hn⟩
  | raise x => intro Q E p s n hn h; exact ⟨h, hn⟩
  | unsupported w => intro Q E p s n hn h; exact h.elim
  | finish w => intro Q E p s n hn h; exact h.elim
  | rule tag k ih => intro Q E p s n hn h; exact ih () n hn h
  | «at» q k ih => intro Q E p s n hn h; exact ih () n hn h
  | load a pt k ih => intro Q E p s n hn h; obtain ⟨o, e, h⟩ := h; exact ⟨o, e, ih o n hn h⟩
  | update a pt f k ih => intro Q E p s n hn h; exact ⟨h.1, ih () n hn h.2⟩
  | alloc o k ih => intro Q E p s n hn h; exact ih _ n hn h
  | loadIfAlive a k ih => intro Q E p s n hn h; exact ih _ n hn h
  | point l k ih => intro Q E p s n hn h; exact ih () n hn h
  | register a k ih => intro Q E p s n hn h; exact h.elim
  | fresh k ih => intro Q E p s n hn h; exact ih _ n (Nat.le_succ_of_le hn) h
  | ask k ih => intro Q E p s n hn h; exact ih _ n hn h
  | choose src m k ih => intro Q E p s n hn h; exact ⟨h.1, ih _ n hn h.2⟩
  | os r l k ih => intro Q E p s n hn h; exact ih _ n hn h
  | call c hd g l k ih =>
    intro Q E p s n hn h
    obtain ⟨r, s1, hr, h⟩ := h
    exact ⟨r, s1, hr, ih r n (Nat.le_trans hn (runs_toks hr)) h⟩
  | handled o k ih => intro Q E p s n hn h; exact ih _ n hn h
  | newGen c k ih => intro Q E p s n hn h; exact ih _ n hn h
  | genState g k ih => intro Q E p s n hn h; obtain ⟨st, e, h⟩ := h; exact ⟨st, e, ih _ n hn h⟩
  | resume g r l k ih =>
    intro Q E p s n hn h
    obtain ⟨res, s1, hw, h⟩ := h
    refine ⟨res, s1, hw, ih res n (Nat.le_trans hn ?_) h⟩
    unfold Wakes at hw
    split at hw
    · exact hw.elim
    · split at hw
      · obtain ⟨e1, s2, hr, _, _, rfl⟩ := hw
        exact (show s.toks ≤ s2.toks from runs_toks (s := s.setGen g .running) hr)
      · rw [hw.2]; exact Nat.le_refl _
      · rw [hw.2]; exact Nat.le_refl _
    · obtain ⟨e1, s2, hr, _, _, rfl⟩ := hw
      exact (show s.toks ≤ s2.toks from runs_toks (s := s.setGen g .running) hr)
    · rw [hw.2]; exact Nat.le_refl _
    · rw [hw.2]; exact Nat.le_refl _
  | yield v g l k ih => intro Q E p s n hn h; exact h.elim
  | stack k ih => intro Q E p s n hn h; exact ih _ n hn h
  | fork c k ih => intro Q E p s n hn h; exact h.elim
  | thread k ih => intro Q E p s n hn h; exact ih _ n hn h
  | await => intro Q E p s n hn h; exact h.elim
theorem wpAny_toks {α : Type} {M : Model} {A : Around} {t : Sem α} {Q : α → Shared → Prop} {E : Value → Shared → Prop} {s : Shared} (n : Nat) (hn : n ≤ s.toks) (h : wpAny M A t Q E s) :
    wpAny M A t (fun a s' => Q a s' ∧ n ≤ s'.toks) E s := fun Γ p hΓ => Sem.wp_mono M Γ t (fun a p' s' x => x) (fun x p' s' z => z.1) p s (wp_toks t n hn (h Γ p hΓ))
end L2

set_option Elab.async false
set_option linter.all false
set_option maxRecDepth 100000
set_option maxHeartbeats 4000000
namespace L2
open PySem PySem.Spec PyProof.Rows PySem.Builtin PySem.Builtin.Str
noncomputable def PEp (X : Cx) (e : Expr) (t : TE) : Prop :=
  ∀ (pins : List (Addr × Obj)) (s : Shared) (σ : St) (H : Hp) (Q : VK), 1 ≤ s.toks → Inv X pins σ H s → t σ H Q → wpAny (model X.prog X.w) X.A (eval e X.env) (EP X pins σ Q) X.xe s
noncomputable def PAp (X : Cx) (es : List Expr) (t : TA) : Prop :=
  ∀ (pos : Pos) (pins : List (Addr × Obj)) (s : Shared) (σ : St) (H : Hp) (Q : List V → Hp → Prop), 1 ≤ s.toks → Inv X pins σ H s → t σ H Q → wpAny (model X.prog X.w) X.A (spliced (backTo pos (starEach es X.env))) (AP X pins σ Q) X.xe s
noncomputable def PSp (X : Cx) (st : Stmt) (t : TS) : Prop :=
  ∀ (pins : List (Addr × Obj)) (s : Shared) (σ : St) (H : Hp) (D : Ends), 1 ≤ s.toks → Inv X pins σ H s → t D σ H → wpAny (model X.prog X.w) X.A (exec st X.env) (SP X pins D) X.xe s
noncomputable def PSsp (X : Cx) (st : List Stmt) (t : TS) : Prop :=
  ∀ (pins : List (Addr × Obj)) (s : Shared) (σ : St) (H : Hp) (D : Ends), 1 ≤ s.toks → Inv X pins σ H s → t D σ H → wpAny (model X.prog X.w) X.A (execs st X.env) (SP X pins D) X.xe s
section
variable {X : Cx} {e : Expr} {es : List Expr} {te ta tb : TE} {t : TA} {pos : Pos} {a b : Expr} {st : Stmt} {rest : List Stmt} {ts us : TS}
theorem ppe (h : PE X e te) : PEp X e te := fun pins s σ H Q _ => h pins s σ H Q
theorem pps (h : PS X st ts) : PSp X st ts := fun pins s σ H Q _ => h pins s σ H Q
theorem ppss (h : PSs X rest ts) : PSsp X rest ts := fun pins s σ H Q _ => h pins s σ H Q
theorem pap_nil : PAp X [] tNil := fun _ _ _ _ H Q _ I h => Calls.spliced_nil ⟨[], H, I, .nil, h⟩
theorem pap_cons (ha : PEp X e te) (hr : PAp X es t) (hs : starEach (e :: es) X.env = (false, eval e X.env) :: starEach es X.env := by rfl) : PAp X (e :: es) (tCons te t) := by
  intro pos pins s σ H Q k I h
  rw [hs]
  show wpAny _ _ (spliced ((false, eval e X.env) :: backTo pos (starEach es X.env))) _ _ s
  refine Calls.spliced_cons (thn (wpAny_toks 1 k (ha pins s σ H _ k I h)) fun u s1 ⟨⟨x, H1, I1, r1, q1⟩, k1⟩ => ?_)
  exact thn (hr pos pins s1 σ H1 _ k1 I1 q1) fun us s2 ⟨xs, H2, I2, r2, q2⟩ => ⟨x :: xs, H2, I2, .cons r1 r2, q2⟩
theorem pep_lst (h : PAp X es t) : PEp X (.List es pos) (tLst t) := by
  intro pins s σ H Q k I hq
  refine wpAny_List_spliced (thn (h pos pins s σ H _ k I hq) fun us s1 ⟨xs, H1, I1, r, z, q⟩ => ⟨by rw [← r.length]; exact z, ?_⟩)
  have hf : H1 s1.heap.objs.size = none := I1.hok.fresh (Nat.le_refl _)
  refine ⟨.ref s1.heap.objs.size, upd H1 s1.heap.objs.size (.lst xs), I1.laid (t' := s1.toks) (fun b u e => Heap.get?_push_of_some _ e) (Nat.le_refl _) ?_, rfl, q _ hf⟩
  exact ⟨z, us, 0, r, Heap.get?_push_size _ rfl⟩
theorem pep_op {op : Operator} {r : R2} (ho : OpR X (binaryOp op) r) (ha : PEp X a ta) (hb : PEp X b tb) : PEp X (.BinOp a op b pos) (tOp r ta tb) := by
  intro pins s σ H Q k I h
  refine wpAny_BinOp (thn (wpAny_toks 1 k (ha pins s σ H _ k I h)) fun v s1 ⟨⟨x, H1, I1, r1, q1⟩, k1⟩ => ?_)
  exact thn (hb pins s1 σ H1 _ k1 I1 q1) fun u s2 ⟨y, H2, I2, r2, q2⟩ => ho pins s2 σ H2 x y v u Q I2 r1 r2 q2
theorem psp_set {i : Nat} {x : Str} {pos' : Pos} (hN : X.N.Nodup) (hi : X.N[i]? = some x) (hx : Loc X.env.scope x) (he : PEp X e te) (hs : swapsWith e (some (.Name x pos')) pos.line X.env = pure false := by rfl)
    (hf : X.fn x = true ∨ List.lookup x X.env.scope.names = some NameKind.local := by first | exact .inl rfl | exact .inr rfl | assumption) :
    PSp X (.Assign [.Name x pos'] e pos) (tAsg te (gName i)) := by
  intro pins s σ H D k I h
  refine wpAny_Assign_Name (thn (he pins s σ H _ k I h) fun v s1 ⟨y, H1, I1, r1, q1⟩ => ?_) hs
  exact store_ok I1 hN hi hx r1 (fun s2 I2 => ⟨_, H1, I2, q1⟩) hf
theorem pssp_cons (h1 : PSp X st ts) (h2 : PSsp X rest us) : PSsp X (st :: rest) (tSeq ts us) := by
  intro pins s σ H D k I h
  refine wpAny_execs_cons (thn (wpAny_toks 1 k (h1 pins s σ H { D with nx := us D } k I h)) fun f s1 q => ?_)
  cases f with
  | next =>
    obtain ⟨⟨σ', H', I', q⟩, k1⟩ := q
    exact h2 pins s1 σ' H' D k1 I' q
  | ret v => exact q.1
  | brk => exact q.1
  | cont => exact q.1
theorem pss_app {o : Expr} {to : TE} {r : V → List V → Hp → VK → Prop} {name : Str} {apos cpos pos p : Pos} {T id : String} {y : Str} {j : Nat} (K : PySem.W.Frag) (pa : PlainAttrs T) (slot : Slot T name id) (hty : typeOf (.builtin id) = pure (.type "method_descriptor")) (hm : MtR X id r) (ho : PE X o to)
    (h2 : PSsp X rest us)
    (hbase : attributeBase o name X.env (eval o X.env) = eval o X.env := by rfl)
    (hfew : ((backTo cpos (starEach [.Constant (.str y) j p] X.env)).all (fun x => !x.1) && (backToKw cpos (keywordEach [] X.env)).all (fun x => x.1.isSome)
      && decide (([.Constant (.str y) j p] : List Expr).length + ([] : List Keyword).length + (if ([] : List Keyword).isEmpty then 0 else 1) < 30)) = true := by rfl)
    (hline : (apos.endLine == cpos.line) = true := by rfl) (hs : starEach [.Constant (.str y) j p] X.env = (false, eval (.Constant (.str y) j p) X.env) :: starEach [] X.env := by rfl) (hplain : (backTo cpos (starEach [] X.env)).any (·.1) = false := by rfl)
    (hsw : swapsWith (.Call (.Attribute o name apos) [.Constant (.str y) j p] [] cpos) none pos.line X.env = pure false := by rfl) (hK : X.K = K := by rfl) :
    PSs X (.Expr (.Call (.Attribute o name apos) [.Constant (.str y) j p] [] cpos) pos :: rest) (tSeq (tDrop (tBM K T r to (tCons (tC (.str y)) tNil))) us) := by
  subst hK
  intro pins s σ H D I h
  have main : wpAny (model X.prog X.w) X.A (eval (.Call (.Attribute o name apos) [.Constant (.str y) j p] [] cpos) X.env) (fun v s1 => EP X pins σ (fun _ H1 => us D σ H1) v s1 ∧ 1 ≤ s1.toks) X.xe s := by
    refine wpAny_Call_method_late hbase hfew hline rfl (thn (ho pins s σ H _ I h) fun v s1 ⟨x, H1, I1, r1, ty, q1⟩ => ?_)
    obtain ⟨h1, h2⟩ := tyV_is I1 r1 ty
    refine ⟨T, id, pa, slot, hty, h1, h2, ?_⟩
    rw [hs]
    refine Calls.callWith_builtin (by show (false || (backTo cpos (starEach [] X.env)).any (·.1)) = false; rw [hplain] <;> rfl) (Calls.evalArgs_plain ?_)
    show wpAny _ _ (spliced ((false, eval (.Constant (.str y) j p) X.env) :: backTo cpos (starEach [] X.env))) _ _ s1
    refine Calls.spliced_cons (Calls.Constant_str ?_)
    refine Calls.spliced_nil ?_
    exact wpAny_toks 1 (Nat.succ_le_succ (Nat.zero_le _)) (hm pins { s1 with toks := s1.toks + 1 } σ H1 x [.str y] v _ _ (I1.tok _) r1 (.cons ⟨_, rfl⟩ .nil) q1)
  refine wpAny_execs_cons (Q := SP X pins D) (wpAny_Expr_any (Q := fun f s1 => match f with | .next => wpAny (model X.prog X.w) X.A (execs rest X.env) (SP X pins D) X.xe s1 | _ => SP X pins D f s1) (thn main fun v s1 ⟨⟨x, H1, I1, r1, q1⟩, k⟩ => h2 pins s1 σ H1 D k I1 q1) I.quiet hsw |> fun z => thn z fun f s1 q => ?_)
  cases f <;> exact q
end
end L2

set_option Elab.async false
set_option linter.all false
set_option maxRecDepth 100000
set_option maxHeartbeats 4000000
namespace L2
open PySem PySem.Spec PyProof.Rows PySem.Builtin PySem.Builtin.Str
noncomputable def repl1 (x y z : Str) : Str := if (occurrences x y 0 x.length 1).isEmpty then x else glued z (partsBetween x (occurrences x y 0 x.length 1) y.length)
theorem gives_replace1 (x y z : Str) (t u v r : Tok) (hy : (y.length == 0) = false) (h0 : (u == 0 || v == 0) = false) (huv : (u == v) = false) (hyz : (y == z) = false) (hl : tooLong (x.length + (occurrences x y 0 x.length 1).length * z.length) = false) :
    Gives («str.replace» ⟨[.str x t, .str y u, .str z v, .int 1 r], []⟩) (if (occurrences x y 0 x.length 1).isEmpty = true then .val (.str x t) else .str (glued z (partsBetween x (occurrences x y 0 x.length 1) y.length))) := by
  show Gives (if ((occurrences x y 0 x.length 1).isEmpty || (y.length == 0 && z.length == 0)) = true then (do rule "str.replace.nothing"; ret (.str x t)) else
          (do let same ← isSame (.str y u) (.str z v)
              if same = true then (do rule "str.replace.old-is-new"; ret (.str x t)) else
              if tooLong (x.length + (occurrences x y 0 x.length 1).length * z.length) = true then unsupported "str.replace:memory" else
              retStr (glued z (partsBetween x (occurrences x y 0 x.length 1) y.length)))) _
  rw [hy, Bool.false_and, Bool.or_false]
  cases hc : (occurrences x y 0 x.length 1).isEmpty
  · rw [isSame_str_other y z u v h0 huv hyz, hl]
    exact .of_eq rfl
  · exact .rule (.of_eq rfl)
theorem small9k {n : Nat} (h : n ≤ 3000) : n ≤ sizeLine := Nat.le_trans h (by decide +kernel)
section
variable {X : Cx}
noncomputable def tRepl (y z : Str) (to : TE) : TE := fun σ H Q => to σ H fun v H1 => ∃ x, v = .str x ∧ x.length + z.length ≤ 3000 ∧ (repl1 x y z).length ≤ 3000 ∧ Q (.str (repl1 x y z)) H1
theorem occ1_len (x y : Str) : (occurrences x y 0 x.length 1).length ≤ 1 := StrLaws.occ_length_le x y 0 x.length 1
theorem pep_replace {o : Expr} {to : TE} {y z : Str} {j1 j2 j3 : Nat} {p1 p2 p3 apos cpos : Pos} (ho : PE X o to) (hy : (y.length == 0) = false) (hyz : (y == z) = false)
    (hbase : attributeBase o (Str.ofString "replace") X.env (eval o X.env) = eval o X.env := by rfl)
    (hfew : ((backTo cpos (starEach [.Constant (.str y) j1 p1, .Constant (.str z) j2 p2, .Constant (.int 1) j3 p3] X.env)).all (fun x => !x.1) && (backToKw cpos (keywordEach [] X.env)).all (fun x => x.1.isSome)
      && decide (([.Constant (.str y) j1 p1, .Constant (.str z) j2 p2, .Constant (.int 1) j3 p3] : List Expr).length + ([] : List Keyword).length + (if ([] : List Keyword).isEmpty then 0 else 1) < 30)) = true := by rfl)
    (hline : (apos.endLine == cpos.line) = true := by rfl)
    (hs : starEach [.Constant (.str y) j1 p1, .Constant (.str z) j2 p2, .Constant (.int 1) j3 p3] X.env = [(false, eval (.Constant (.str y) j1 p1) X.env), (false, eval (.Constant (.str z) j2 p2) X.env), (false, eval (.Constant (.int 1) j3 p3) X.env)] := by rfl) :
    PEp X (.Call (.Attribute o (Str.ofString "replace") apos) [.Constant (.str y) j1 p1, .Constant (.str z) j2 p2, .Constant (.int 1) j3 p3] [] cpos) (tRepl y z to) := by
  intro pins s σ H Q k I h
  refine wpAny_Call_method_late hbase hfew hline rfl (thn (wpAny_toks 1 k (ho pins s σ H _ I h)) fun v s1 ⟨⟨v0, H1, I1, r1, x, ex, hz, hr, q1⟩, k1⟩ => ?_)
  subst ex
  obtain ⟨t, rfl⟩ := r1
  refine ⟨"str", "str.replace", PySem.F.plainAttrs_str, F.slot_str_replace, PySem.F.type_str_replace, typeIs_str _ _ _, (fun a e => by cases e), ?_⟩
  rw [hs]
  refine Calls.callWith_builtin rfl (Calls.evalArgs_plain ?_)
  refine Calls.spliced_cons (Calls.Constant_str (k := j1) (pos := p1) ?_)
  refine Calls.spliced_cons (Calls.Constant_str (k := j2) (pos := p2) ?_)
  refine Calls.spliced_cons (wpAny_Constant_int (k := j3) (pos := p3) ?_)
  refine Calls.spliced_nil ?_
  have hl : tooLong (x.length + (occurrences x y 0 x.length 1).length * z.length) = false := by
    have h1 := occ1_len x y
    have h2 : (occurrences x y 0 x.length 1).length * z.length ≤ 1 * z.length := Nat.mul_le_mul_right _ h1
    unfold tooLong sizeLine
    exact decide_eq_false (by walk_at "om")
  refine call_gives F.slot_str_replace (typeIs_str _ _ _) F.entry_str_replace (F.args_str_replace_4 _ _ _ _) (gives_replace1 x y z t s1.toks (s1.toks + 1) (s1.toks + 1 + 1) hy (Bool.or_eq_false_iff.mpr ⟨beq_eq_false_iff_ne.mpr (Nat.ne_of_gt k1), beq_eq_false_iff_ne.mpr (Nat.succ_ne_zero _)⟩) (beq_eq_false_iff_ne.mpr (Nat.ne_of_lt (Nat.lt_succ_self _))) hyz hl) ?_
  unfold repl1 at q1 hr
  cases hc : (occurrences x y 0 x.length 1).isEmpty
  · rw [hc] at q1 hr
    simp only [Bool.false_eq_true, if_false] at q1 hr ⊢
    exact ⟨small9k hr, .str _, H1, I1.tok _, ⟨_, rfl⟩, q1⟩
  · rw [hc] at q1
    simp only [if_true] at q1 ⊢
    exact ⟨.str _, H1, I1.tok _, ⟨_, rfl⟩, q1⟩
theorem op_mulS : OpR X (binaryOp .Mult) (fun x y H Q => ∃ (i : Str) (n : Int), x = .str i ∧ y = .int n ∧ 0 ≤ n ∧ n ≤ 100 ∧ i.length ≤ 10 ∧ Q (.str (Txt.mul i n)) H) := by
  intro pins s σ H x y v u Q I rx ry h
  obtain ⟨i, n, rfl, rfl, n0, n1, il, q⟩ := h
  obtain ⟨t, rfl⟩ := rx
  obtain ⟨t', rfl⟩ := ry
  refine SB.mul ⟨by simp; walk_at "om", fun h1 _ => ?_, fun h1 _ => ?_⟩ fun t' k => ⟨.str _, H, I.tok _, ⟨_, rfl⟩, q⟩
  · have h2 : (2 ^ 63 - 1 : Int) / 100 ≤ (2 ^ 63 - 1) / n := by
      rw [Int.le_ediv_iff_mul_le (by walk_at "om")]
      have h3 : (2 ^ 63 - 1 : Int) / 100 * n ≤ (2 ^ 63 - 1 : Int) / 100 * 100 := Int.mul_le_mul_of_nonneg_left n1 (by decide)
      have h4 : (2 ^ 63 - 1 : Int) / 100 * 100 ≤ 2 ^ 63 - 1 := by decide
      walk_at "om"
    have h5 : (10 : Int) ≤ (2 ^ 63 - 1 : Int) / 100 := by decide
    walk_at "om"
  · have : i.length * n.toNat ≤ 10 * 100 := Nat.mul_le_mul il (by walk_at "om")
    unfold tooLong sizeLine
    exact decide_eq_false (by walk_at "om")
noncomputable def rUpper : V → List V → Hp → VK → Prop := fun x vs H Q => ∃ z, x = .str z ∧ vs = [] ∧ (Txt.upper z).length ≤ 3000 ∧ Q (.str (Txt.upper z)) H
theorem mt_upper : MtR X "str.upper" rUpper := by
  intro pins s σ H x vs v us Q I rx rv h
  obtain ⟨z, rfl, rfl, hl, q⟩ := h
  obtain ⟨t, rfl⟩ := rx
  cases rv
  have hf : tooLong (Txt.upper z).length = false := by
    unfold tooLong sizeLine
    exact decide_eq_false (by walk_at "om")
  exact call_gives F.slot_str_upper (typeIs_str _ _ _) F.entry_str_upper (F.args_str_upper_1 _) (gives_str_upper z t hf) ⟨fit_le hf, .str _, H, I.tok _, ⟨_, rfl⟩, q⟩
end
end L2

set_option Elab.async false
set_option linter.all false
set_option maxRecDepth 100000
set_option maxHeartbeats 4000000
namespace L4
open PySem L2
section
variable {X : Addr → Prop} {H0 H : Hp} {σ : St} {B : Th → Bool} {l : Addr} {n : Nat}
theorem ths_of {H : Hp} : ∀ {ts : List Th} {xs : List V}, ts.length = xs.length → (∀ (i : Nat) (t : Th) (x : V), ts[i]? = some t → xs[i]? = some x → IsTh H t x) → Ths H ts xs
  | [], [], _, _ => .nil
  | t :: ts, x :: xs, hl, h => .cons (h 0 t x rfl rfl) (ths_of (by simpa using hl) fun i t' x' a b => h (i + 1) t' x' (by simpa using a) (by simpa using b))
end
end L4

set_option Elab.async false
set_option linter.all false
set_option maxRecDepth 100000
set_option maxHeartbeats 4000000
namespace L4
open PySem L2
theorem connB3 (m : Int) (a b c : Th) : connB m (.tup [a, b, c]) = (nameB a && (wholeB b && (decide (0 ≤ intTh b) && decide (intTh b ≤ 2)) && cellsB m (m ^ (intTh b).toNat) c)) := rfl
theorem conns_dup {m : Int} {ts : List Th} (h : ¬ (ts.map fun t => strTh (headTh t)).Nodup) : connsB m (.tup ts) = false := by
  show (_ && _ && decide ((ts.map fun t => strTh (headTh t)).Nodup)) = false
  rw [decide_eq_false h, Bool.and_false]
theorem conns_many {m : Int} {ts : List Th} (h : ¬ ts.length ≤ 8) : connsB m (.tup ts) = false := by
  show (decide (ts.length ≤ 8) && _ && _) = false
  rw [decide_eq_false h, Bool.false_and, Bool.false_and]
theorem dup_in {α : Type} {as bs : List α} {x : α} (h1 : x ∈ as) (h2 : x ∈ bs) : ¬ (as ++ bs).Nodup := fun z => by
  have := (List.nodup_append.mp z).2.2 x h1 x h2
  exact this rfl
end L4

set_option Elab.async false
set_option linter.all false
set_option maxRecDepth 100000
set_option maxHeartbeats 4000000
namespace L4
open PySem L2
end L4
namespace L4
open PySem L2
end L4

set_option Elab.async false
set_option linter.all false
set_option maxRecDepth 100000
set_option maxHeartbeats 4000000
namespace L4
open PySem L2
theorem name_yes {x : Str} (h : IsName x) : nameB (.str x) = true := by
  show (decide (2 ≤ x.length) && decide (x.length ≤ 8) && smallB x) = true
  rw [decide_eq_true h.1, decide_eq_true h.2.1]
  show smallB x = true
  refine List.all_eq_true.mpr fun c hc => ?_
  have := h.2.2 c hc
  rw [decide_eq_true this.1, decide_eq_true this.2]
  rfl
theorem ris_yes : ∀ ws : List Int, ws.Pairwise (· < ·) → risB ws = true
  | [], _ => rfl
  | [_], _ => rfl
  | x :: y :: r, h => by
    obtain ⟨a, b⟩ := List.pairwise_cons.mp h
    show (decide (x < y) && risB (y :: r)) = true
    rw [decide_eq_true (a y List.mem_cons_self), ris_yes (y :: r) b]
    rfl
theorem ints_back (ws : List Int) : (ws.map Th.int).map intTh = ws := by
  rw [List.map_map]
  exact List.map_id _
theorem rising_yes {T : Half} (g : Good T) : risingB T.m (thW T) = true := by
  show ((T.ws.map Th.int).all (gradeB T.m) && risB ((T.ws.map Th.int).map intTh)) = true
  rw [ints_back, ris_yes _ g.rising, Bool.and_true]
  refine List.all_eq_true.mpr fun t ht => ?_
  obtain ⟨w, hw, rfl⟩ := List.mem_map.mp ht
  have := g.ws w hw
  show (decide (0 ≤ w) && decide (w < T.m)) = true
  rw [decide_eq_true this.1, decide_eq_true this.2]
  rfl
theorem conn_yes {m : Int} {c : Conn} (gc : GoodC m c) : connB m (thC c) = true := by
  unfold thC
  rw [connB3, name_yes gc.nm]
  show ((decide (0 ≤ c.pl) && decide (c.pl ≤ 2)) && cellsB m (m ^ c.pl.toNat) (.tup (c.cs.map thO))) = true
  rw [decide_eq_true gc.p0, decide_eq_true gc.p2]
  show (decide (((c.cs.map thO).length : Int) = m ^ c.pl.toNat) && (c.cs.map thO).all (cellB m)) = true
  rw [decide_eq_true (by rw [List.length_map]; exact gc.len)]
  show (c.cs.map thO).all (cellB m) = true
  refine List.all_eq_true.mpr fun t ht => ?_
  obtain ⟨o, ho, rfl⟩ := List.mem_map.mp ht
  have k := gc.cells o ho
  cases o with
  | none => rfl
  | some i =>
    have := k i rfl
    show (decide (0 ≤ i) && decide (i < m)) = true
    rw [decide_eq_true this.1, decide_eq_true this.2]
    rfl
theorem half_yes {T : Half} (g : Good T) : halfB (thT T) = true := by
  show (wholeB (.int T.m) && (decide (1 ≤ T.m) && decide (T.m ≤ 9)) && (risingB T.m (thW T) && connsB T.m (thCs T))) = true
  rw [decide_eq_true g.m1, decide_eq_true g.m9, rising_yes g]
  show connsB T.m (thCs T) = true
  show (decide ((T.cs.map thC).length ≤ 8) && (T.cs.map thC).all (connB T.m) && decide (((T.cs.map thC).map fun t => strTh (headTh t)).Nodup)) = true
  have e : (T.cs.map thC).map (fun t => strTh (headTh t)) = T.cs.map (·.nm) := by rw [List.map_map]; rfl
  rw [e, decide_eq_true g.nd, decide_eq_true (by rw [List.length_map]; exact g.few), Bool.and_true]
  show (T.cs.map thC).all (connB T.m) = true
  refine List.all_eq_true.mpr fun t ht => ?_
  obtain ⟨c, hc, rfl⟩ := List.mem_map.mp ht
  exact conn_yes (g.each c hc)
theorem nones_th (T : Half) : nonesTh (thT T) = nones T := by
  show ((T.cs.map thC).map fun c => (third c).countP isNonTh).sum = (T.cs.map nonesC).sum
  rw [List.map_map]
  congr 1
  refine List.map_congr_left fun c _ => ?_
  show (c.cs.map thO).countP isNonTh = c.cs.countP isN
  rw [List.countP_map]
  congr 1
  funext o
  cases o <;> rfl
end L4

set_option Elab.async false
set_option linter.all false
set_option maxRecDepth 100000
set_option maxHeartbeats 4000000
namespace L4
open PySem L2 PySem.StrLaws
noncomputable def wGr : Str := Str.ofString "grades"
noncomputable def wWi : Str := Str.ofString "wished"
noncomputable def numW (w : Str) : Int := if w.length = 1 then Txt.find figures w else -1
noncomputable def numT (w : Str) : Th := .int (numW w)
noncomputable def connTh : List Str → Th
  | n :: p :: r => .tup [.str n, numT p, .tup (r.map numT)]
  | _ => .non
noncomputable def tableTh : List (List Str) → Th
  | [g, n] :: (w :: ws) :: cs => if g = wGr ∧ w = wWi then .tup [numT n, .tup (ws.map numT), .tup (cs.map connTh)] else .non
  | _ => .non
noncomputable def parse (x : Str) : List (List Str) := (Txt.split x sp2).map fun p => Txt.split p sp1
noncomputable def readB : Th → Bool
  | .str x => tableB (tableTh (parse x))
  | _ => false
theorem join_len : ∀ (y : Str) (ps : List Str), (∀ p ∈ ps, p.length ≤ (Str.join y ps).length) ∧ (1 ≤ y.length → ps.length ≤ (Str.join y ps).length + 1)
  | y, [] => ⟨by simp, fun _ => Nat.zero_le _⟩
  | y, [p] => ⟨fun q hq => by rw [List.mem_singleton.mp hq]; exact Nat.le_refl _, fun _ => by simp⟩
  | y, p :: q :: r => by
    obtain ⟨h1, h2⟩ := join_len y (q :: r)
    have e := congrArg List.length (join_codes y p q r)
    rw [List.length_append, List.length_append, len_codes, len_codes, len_codes, len_codes] at e
    refine ⟨fun z hz => ?_, fun hy => ?_⟩
    · rcases List.mem_cons.mp hz with rfl | hz
      · walk_at "om"
      · have := h1 z hz
        walk_at "om"
    · have := h2 hy
      rw [List.length_cons]
      walk_at "om"
theorem split_bounds {x y : Str} (hy : 1 ≤ y.length) : (∀ p ∈ Txt.split x y, p.length ≤ x.length) ∧ (Txt.split x y).length ≤ x.length + 1 := by
  have h := join_len y (Txt.split x y)
  rw [join_split] at h
  exact ⟨h.1, h.2 hy⟩
theorem split_ne {x y : Str} : Txt.split x y ≠ [] := by
  unfold Txt.split
  split
  · simp
  · split
    · simp
    · rw [partsBetween_eq]
      obtain ⟨p, r, e⟩ := partsFrom_ne x y.length 0 (Builtin.Str.occurrences x y 0 x.length (x.length + 1))
      rw [e]
      simp
theorem parse_bounds {x : Str} (hx : x.length ≤ 900) : (parse x).length ≤ 1000 ∧ ∀ ws ∈ parse x, ws ≠ [] ∧ ws.length ≤ 1000 ∧ ∀ w ∈ ws, w.length ≤ 3000 := by
  have s2 : 1 ≤ sp2.length := by decide +kernel
  have s1 : 1 ≤ sp1.length := by decide +kernel
  have h := split_bounds (x := x) s2
  refine ⟨by unfold parse; rw [List.length_map]; walk_at "om", fun ws hw => ?_⟩
  obtain ⟨p, hp, rfl⟩ := List.mem_map.mp hw
  have hp2 := h.1 p hp
  have k := split_bounds (x := p) s1
  refine ⟨split_ne, by walk_at "om", fun w hw => ?_⟩
  have := k.1 w hw
  walk_at "om"
theorem conns_all {m : Int} {ts : List Th} {t : Th} (ht : t ∈ ts) (hb : connB m t = false) : connsB m (.tup ts) = false := by
  show (decide (ts.length ≤ 8) && ts.all (connB m) && _) = false
  have : ts.all (connB m) = false := by
    rw [List.all_eq_false]
    exact ⟨t, ht, by rw [hb]; decide⟩
  rw [this, Bool.and_false, Bool.false_and]
theorem table_half {t : Th} (h : halfB t = false) : tableB t = false := by unfold tableB; rw [h, Bool.false_and]
theorem tbl_of {n : Str} {ws : List Str} {r : List (List Str)} : tableTh ([wGr, n] :: (wWi :: ws) :: r) = .tup [numT n, .tup (ws.map numT), .tup (r.map connTh)] := by
  unfold tableTh
  exact if_pos ⟨rfl, rfl⟩
noncomputable def headB : List Str → Bool
  | [g, n] => decide (g = wGr) && (decide (1 ≤ numW n) && decide (numW n ≤ 9))
  | _ => false
theorem head_bad {hd : List Str} {r : List (List Str)} (h : headB hd = false) : tableB (tableTh (hd :: r)) = false := by
  refine table_half ?_
  unfold tableTh
  split
  · rename_i g n w ws cs e
    cases e
    split
    · rename_i hg
      have h' : (decide (g = wGr) && (decide (1 ≤ numW n) && decide (numW n ≤ 9))) = false := h
      rw [decide_eq_true hg.1, Bool.true_and] at h'
      show (wholeB (numT n) && (decide (1 ≤ numW n) && decide (numW n ≤ 9)) && _) = false
      rw [h', Bool.and_false, Bool.false_and]
    · rfl
  · rfl
theorem short_bad {hd : List Str} : tableB (tableTh [hd]) = false := by
  refine table_half ?_
  unfold tableTh
  split
  · rename_i e
    cases e
  · rfl
theorem wish_bad {hd : List Str} {w : Str} {ws : List Str} {r : List (List Str)} (h : w ≠ wWi) : tableB (tableTh (hd :: (w :: ws) :: r)) = false := by
  refine table_half ?_
  unfold tableTh
  split
  · rename_i e
    cases e
    rw [if_neg (fun z => h z.2)]
    rfl
  · rfl
theorem wishes_bad {n w u : Str} {ws : List Str} {r : List (List Str)} (hu : u ∈ ws) (h : gradeB (numW n) (numT u) = false) : tableB (tableTh ([wGr, n] :: (wWi :: ws) :: r)) = false := by
  refine table_half ?_
  rw [tbl_of]
  refine bad_two ?_
  show ((ws.map numT).all (gradeB (numW n)) && _) = false
  have : (ws.map numT).all (gradeB (numW n)) = false := by
    rw [List.all_eq_false]
    exact ⟨_, List.mem_map.mpr ⟨u, hu, rfl⟩, by rw [h]; decide⟩
  rw [this, Bool.false_and]
theorem conn_bad {n : Str} {ws cw : List Str} {r : List (List Str)} (hc : cw ∈ r) (h : connB (numW n) (connTh cw) = false) : tableB (tableTh ([wGr, n] :: (wWi :: ws) :: r)) = false := by
  refine table_half ?_
  rw [tbl_of]
  exact bad_three (conns_all (List.mem_map.mpr ⟨cw, hc, rfl⟩) h)
theorem conns_bad {n : Str} {ws : List Str} {r : List (List Str)} (h : connsB (numW n) (.tup (r.map connTh)) = false) : tableB (tableTh ([wGr, n] :: (wWi :: ws) :: r)) = false := by
  refine table_half ?_
  rw [tbl_of]
  exact bad_three h
end L4

set_option Elab.async false
set_option linter.all false
set_option maxRecDepth 100000
set_option maxHeartbeats 4000000
namespace L4
open PySem L2 PySem.StrLaws
noncomputable def tx (ps : List (List Str)) : Str := Txt.join sp2 (ps.map (Txt.join sp1))
theorem tj (y : Str) (ps : List Str) : Txt.join y ps = Str.join y ps := glued_eq_join _ _
theorem cat_codes (a b : Str) : (a ++ b).cps.toList = a.cps.toList ++ b.cps.toList := by simp [Str.cps_append]
theorem cat_assoc (a b c : Str) : a ++ b ++ c = a ++ (b ++ c) := str_of_codes (by simp [cat_codes])
theorem join_two (y p q : Str) (r : List Str) : Txt.join y (p :: q :: r) = p ++ (y ++ Txt.join y (q :: r)) := by
  apply str_of_codes
  rw [tj, tj, join_codes, cat_codes, cat_codes]
theorem join_one (y p : Str) : Txt.join y [p] = p := by rw [tj]; rfl
theorem join_snoc (y q : Str) : ∀ ps : List Str, ps ≠ [] → Txt.join y (ps ++ [q]) = Txt.join y ps ++ (y ++ q)
  | [], h => absurd rfl h
  | [p], _ => by rw [List.singleton_append, join_two, join_one, join_one]
  | p :: p' :: r, _ => by
    rw [List.cons_append, List.cons_append, join_two, join_two, ← List.cons_append, join_snoc y q (p' :: r) (by simp), cat_assoc, cat_assoc]
theorem join_last (y p z : Str) : ∀ ps : List Str, Txt.join y (ps ++ [p ++ z]) = Txt.join y (ps ++ [p]) ++ z
  | [] => by rw [List.nil_append, List.nil_append, join_one, join_one]
  | q :: r => by rw [join_snoc y _ (q :: r) (by simp), join_snoc y _ (q :: r) (by simp), cat_assoc, cat_assoc]
noncomputable def NoSep (l : List Nat) : Prop := ∀ k, l[k]? = some 59 → l[k + 1]? ≠ some 32
theorem at_sp2 {x : Str} {k : Nat} (h : At x sp2 x.length k) : x.cps.toList[k]? = some 59 ∧ x.cps.toList[k + 1]? = some 32 := by
  have e := (at_codes.mp h).2
  have hl : sp2.length = 2 := by decide +kernel
  have hc : sp2.cps.toList = [59, 32] := by decide +kernel
  rw [hl, hc] at e
  have e0 := congrArg (fun l => l[0]?) e
  have e1 := congrArg (fun l => l[1]?) e
  constructor
  · simpa using e0
  · simpa using e1
theorem chain2 {x : Str} : ∀ (ps : List Str) (a f : Nat) (cuts : List Nat), ps ≠ [] → (∀ p ∈ ps, NoSep p.cps.toList) → a ≤ x.length →
    x.cps.toList.drop a = (Str.join sp2 ps).cps.toList → ChainG x sp2 x.length a cuts f → (∀ k, f ≤ k → ¬ At x sp2 x.length k) → partsFrom x sp2.length a cuts = ps
  | [], _, _, _, h, _, _, _, _, _ => absurd rfl h
  | [p], a, f, cuts, _, fr, ha, hd, ch, hn => by
    have hx : x.cps.toList.length = x.length := by simp [Str.length]
    have hd' : x.cps.toList.drop a = p.cps.toList := hd
    cases cuts with
    | nil =>
      show [Builtin.Str.strSub x a x.length] = [p]
      congr 1
      apply str_of_codes
      rw [sub_codes, ← hd', List.take_of_length_le]
      rw [List.length_drop, hx]
      exact Nat.le_refl _
    | cons d r =>
      exfalso
      obtain ⟨h1, h2, _⟩ := ch
      obtain ⟨h3, h4⟩ := at_sp2 h2
      refine fr p List.mem_cons_self (d - a) ?_ ?_
      · rw [← hd', List.getElem?_drop, show a + (d - a) = d by walk_at "om"]; exact h3
      · rw [← hd', List.getElem?_drop, show a + (d - a + 1) = d + 1 by walk_at "om"]; exact h4
  | p :: q :: r, a, f, cuts, _, fr, ha, hd, ch, hn => by
    have hx : x.cps.toList.length = x.length := by simp [Str.length]
    rw [join_codes] at hd
    have hyl : sp2.length = sp2.cps.toList.length := by simp [Str.length]
    have hlen := congrArg List.length hd
    rw [List.length_drop, hx, List.length_append, List.length_append, ← hyl] at hlen
    have hA : At x sp2 x.length (a + p.cps.toList.length) := by
      refine at_codes.mpr ⟨by walk_at "om", ?_⟩
      rw [← List.drop_drop, hd, List.drop_left, hyl, List.take_left]
    have before : ∀ k, a ≤ k → k < a + p.cps.toList.length → ¬ At x sp2 x.length k := fun k k1 k2 hk => by
      obtain ⟨h3, h4⟩ := at_sp2 hk
      have g3 : (x.cps.toList.drop a)[k - a]? = some 59 := by rw [List.getElem?_drop, show a + (k - a) = k by walk_at "om"]; exact h3
      have g4 : (x.cps.toList.drop a)[k - a + 1]? = some 32 := by rw [List.getElem?_drop, show a + (k - a + 1) = k + 1 by walk_at "om"]; exact h4
      rw [hd, List.getElem?_append_left (by walk_at "om")] at g3
      rw [hd] at g4
      by_cases hl : k - a + 1 < p.cps.toList.length
      · rw [List.getElem?_append_left hl] at g4
        exact fr p List.mem_cons_self _ g3 g4
      · rw [List.getElem?_append_right (by walk_at "om"), show k - a + 1 - p.cps.toList.length = 0 by walk_at "om"] at g4
        have hc : sp2.cps.toList = [59, 32] := by decide +kernel
        rw [hc] at g4
        simp at g4
    cases cuts with
    | nil =>
      have e : f = a := ch
      exact absurd hA (hn _ (by walk_at "om"))
    | cons d s =>
      obtain ⟨h1, h2, h3, h4⟩ := ch
      have ed : d = a + p.cps.toList.length := by
        by_cases z : d < a + p.cps.toList.length
        · exact absurd h2 (before d h1 z)
        · by_cases z2 : a + p.cps.toList.length < d
          · exact absurd hA (h3 _ (by walk_at "om") z2)
          · walk_at "om"
      subst ed
      have ih := chain2 (q :: r) (a + p.cps.toList.length + sp2.length) f s (by simp) (fun z hz => fr z (List.mem_cons_of_mem _ hz)) hA.1 (by
        rw [← List.drop_drop, ← List.drop_drop, hd, List.drop_left, hyl, List.drop_left]) h4 hn
      show Builtin.Str.strSub x a (a + p.cps.toList.length) :: partsFrom x sp2.length (a + p.cps.toList.length + sp2.length) s = p :: q :: r
      rw [ih]
      congr 1
      apply str_of_codes
      rw [sub_codes, hd, show a + p.cps.toList.length - a = p.cps.toList.length by walk_at "om", List.take_left]
theorem split2 {ps : List Str} (hne : ps ≠ []) (fr : ∀ p ∈ ps, NoSep p.cps.toList) : Txt.split (Txt.join sp2 ps) sp2 = ps := by
  rw [tj]
  generalize hx : Str.join sp2 ps = x
  have hyl : sp2.length = 2 := by decide +kernel
  obtain ⟨f, hG, hn⟩ := occ_tight x sp2 (by walk_at "om")
  have key := chain2 ps 0 f _ hne fr (Nat.zero_le _) (by rw [List.drop_zero, hx]) hG hn
  have one : (x.length < sp2.length → [x] = ps) := fun hlt => by
    match ps, hne with
    | [p], _ => rw [← hx]; rfl
    | p :: q :: r, _ =>
      exfalso
      have := congrArg List.length (join_codes sp2 p q r)
      rw [hx] at this
      have hxl : x.cps.toList.length = x.length := by simp [Str.length]
      have hyl2 : sp2.cps.toList.length = sp2.length := by simp [Str.length]
      rw [hxl, List.length_append, List.length_append, hyl2] at this
      walk_at "om"
  have hk : Builtin.Str.strKind sp2 = 1 := by decide +kernel
  have knd : 1 ≤ Builtin.Str.strKind x := by
    unfold Builtin.Str.strKind
    split
    · walk_at "om"
    · split <;> walk_at "om"
  unfold Txt.split
  split
  · rename_i hc
    rw [Bool.or_eq_true, decide_eq_true_eq, decide_eq_true_eq] at hc
    rcases hc with h | h
    · exact one h
    · rw [hk] at h
      walk_at "om"
  · split
    · rename_i he
      have e0 : Builtin.Str.occurrences x sp2 0 x.length (x.length + 1) = [] := List.isEmpty_iff.mp he
      rw [e0] at key
      rw [← key]
      show [x] = [Builtin.Str.strSub x 0 x.length]
      rw [sub_whole]
    · rw [partsBetween_eq]
      exact key
noncomputable def Wd (w : Str) : Prop := 32 ∉ w.cps.toList
noncomputable def Fine (w : Str) : Prop := 32 ∉ w.cps.toList ∧ w.cps.toList.getLast? ≠ some 59
theorem nosep_join : ∀ ws : List Str, (∀ w ∈ ws, Wd w) → (∀ w ∈ ws.dropLast, Fine w) → NoSep (Txt.join sp1 ws).cps.toList
  | [], _, _ => fun k h => by
    have : (Txt.join sp1 []).cps.toList = [] := by decide +kernel
    rw [this] at h
    simp at h
  | [p], h, _ => fun k _ h2 => by
    rw [join_one] at h2
    exact h p List.mem_cons_self (List.mem_of_getElem? h2)
  | p :: q :: r, h, h' => fun k g3 g4 => by
    have ih := nosep_join (q :: r) (fun w hw => h w (List.mem_cons_of_mem _ hw)) (fun w hw => h' w (by rw [List.dropLast_cons_of_ne_nil (by simp)]; exact List.mem_cons_of_mem _ hw))
    rw [join_two, cat_codes, cat_codes] at g3 g4
    have hc : sp1.cps.toList = [32] := by decide +kernel
    rw [hc] at g3 g4
    have fp := h' p (by rw [List.dropLast_cons_of_ne_nil (by simp)]; exact List.mem_cons_self)
    by_cases k1 : k + 1 < p.cps.toList.length
    · rw [List.getElem?_append_left k1] at g4
      exact fp.1 (List.mem_of_getElem? g4)
    · by_cases k2 : k + 1 = p.cps.toList.length
      · rw [List.getElem?_append_left (by walk_at "om")] at g3
        apply fp.2
        rw [List.getLast?_eq_getElem?, ← k2]
        exact g3
      · rw [List.getElem?_append_right (by walk_at "om")] at g3 g4
        by_cases k3 : k = p.cps.toList.length
        · rw [k3, Nat.sub_self] at g3
          simp at g3
        · rw [show k - p.cps.toList.length = (k - p.cps.toList.length - 1) + 1 by walk_at "om", List.singleton_append, List.getElem?_cons_succ] at g3
          rw [show k + 1 - p.cps.toList.length = (k - p.cps.toList.length - 1 + 1) + 1 by walk_at "om", List.singleton_append, List.getElem?_cons_succ] at g4
          exact ih _ g3 g4
theorem parse_gen {ps : List (List Str)} (hne : ps ≠ []) (h : ∀ ws ∈ ps, ws ≠ [] ∧ (∀ w ∈ ws, Wd w) ∧ ∀ w ∈ ws.dropLast, Fine w) : parse (tx ps) = ps := by
  unfold parse tx
  rw [split2 (by simpa using hne) (fun p hp => by
    obtain ⟨ws, hws, rfl⟩ := List.mem_map.mp hp
    exact nosep_join ws (h ws hws).2.1 (h ws hws).2.2), List.map_map]
  have : ∀ l : List (List Str), (∀ ws ∈ l, ws ≠ [] ∧ (∀ w ∈ ws, Wd w) ∧ ∀ w ∈ ws.dropLast, Fine w) → l.map ((fun p => Txt.split p sp1) ∘ Txt.join sp1) = l := by
    intro l hl
    induction l with
    | nil => rfl
    | cons ws l ih =>
      rw [List.map_cons, ih fun z hz => hl z (List.mem_cons_of_mem _ hz)]
      have hw := hl ws List.mem_cons_self
      congr 1
      exact split_join (c := 32) (yt := []) (by decide +kernel) (by decide +kernel) hw.1 hw.2.1
  exact this ps h
noncomputable def FineP (ws : List Str) : Prop := ws ≠ [] ∧ ∀ w ∈ ws, Fine w
theorem FineP.ok {ws : List Str} (h : FineP ws) : ws ≠ [] ∧ (∀ w ∈ ws, Wd w) ∧ ∀ w ∈ ws.dropLast, Fine w := ⟨h.1, fun w hw => (h.2 w hw).1, fun w hw => h.2 w (List.dropLast_subset ws hw)⟩
theorem parse_fine {ps : List (List Str)} (hne : ps ≠ []) (h : ∀ ws ∈ ps, FineP ws) : parse (tx ps) = ps := parse_gen hne fun ws hws => (h ws hws).ok
theorem tx_snoc {ps : List (List Str)} {ws : List Str} (hne : ps ≠ []) : tx (ps ++ [ws]) = tx ps ++ (sp2 ++ Txt.join sp1 ws) := by
  unfold tx
  rw [List.map_append, List.map_singleton, join_snoc sp2 _ _ (by simpa using hne)]
theorem tx_two {p q : List Str} {r : List (List Str)} : tx (p :: q :: r) = Txt.join sp1 p ++ (sp2 ++ tx (q :: r)) := by
  unfold tx
  rw [List.map_cons, List.map_cons, join_two]
theorem tx_last {ps : List (List Str)} {ws : List Str} {w z : Str} : tx (ps ++ [ws ++ [w ++ z]]) = tx (ps ++ [ws ++ [w]]) ++ z := by
  unfold tx
  rw [List.map_append, List.map_append, List.map_singleton, List.map_singleton, join_last, join_last]
theorem tx_lastw {ps : List (List Str)} {ws : List Str} {w : Str} (hw : ws ≠ []) : tx (ps ++ [ws ++ [w]]) = tx (ps ++ [ws]) ++ (sp1 ++ w) := by
  unfold tx
  rw [List.map_append, List.map_append, List.map_singleton, List.map_singleton, join_snoc sp1 w ws hw, join_last]
end L4

set_option Elab.async false
set_option linter.all false
set_option maxRecDepth 100000
set_option maxHeartbeats 4000000
namespace L4
open PySem L2 PySem.StrLaws
instance (w : Str) : Decidable (Fine w) := by unfold Fine; infer_instance
instance (ws : List Str) : Decidable (FineP ws) := by unfold FineP; infer_instance
theorem fine_of {w : Str} (h1 : 32 ∉ w.cps.toList) (h2 : 59 ∉ w.cps.toList) : Fine w := ⟨h1, fun z => h2 (List.mem_of_getLast? z)⟩
theorem words_fine {T : Half} (g : Good T) : ∀ ws ∈ wordsT T, FineP ws := fun ws hws => by
  obtain ⟨w, ns, rfl, h1, h2, _⟩ := g.figs ws hws
  exact ⟨by simp [L4.wordsOf], fun x hx => fine_of (words_free h1 h2 hx).1 (words_free h1 h2 hx).2⟩
theorem numW_fig {d : Int} (h : Fig d) : numW (fig d) = d := by
  have := fig_is h.1 h.2
  unfold numW
  rw [if_pos this.1]
  exact this.2.2.2
theorem numW_long {w : Str} (h : w.length ≠ 1) : numW w = -1 := if_neg h
noncomputable def nT (T : Half) : Str := fig T.m
noncomputable def wsT (T : Half) : List Str := T.ws.map fig
noncomputable def cwT (T : Half) : List (List Str) := T.cs.map wordsC
theorem words_T (T : Half) : wordsT T = [wGr, nT T] :: (wWi :: wsT T) :: cwT T := rfl
theorem figm {T : Half} (g : Good T) : Fig T.m := ⟨by have := g.m1; walk_at "om", g.m9⟩
theorem num_n {T : Half} (g : Good T) : numW (nT T) = T.m := numW_fig (figm g)
theorem four {m : Int} (h1 : 1 ≤ m) (h4 : m ≤ 4) : m = 1 ∨ m = 2 ∨ m = 3 ∨ m = 4 := by walk_at "om"
theorem pow_ge {m : Int} {p : Nat} (m1 : 1 ≤ m) (hp : p ≤ 2) : 1 ≤ m ^ p := by
  have e : p = 0 ∨ p = 1 ∨ p = 2 := by walk_at "om"
  rcases e with e | e | e <;> rw [e]
  · rw [Int.pow_zero]; decide
  · rw [Int.pow_succ, Int.pow_zero, Int.one_mul]; exact m1
  · rw [Int.pow_succ, Int.pow_succ, Int.pow_zero, Int.one_mul]; exact Int.le_trans m1 (by have := Int.mul_le_mul_of_nonneg_right m1 (show 0 ≤ m by walk_at "om"); rw [Int.one_mul] at this; exact this)
theorem cell_neg {m : Int} {u : Str} (h : gradeB m (numT u) = false) : cellB m (numT u) = false := h
theorem conn_cell {m : Int} {nm p u : Str} {r : List Str} (hu : u ∈ r) (h : gradeB m (numT u) = false) : connB m (connTh (nm :: p :: r)) = false := by
  show (nameB (.str nm) && (wholeB (numT p) && (decide (0 ≤ numW p) && decide (numW p ≤ 2)) && (decide (((r.map numT).length : Int) = m ^ (numW p).toNat) && (r.map numT).all (cellB m)))) = false
  have : (r.map numT).all (cellB m) = false := by
    rw [List.all_eq_false]
    exact ⟨_, List.mem_map.mpr ⟨u, hu, rfl⟩, by rw [cell_neg h]; decide⟩
  rw [this, Bool.and_false, Bool.and_false, Bool.and_false]
theorem neg_bad {m : Int} {u : Str} (h : numW u = -1) : gradeB m (numT u) = false := by
  show (decide (0 ≤ numW u) && decide (numW u < m)) = false
  rw [h]
  rfl
theorem bad_extra {T : Half} (g : Good T) {x : Str} {cw : List Str} (hx : x = textT T ++ (sp2 ++ Txt.join sp1 cw)) (hf : FineP cw) (hb : connB T.m (connTh cw) = false) : readB (.str x) = false := by
  have e : x = tx (wordsT T ++ [cw]) := by rw [tx_snoc (by rw [words_T]; simp)]; exact hx
  show tableB (tableTh (parse x)) = false
  rw [e, parse_fine (by simp) (fun ws hws => by
    rcases List.mem_append.mp hws with h | h
    · exact words_fine g ws h
    · rw [List.mem_singleton.mp h]; exact hf), words_T]
  exact conn_bad (r := cwT T ++ [cw]) (List.mem_append.mpr (.inr List.mem_cons_self)) (by rw [num_n g]; exact hb)
theorem last_word {T : Half} (g : Good T) : ∃ (init : List (List Str)) (lw : List Str) (w : Str), wordsT T = init ++ [lw ++ [w]] ∧ (∀ w' : Str, w' ≠ w → w'.length ≠ 1 → Wd w' → w' ≠ wWi → tableB (tableTh (init ++ [lw ++ [w']])) = false) ∧
    (tableB (tableTh (init ++ [lw ++ [w, Str.ofString ""]])) = false) ∧ (∀ ws ∈ init, FineP ws) ∧ (∀ x ∈ lw, Fine x) ∧ (w.length = 1 ∨ w = wWi) ∧ Wd w := by
  have fi := words_fine g
  have hT := words_T T
  rcases List.eq_nil_or_concat T.cs with hc | ⟨cs', c, hc⟩
  · have hcw : cwT T = [] := by unfold cwT; rw [hc]; rfl
    rw [hcw] at hT
    rcases List.eq_nil_or_concat T.ws with hw | ⟨ws', u, hw⟩
    · have hws : wsT T = [] := by unfold wsT; rw [hw]; rfl
      rw [hws] at hT
      refine ⟨[[wGr, nT T]], [], wWi, hT, fun w' _ _ _ h => wish_bad h, ?_, fun ws hws => fi ws (by rw [hT]; rw [List.mem_singleton.mp hws]; exact List.mem_cons_self), by simp, .inr rfl, by unfold Wd; decide +kernel⟩
      exact wishes_bad (u := Str.ofString "") (w := wWi) List.mem_cons_self (neg_bad (numW_long (by decide +kernel)))
    · have hws : wsT T = ws'.map fig ++ [fig u] := by unfold wsT; rw [hw, List.concat_eq_append, List.map_append]; rfl
      rw [hws] at hT
      have fu : Fig u := by have := g.ws u (by rw [hw]; simp); have := g.m9; exact ⟨by walk_at "om", by walk_at "om"⟩
      have fl := fig_is fu.1 fu.2
      refine ⟨[[wGr, nT T]], wWi :: ws'.map fig, fig u, hT, fun w' _ hl _ _ => ?_, ?_, fun ws hws => fi ws (by rw [hT]; rw [List.mem_singleton.mp hws]; exact List.mem_cons_self), fun x hx => (fi (wWi :: (ws'.map fig ++ [fig u])) (by rw [hT]; simp)).2 x ?_, .inl fl.1, fl.2.1⟩
      · exact wishes_bad (w := wWi) (u := w') (ws := ws'.map fig ++ [w']) (by simp) (neg_bad (numW_long hl))
      · exact wishes_bad (w := wWi) (u := Str.ofString "") (ws := ws'.map fig ++ [fig u, Str.ofString ""]) (by simp) (neg_bad (numW_long (by decide +kernel)))
      · rcases List.mem_cons.mp hx with rfl | hx
        · exact List.mem_cons_self
        · exact List.mem_cons_of_mem _ (List.mem_append.mpr (.inl hx))
  · have hcw : cwT T = cs'.map wordsC ++ [wordsC c] := by unfold cwT; rw [hc, List.concat_eq_append, List.map_append]; rfl
    rw [hcw] at hT
    have gc := g.each c (by rw [hc]; simp)
    have hgl : 1 ≤ (gsOf c).length := by
      have h1 := gc.len
      have h2 : 1 ≤ T.m ^ c.pl.toNat := pow_ge g.m1 (by have := gc.p2; walk_at "om")
      unfold gsOf
      rw [List.length_map]
      walk_at "om"
    rcases List.eq_nil_or_concat (gsOf c) with he | ⟨gs', u, he⟩
    · rw [he] at hgl
      simp at hgl
    · have hwc : wordsC c = (c.nm :: fig c.pl :: gs'.map fig) ++ [fig u] := by
        show c.nm :: fig c.pl :: (gsOf c).map fig = _
        rw [he, List.concat_eq_append, List.map_append]
        rfl
      rw [hwc] at hT
      obtain ⟨w0, ns, ew, k1, k2, _⟩ := g.figs (wordsC c) (by rw [words_T, hcw]; simp)
      have fu : Fig u := by
        have : Fig u := by
          have hm : u ∈ gsOf c := by rw [he]; simp
          obtain ⟨o, ho, rfl⟩ := List.mem_map.mp hm
          have k := gc.cells o ho
          have := g.m9
          cases o with
          | none => exact ⟨by decide, by decide⟩
          | some j => have := k j rfl; exact ⟨this.1, by show j ≤ 9; walk_at "om"⟩
        exact this
      have fl := fig_is fu.1 fu.2
      refine ⟨[wGr, nT T] :: (wWi :: wsT T) :: cs'.map wordsC, c.nm :: fig c.pl :: gs'.map fig, fig u, hT, fun w' _ hl _ _ => ?_, ?_, fun ws hws => fi ws ?_, fun x hx => (fi (wordsC c) (by rw [words_T, hcw]; simp)).2 x (by rw [hwc]; exact List.mem_append.mpr (.inl hx)), .inl fl.1, fl.2.1⟩
      · exact conn_bad (r := cs'.map wordsC ++ [(c.nm :: fig c.pl :: gs'.map fig) ++ [w']]) (cw := (c.nm :: fig c.pl :: gs'.map fig) ++ [w']) (by simp) (conn_cell (u := w') (r := gs'.map fig ++ [w']) (by simp) (neg_bad (numW_long hl)))
      · exact conn_bad (r := cs'.map wordsC ++ [(c.nm :: fig c.pl :: gs'.map fig) ++ [fig u, Str.ofString ""]]) (cw := (c.nm :: fig c.pl :: gs'.map fig) ++ [fig u, Str.ofString ""]) (by simp) (conn_cell (u := Str.ofString "") (r := gs'.map fig ++ [fig u, Str.ofString ""]) (by simp) (neg_bad (numW_long (by decide +kernel))))
      · rw [hT]
        show ws ∈ ([wGr, nT T] :: (wWi :: wsT T) :: cs'.map wordsC) ++ [(c.nm :: fig c.pl :: gs'.map fig) ++ [fig u]]
        exact List.mem_append.mpr (.inl hws)
theorem bad_sign {T : Half} (g : Good T) {z : Str} (hl : z.length = 1) (hz : Wd z) (hw : wWi ++ z ≠ wWi) : readB (.str (textT T ++ z)) = false := by
  obtain ⟨init, lw, w, e, h1, _, f1, f2, f3, f4⟩ := last_word g
  have ex : textT T ++ z = tx (init ++ [lw ++ [w ++ z]]) := by
    rw [tx_last, ← e]
    rfl
  have hlen : (w ++ z).length = w.length + 1 := by rw [Str.length_append, hl]
  show tableB (tableTh (parse (textT T ++ z))) = false
  have wz : Wd (w ++ z) := fun hm => by
    rw [cat_codes] at hm
    rcases List.mem_append.mp hm with hm | hm
    · exact f4 hm
    · exact hz hm
  rw [ex, parse_gen (by simp) (fun ws hws => by
    rcases List.mem_append.mp hws with h | h
    · exact (f1 ws h).ok
    · rw [List.mem_singleton.mp h]
      refine ⟨by simp, fun x hx => ?_, fun x hx => f2 x (by simpa using hx)⟩
      rcases List.mem_append.mp hx with hx | hx
      · exact (f2 x hx).1
      · rw [List.mem_singleton.mp hx]; exact wz)]
  have hne : w.length ≠ 0 := by
    rcases f3 with h | h
    · walk_at "om"
    · rw [h]; decide +kernel
  refine h1 (w ++ z) (fun hz' => ?_) (by walk_at "om") wz (fun hz' => ?_)
  · have := congrArg Str.length hz'
    rw [hlen] at this
    walk_at "om"
  · rcases f3 with h | h
    · have := congrArg Str.length hz'
      rw [hlen, h] at this
      exact absurd this (by decide +kernel)
    · rw [h] at hz'
      exact hw hz'
theorem bad_blank {T : Half} (g : Good T) : readB (.str (textT T ++ sp1)) = false := by
  obtain ⟨init, lw, w, e, _, h2, f1, f2, f3, f4⟩ := last_word g
  have ex : textT T ++ sp1 = tx (init ++ [lw ++ [w, Str.ofString ""]]) := by
    have : lw ++ [w, Str.ofString ""] = (lw ++ [w]) ++ [Str.ofString ""] := by simp
    rw [this, tx_lastw (by simp), ← e]
    have e0 : sp1 ++ Str.ofString "" = sp1 := by decide +kernel
    rw [e0]
    rfl
  show tableB (tableTh (parse (textT T ++ sp1))) = false
  have fw : Fine w := by
    have := words_fine g (lw ++ [w]) (by rw [e]; simp)
    exact this.2 w (by simp)
  rw [ex, parse_fine (by simp) (fun ws hws => by
    rcases List.mem_append.mp hws with h | h
    · exact f1 ws h
    · rw [List.mem_singleton.mp h]
      refine ⟨by simp, fun x hx => ?_⟩
      rcases List.mem_append.mp hx with hx | hx
      · exact f2 x hx
      · simp at hx
        rcases hx with rfl | rfl
        · exact fw
        · decide +kernel)]
  exact h2
end L4

set_option Elab.async false
set_option linter.all false
set_option maxRecDepth 100000
set_option maxHeartbeats 4000000
namespace L4
open PySem L2 PySem.StrLaws
theorem repl_at {x y z pre post : Str} {c : Nat} {yt : List Nat} (hy : y.cps.toList = c :: yt) (hx : x = pre ++ (y ++ post)) (hc : c ∉ pre.cps.toList) : repl1 x y z = pre ++ (z ++ post) := by
  have hyl : y.length = y.cps.toList.length := by simp [Str.length]
  have hpl : pre.length = pre.cps.toList.length := by simp [Str.length]
  have hxl : x.length = x.cps.toList.length := by simp [Str.length]
  have ec : x.cps.toList = pre.cps.toList ++ (y.cps.toList ++ post.cps.toList) := by rw [hx, cat_codes, cat_codes]
  have hA : At x y x.length pre.length := by
    refine at_codes.mpr ⟨?_, ?_⟩
    · rw [hxl, ec, List.length_append, List.length_append]
      walk_at "om"
    · rw [ec, hpl, List.drop_left, hyl, List.take_left]
  have before : ∀ k, k < pre.length → ¬ At x y x.length k := fun k hk h => by
    have h3 := at_head hy h
    rw [ec, List.getElem?_append_left (by walk_at "om")] at h3
    exact hc (List.mem_of_getElem? h3)
  rcases occ_head x y 1 (Nat.le_refl _) with ⟨h0, hn⟩ | ⟨i, r, h0, hi, hb⟩
  · exact absurd hA (hn _)
  · have ei : i = pre.length := by
      by_cases z : i < pre.length
      · exact absurd hi (before i z)
      · by_cases z2 : pre.length < i
        · exact absurd hA (hb _ z2)
        · walk_at "om"
    have er : r = [] := by
      have := occ1_len x y
      rw [h0, List.length_cons] at this
      exact List.length_eq_zero_iff.mp (by walk_at "om")
    subst er
    subst ei
    unfold repl1
    rw [h0]
    show Builtin.Str.glued z (Builtin.Str.partsBetween x [pre.length] y.length) = _
    rw [partsBetween_eq, glued_eq_join]
    apply str_of_codes
    show (Str.join z [Builtin.Str.strSub x 0 pre.length, Builtin.Str.strSub x (pre.length + y.length) x.length]).cps.toList = _
    rw [join_codes, sub_codes, cat_codes, cat_codes]
    have e1 : (x.cps.toList.drop 0).take (pre.length - 0) = pre.cps.toList := by rw [List.drop_zero, Nat.sub_zero, ec, hpl, List.take_left]
    have e2 : (Str.join z [Builtin.Str.strSub x (pre.length + y.length) x.length]).cps.toList = post.cps.toList := by
      show (Builtin.Str.strSub x (pre.length + y.length) x.length).cps.toList = _
      rw [sub_codes, List.take_of_length_le (by rw [List.length_drop]; walk_at "om"), ec, ← List.drop_drop, hpl, List.drop_left, hyl, List.drop_left]
    rw [e1, e2]
theorem bad_of {x : Str} {ps : List (List Str)} (e : x = tx ps) (ne : ps ≠ []) (hf : ∀ ws ∈ ps, FineP ws) (hb : tableB (tableTh ps) = false) : readB (.str x) = false := by
  show tableB (tableTh (parse x)) = false
  rw [e, parse_fine ne hf]
  exact hb
theorem nil_codes : (Str.ofString "").cps.toList = [] := by decide +kernel
theorem cat_nil (a : Str) : a ++ Str.ofString "" = a := str_of_codes (by rw [cat_codes, nil_codes, List.append_nil])
theorem nil_cat (a : Str) : Str.ofString "" ++ a = a := str_of_codes (by rw [cat_codes, nil_codes, List.nil_append])
theorem join_head (y a b : Str) : ∀ r : List Str, Txt.join y ((a ++ b) :: r) = a ++ Txt.join y (b :: r)
  | [] => by rw [join_one, join_one]
  | p :: r => by rw [join_two, join_two, cat_assoc]
theorem tx_h2 {a b : Str} {r1 : List Str} {r : List (List Str)} : tx ((a :: b :: r1) :: r) = a ++ (sp1 ++ tx ((b :: r1) :: r)) := by
  unfold tx
  rw [List.map_cons, List.map_cons, join_two, ← cat_assoc, join_head, cat_assoc]
theorem tx_h {a b : Str} {r1 : List Str} {r : List (List Str)} : tx (((a ++ b) :: r1) :: r) = a ++ tx ((b :: r1) :: r) := by
  unfold tx
  rw [List.map_cons, List.map_cons, join_head, join_head]
noncomputable def tailT (T : Half) : Str := tx ((Str.ofString "" :: wsT T) :: cwT T)
theorem tx_a (T : Half) (a : Str) : tx ((a :: wsT T) :: cwT T) = a ++ tailT T := by
  have := tx_h (a := a) (b := Str.ofString "") (r1 := wsT T) (r := cwT T)
  rw [cat_nil] at this
  exact this
noncomputable def restT (T : Half) : List (List Str) := (wWi :: wsT T) :: cwT T
theorem tx_rest (T : Half) : tx (restT T) = wWi ++ tailT T := tx_a T wWi
theorem join_gn (a b : Str) : Txt.join sp1 [a, b] = a ++ (sp1 ++ b) := by rw [join_two, join_one]
theorem tx_cr {p : List Str} {T : Half} : tx (p :: restT T) = Txt.join sp1 p ++ (sp2 ++ (wWi ++ tailT T)) := by
  rw [← tx_rest]
  exact tx_two
theorem text_form (T : Half) : textT T = wGr ++ (sp1 ++ (nT T ++ (sp2 ++ (wWi ++ tailT T)))) := by
  show tx ([wGr, nT T] :: restT T) = _
  rw [tx_cr, join_gn, cat_assoc, cat_assoc]
section
variable {T : Half} (g : Good T)
include g
theorem rest_fine : ∀ ws ∈ restT T, FineP ws := fun ws h => words_fine g ws (List.mem_cons_of_mem _ h)
theorem cw_fine : ∀ ws ∈ cwT T, FineP ws := fun ws h => rest_fine g ws (List.mem_cons_of_mem _ h)
theorem ws_fine : ∀ w ∈ wsT T, Fine w := fun w h => (rest_fine g (wWi :: wsT T) List.mem_cons_self).2 w (List.mem_cons_of_mem _ h)
theorem n_fine : Fine (nT T) := (words_fine g [wGr, nT T] List.mem_cons_self).2 _ (by simp)
theorem n_free : 32 ∉ (nT T).cps.toList ∧ 59 ∉ (nT T).cps.toList := by
  have := fig_is (figm g).1 (figm g).2
  exact ⟨this.2.1, this.2.2.1⟩
theorem fine_ws {pre : List Str} (h : ∀ w ∈ pre, Fine w) (hne : pre ≠ []) : FineP (pre ++ wsT T) := ⟨by simp [hne], fun w hw => by
  rcases List.mem_append.mp hw with hw | hw
  · exact h w hw
  · exact ws_fine g w hw⟩
theorem repl_sep (z : Str) : repl1 (textT T) sp2 z = wGr ++ (sp1 ++ (nT T ++ (z ++ (wWi ++ tailT T)))) := by
  have := repl_at (x := textT T) (y := sp2) (z := z) (pre := wGr ++ (sp1 ++ nT T)) (post := wWi ++ tailT T) (c := 59) (yt := [32]) (by decide +kernel) (by rw [text_form]; simp only [cat_assoc]) (by
    rw [cat_codes, cat_codes]
    intro hm
    rcases List.mem_append.mp hm with hm | hm
    · exact absurd hm (by decide +kernel)
    · rcases List.mem_append.mp hm with hm | hm
      · exact absurd hm (by decide +kernel)
      · exact (n_free g).2 hm)
  rw [this]
  simp only [cat_assoc]
theorem repl_blank (z : Str) : repl1 (textT T) sp1 z = wGr ++ (z ++ (nT T ++ (sp2 ++ (wWi ++ tailT T)))) := by
  refine repl_at (c := 32) (yt := []) (by decide +kernel) (by rw [text_form]) (by decide +kernel)
theorem repl_gr (z : Str) : repl1 (textT T) wGr z = z ++ (sp1 ++ (nT T ++ (sp2 ++ (wWi ++ tailT T)))) := by
  have := repl_at (x := textT T) (y := wGr) (z := z) (pre := Str.ofString "") (post := sp1 ++ (nT T ++ (sp2 ++ (wWi ++ tailT T)))) (c := 103) (yt := [114, 97, 100, 101, 115]) (by decide +kernel) (by rw [text_form, nil_cat]) (by decide +kernel)
  rw [this, nil_cat]
theorem repl_gr1 (z : Str) : repl1 (textT T) (Str.ofString "grades ") z = z ++ (nT T ++ (sp2 ++ (wWi ++ tailT T))) := by
  have e : Str.ofString "grades " = wGr ++ sp1 := by decide +kernel
  have := repl_at (x := textT T) (y := Str.ofString "grades ") (z := z) (pre := Str.ofString "") (post := nT T ++ (sp2 ++ (wWi ++ tailT T))) (c := 103) (yt := [114, 97, 100, 101, 115, 32]) (by decide +kernel) (by rw [text_form, nil_cat, e]; simp only [cat_assoc]) (by decide +kernel)
  rw [this, nil_cat]
theorem repl_wi (m4 : T.m ≤ 4) (z : Str) : repl1 (textT T) wWi z = wGr ++ (sp1 ++ (nT T ++ (sp2 ++ (z ++ tailT T)))) := by
  have := repl_at (x := textT T) (y := wWi) (z := z) (pre := wGr ++ (sp1 ++ (nT T ++ sp2))) (post := tailT T) (c := 119) (yt := [105, 115, 104, 101, 100]) (by decide +kernel) (by rw [text_form]; simp only [cat_assoc]) (by
    unfold nT
    rcases four g.m1 m4 with e | e | e | e <;> rw [e] <;> decide +kernel)
  rw [this]
  simp only [cat_assoc]
end
end L4

set_option Elab.async false
set_option linter.all false
set_option maxRecDepth 100000
set_option maxHeartbeats 4000000
namespace L4
open PySem L2 PySem.StrLaws
section
variable {T : Half} (g : Good T)
include g
theorem fine_cons {w : Str} (h : Fine w) : FineP (w :: wsT T) := fine_ws (pre := [w]) g (by intro x hx; rw [List.mem_singleton.mp hx]; exact h) (by simp)
theorem fine_two {w u : Str} (h : Fine w) (k : Fine u) : FineP (w :: u :: wsT T) := fine_ws (pre := [w, u]) g (by intro x hx; simp at hx; rcases hx with rfl | rfl; exact h; exact k) (by simp)
theorem bad_c1 (m4 : T.m ≤ 4) : readB (.str (repl1 (textT T) sp2 (Str.ofString ";"))) = false := by
  have f : Fine (nT T ++ (Str.ofString ";" ++ wWi)) ∧ numW (nT T ++ (Str.ofString ";" ++ wWi)) = -1 := by
    unfold nT
    rcases four g.m1 m4 with e | e | e | e <;> rw [e] <;> decide +kernel
  refine bad_of (ps := (wGr :: (nT T ++ (Str.ofString ";" ++ wWi)) :: wsT T) :: cwT T) ?_ (by simp) (fun ws h => ?_) (head_bad ?_)
  · rw [repl_sep g, tx_h2, tx_a]
    simp only [cat_assoc]
  · rcases List.mem_cons.mp h with rfl | h
    · exact fine_two g (by decide +kernel) f.1
    · exact cw_fine g ws h
  · cases wsT T with
    | nil =>
      show (decide (wGr = wGr) && (decide (1 ≤ numW _) && _)) = false
      rw [f.2]
      rfl
    | cons a r => rfl
theorem bad_c2 : readB (.str (repl1 (textT T) sp2 (Str.ofString " ; "))) = false := by
  have e1 : Str.ofString " ; " = sp1 ++ sp2 := by decide +kernel
  refine bad_of (ps := [wGr, nT T, Str.ofString ""] :: restT T) ?_ (by simp) (fun ws h => ?_) (head_bad rfl)
  · rw [repl_sep g, tx_cr, join_two, join_gn, cat_nil, e1]
    simp only [cat_assoc]
  · rcases List.mem_cons.mp h with rfl | h
    · exact ⟨by simp, fun w hw => by
        simp at hw
        rcases hw with rfl | rfl | rfl
        · decide +kernel
        · exact n_fine g
        · decide +kernel⟩
    · exact rest_fine g ws h
theorem gn_fine : FineP [wGr, nT T] := words_fine g _ List.mem_cons_self
theorem bad_c3 : readB (.str (repl1 (textT T) sp2 (Str.ofString ";  "))) = false := by
  have e1 : Str.ofString ";  " = sp2 ++ sp1 := by decide +kernel
  refine bad_of (ps := [wGr, nT T] :: (Str.ofString "" :: wWi :: wsT T) :: cwT T) ?_ (by simp) (fun ws h => ?_) (wish_bad (by decide +kernel))
  · rw [repl_sep g, tx_two, join_gn, tx_h2, tx_a, nil_cat, e1]
    simp only [cat_assoc]
  · rcases List.mem_cons.mp h with rfl | h
    · exact gn_fine g
    · rcases List.mem_cons.mp h with rfl | h
      · exact fine_two g (by decide +kernel) (by decide +kernel)
      · exact cw_fine g ws h
theorem bad_c4 : readB (.str (repl1 (textT T) sp1 (Str.ofString "  "))) = false := by
  have e1 : Str.ofString "  " = sp1 ++ sp1 := by decide +kernel
  refine bad_of (ps := [wGr, Str.ofString "", nT T] :: restT T) ?_ (by simp) (fun ws h => ?_) (head_bad rfl)
  · rw [repl_blank g, tx_cr, join_two, join_gn, nil_cat, e1]
    simp only [cat_assoc]
  · rcases List.mem_cons.mp h with rfl | h
    · exact ⟨by simp, fun w hw => by
        simp at hw
        rcases hw with rfl | rfl | rfl
        · decide +kernel
        · decide +kernel
        · exact n_fine g⟩
    · exact rest_fine g ws h
theorem bad_c5 (m4 : T.m ≤ 4) : readB (.str (repl1 (textT T) sp2 (Str.ofString ", "))) = false := by
  have e1 : Str.ofString ", " = Str.ofString "," ++ sp1 := by decide +kernel
  have f : Fine (nT T ++ Str.ofString ",") := by
    unfold nT
    rcases four g.m1 m4 with e | e | e | e <;> rw [e] <;> decide +kernel
  refine bad_of (ps := (wGr :: (nT T ++ Str.ofString ",") :: wWi :: wsT T) :: cwT T) ?_ (by simp) (fun ws h => ?_) (head_bad rfl)
  · rw [repl_sep g, tx_h2, tx_h2, tx_a, e1]
    simp only [cat_assoc]
  · rcases List.mem_cons.mp h with rfl | h
    · exact fine_ws (pre := [wGr, nT T ++ Str.ofString ",", wWi]) g (by
        intro x hx; simp at hx
        rcases hx with rfl | rfl | rfl
        · decide +kernel
        · exact f
        · decide +kernel) (by simp)
    · exact cw_fine g ws h
theorem bad_c6 : readB (.str (repl1 (textT T) wGr (Str.ofString "Grades"))) = false := by
  refine bad_of (ps := [Str.ofString "Grades", nT T] :: restT T) ?_ (by simp) (fun ws h => ?_) (head_bad ?_)
  · rw [repl_gr g, tx_cr, join_gn]
    simp only [cat_assoc]
  · rcases List.mem_cons.mp h with rfl | h
    · exact ⟨by simp, fun w hw => by
        simp at hw
        rcases hw with rfl | rfl
        · decide +kernel
        · exact n_fine g⟩
    · exact rest_fine g ws h
  · show (decide (Str.ofString "Grades" = wGr) && (decide (1 ≤ numW (nT T)) && decide (numW (nT T) ≤ 9))) = false
    rw [decide_eq_false (by decide +kernel), Bool.false_and]
theorem bad_c7 (m4 : T.m ≤ 4) {a : Str} (ha : a = Str.ofString "0" ∨ a = Str.ofString "+") : readB (.str (repl1 (textT T) (Str.ofString "grades ") (wGr ++ (sp1 ++ a)))) = false := by
  have f : Fine (a ++ nT T) ∧ numW (a ++ nT T) = -1 := by
    unfold nT
    rcases ha with rfl | rfl <;> rcases four g.m1 m4 with e | e | e | e <;> rw [e] <;> decide +kernel
  refine bad_of (ps := [wGr, a ++ nT T] :: restT T) ?_ (by simp) (fun ws h => ?_) (head_bad ?_)
  · rw [repl_gr1 g, tx_cr, join_gn]
    simp only [cat_assoc]
  · rcases List.mem_cons.mp h with rfl | h
    · exact ⟨by simp, fun w hw => by
        simp at hw
        rcases hw with rfl | rfl
        · decide +kernel
        · exact f.1⟩
    · exact rest_fine g ws h
  · show (decide (wGr = wGr) && (decide (1 ≤ numW _) && _)) = false
    rw [f.2]
    rfl
theorem bad_c9 (m4 : T.m ≤ 4) : readB (.str (repl1 (textT T) wWi (Str.ofString "wish"))) = false := by
  refine bad_of (ps := [wGr, nT T] :: (Str.ofString "wish" :: wsT T) :: cwT T) ?_ (by simp) (fun ws h => ?_) (wish_bad (by decide +kernel))
  · rw [repl_wi g m4, tx_two, join_gn, tx_a]
    simp only [cat_assoc]
  · rcases List.mem_cons.mp h with rfl | h
    · exact gn_fine g
    · rcases List.mem_cons.mp h with rfl | h
      · exact fine_cons g (by decide +kernel)
      · exact cw_fine g ws h
theorem bad_c10 (m4 : T.m ≤ 4) {a : Str} (ha : a = Str.ofString "4" ∨ a = Str.ofString "00" ∨ a = Str.ofString "-0") : readB (.str (repl1 (textT T) wWi (wWi ++ (sp1 ++ a)))) = false := by
  have f : Fine a ∧ (numW a = 4 ∨ numW a = -1) := by
    rcases ha with rfl | rfl | rfl <;> decide +kernel
  refine bad_of (ps := [wGr, nT T] :: (wWi :: a :: wsT T) :: cwT T) ?_ (by simp) (fun ws h => ?_) (wishes_bad (w := wWi) (u := a) List.mem_cons_self ?_)
  · rw [repl_wi g m4, tx_two, join_gn, tx_h2, tx_a]
    simp only [cat_assoc]
  · rcases List.mem_cons.mp h with rfl | h
    · exact gn_fine g
    · rcases List.mem_cons.mp h with rfl | h
      · exact fine_two g (by decide +kernel) f.1
      · exact cw_fine g ws h
  · rw [num_n g]
    show (decide (0 ≤ numW a) && decide (numW a < T.m)) = false
    rcases f.2 with e | e <;> rw [e]
    · rw [decide_eq_false (show ¬ (4 : Int) < T.m by walk_at "om"), Bool.and_false]
    · rfl
theorem bad_lead : readB (.str (sp1 ++ textT T)) = false := by
  refine bad_of (ps := [Str.ofString "", wGr, nT T] :: restT T) ?_ (by simp) (fun ws h => ?_) (head_bad rfl)
  · rw [text_form, tx_cr, join_two, join_gn, nil_cat]
    simp only [cat_assoc]
  · rcases List.mem_cons.mp h with rfl | h
    · exact ⟨by simp, fun w hw => by
        simp at hw
        rcases hw with rfl | rfl | rfl
        · decide +kernel
        · decide +kernel
        · exact n_fine g⟩
    · exact rest_fine g ws h
theorem wish_head : headB (wWi :: wsT T) = false := by
  cases wsT T with
  | nil => rfl
  | cons a r =>
    cases r with
    | nil =>
      show (decide (wWi = wGr) && (decide (1 ≤ numW a) && decide (numW a ≤ 9))) = false
      rw [decide_eq_false (by decide +kernel), Bool.false_and]
    | cons b r => rfl
theorem bad_d1 : readB (.str (tx (restT T))) = false := bad_of rfl (by simp [restT]) (rest_fine g) (head_bad (wish_head g))
theorem bad_d2 : readB (.str (tx ((wWi :: wsT T) :: [wGr, nT T] :: cwT T))) = false := by
  refine bad_of rfl (by simp) (fun ws h => ?_) (head_bad (wish_head g))
  rcases List.mem_cons.mp h with rfl | h
  · exact rest_fine g _ List.mem_cons_self
  · rcases List.mem_cons.mp h with rfl | h
    · exact gn_fine g
    · exact cw_fine g ws h
theorem bad_d3 : readB (.str (tx ([wGr, nT T] :: wordsT T))) = false := by
  refine bad_of rfl (by simp) (fun ws h => ?_) ?_
  · rcases List.mem_cons.mp h with rfl | h
    · exact gn_fine g
    · exact words_fine g ws h
  · exact wish_bad (w := wGr) (by decide +kernel)
theorem bad_d4 {a : Str} (ha : a = Str.ofString "0" ∨ a = Str.ofString "10") : readB (.str (tx [[wGr, a], wWi :: wsT T])) = false := by
  refine bad_of rfl (by simp) (fun ws h => ?_) (head_bad ?_)
  · simp at h
    rcases h with rfl | rfl
    · rcases ha with rfl | rfl <;> decide +kernel
    · exact rest_fine g _ List.mem_cons_self
  · rcases ha with rfl | rfl <;> decide +kernel
theorem bad_d5 : readB (.str (tx [[wGr, nT T]])) = false := by
  refine bad_of rfl (by simp) (fun ws h => ?_) short_bad
  rw [List.mem_singleton.mp h]
  exact gn_fine g
noncomputable def nines : List (List Str) := (List.range 9).map fun k => [⟨#[97, 97 + k]⟩, Str.ofString "0", Str.ofString "0"]
theorem bad_d6 : readB (.str (tx ([wGr, nT T] :: (wWi :: wsT T) :: nines))) = false := by
  refine bad_of rfl (by simp) (fun ws h => ?_) (conns_bad ?_)
  · rcases List.mem_cons.mp h with rfl | h
    · exact gn_fine g
    · rcases List.mem_cons.mp h with rfl | h
      · exact rest_fine g _ List.mem_cons_self
      · have : ∀ ws ∈ nines, FineP ws := by decide +kernel
        exact this ws h
  · exact conns_many (by decide +kernel)
theorem bad_e1 {c : Conn} {cs : List Conn} (hc : T.cs = c :: cs) : readB (.str (textT T ++ (sp2 ++ Txt.join sp1 (wordsC c)))) = false := by
  have e : textT T ++ (sp2 ++ Txt.join sp1 (wordsC c)) = tx (wordsT T ++ [wordsC c]) := by rw [tx_snoc (by rw [words_T]; simp)]; rfl
  have hm : wordsC c ∈ cwT T := by unfold cwT; rw [hc]; exact List.mem_cons_self
  refine bad_of e (by simp) (fun ws h => ?_) ?_
  · rcases List.mem_append.mp h with h | h
    · exact words_fine g ws h
    · rw [List.mem_singleton.mp h]; exact cw_fine g _ hm
  · refine conns_bad (r := cwT T ++ [wordsC c]) ?_
    rw [List.map_append]
    refine conns_dup ?_
    rw [List.map_append]
    exact dup_in (x := c.nm) (List.mem_map.mpr ⟨connTh (wordsC c), List.mem_map.mpr ⟨_, hm, rfl⟩, rfl⟩) (List.mem_map.mpr ⟨connTh (wordsC c), List.mem_cons_self, rfl⟩)
theorem bad_e2 {c : Conn} {cs : List Conn} (hc : T.cs = c :: cs) : readB (.str (tx ([wGr, nT T] :: (wWi :: wsT T) :: (wordsC c ++ [Str.ofString "0"]) :: cs.map wordsC))) = false := by
  have hm : wordsC c ∈ cwT T := by unfold cwT; rw [hc]; exact List.mem_cons_self
  have gc := g.each c (by rw [hc]; exact List.mem_cons_self)
  have fpl : Fig c.pl := ⟨gc.p0, by have := gc.p2; walk_at "om"⟩
  refine bad_of rfl (by simp) (fun ws h => ?_) (conn_bad (cw := wordsC c ++ [Str.ofString "0"]) List.mem_cons_self ?_)
  · rcases List.mem_cons.mp h with rfl | h
    · exact gn_fine g
    · rcases List.mem_cons.mp h with rfl | h
      · exact rest_fine g _ List.mem_cons_self
      · rcases List.mem_cons.mp h with rfl | h
        · have k := cw_fine g _ hm
          exact ⟨by simp, fun w hw => by
            rcases List.mem_append.mp hw with hw | hw
            · exact k.2 w hw
            · rw [List.mem_singleton.mp hw]; decide +kernel⟩
        · exact cw_fine g ws (by unfold cwT; rw [hc]; exact List.mem_cons_of_mem _ h)
  · rw [num_n g]
    show (nameB (.str c.nm) && (wholeB (numT (fig c.pl)) && (decide (0 ≤ numW (fig c.pl)) && decide (numW (fig c.pl) ≤ 2)) && (decide (((((gsOf c).map fig ++ [Str.ofString "0"]).map numT).length : Int) = T.m ^ (numW (fig c.pl)).toNat) && _))) = false
    have hl : ((((gsOf c).map fig ++ [Str.ofString "0"]).map numT).length : Int) = T.m ^ c.pl.toNat + 1 := by
      rw [List.length_map, List.length_append, List.length_map, List.length_singleton]
      have := gc.len
      unfold gsOf
      rw [List.length_map]
      walk_at "om"
    rw [numW_fig fpl, hl, decide_eq_false (show ¬ (T.m ^ c.pl.toNat + 1 = T.m ^ c.pl.toNat) by walk_at "om"), Bool.false_and, Bool.and_false, Bool.and_false]
theorem bad_e3 {c : Conn} {cs : List Conn} {nm : Str} (hc : T.cs = c :: cs) (hn : Fine nm) (hs : smallB nm = false) : readB (.str (tx ([wGr, nT T] :: (wWi :: wsT T) :: (nm :: fig c.pl :: (gsOf c).map fig) :: cs.map wordsC))) = false := by
  have hm : wordsC c ∈ cwT T := by unfold cwT; rw [hc]; exact List.mem_cons_self
  refine bad_of rfl (by simp) (fun ws h => ?_) (conn_bad (cw := nm :: fig c.pl :: (gsOf c).map fig) List.mem_cons_self ?_)
  · rcases List.mem_cons.mp h with rfl | h
    · exact gn_fine g
    · rcases List.mem_cons.mp h with rfl | h
      · exact rest_fine g _ List.mem_cons_self
      · rcases List.mem_cons.mp h with rfl | h
        · have k := cw_fine g _ hm
          exact ⟨by simp, fun w hw => by
            rcases List.mem_cons.mp hw with rfl | hw
            · exact hn
            · exact k.2 w (List.mem_cons_of_mem _ hw)⟩
        · exact cw_fine g ws (by unfold cwT; rw [hc]; exact List.mem_cons_of_mem _ h)
  · show (nameB (.str nm) && _) = false
    have : nameB (.str nm) = false := by
      show (decide (2 ≤ nm.length) && decide (nm.length ≤ 8) && smallB nm) = false
      rw [hs, Bool.and_false]
    rw [this, Bool.false_and]
end
end L4

set_option Elab.async false
set_option linter.all false
set_option maxRecDepth 100000
set_option maxHeartbeats 4000000
namespace L4
open PySem L2 PySem.StrLaws
noncomputable def MkL (X : Addr → Prop) (H0 : Hp) (σ : St) (te : TE) (ys : List Str) : Prop := ∀ (H : Hp) (Q : VK), Same H0 (cutH X H) → Kept X H → (∀ p H', Same H H' → cutH X H' p = some (.lst (ys.map V.str)) → Q (.ref p) H') → te σ H Q
theorem ths_strs {H : Hp} : ∀ {ys : List Str} {vs : List V}, Ths H (ys.map Th.str) vs → vs = ys.map V.str
  | [], _, h => by cases h; rfl
  | y :: ys, _, h => by
    cases h with
    | cons r t =>
      cases r
      rw [ths_strs t]
      rfl
section
variable {X : Addr → Prop} {H0 : Hp} {σ : St} {K : PySem.W.Frag}
theorem mk_addS {te tf : TE} {a b : Str} (he : MkE X H0 σ te (.str a)) (hf : MkE X H0 σ tf (.str b)) (hz : a.length + b.length ≤ 3000) : MkE X H0 σ (tOp (fun x y H Q => ∃ i j, x = V.str i ∧ y = V.str j ∧ i.length + j.length ≤ sizeLine ∧ Q (V.str (i ++ j)) H) te tf) (.str (a ++ b)) := fun H Q s k q =>
  he H _ s k fun v H1 s1 h1 => hf H1 _ (fun b o e => cut_same s1 _ _ (s _ _ e)) (k.same s1) fun u H2 s2 h2 => by
    cases h1
    cases h2
    exact ⟨_, _, rfl, rfl, small9k hz, q _ _ (fun b o e => s2 _ _ (s1 _ _ e)) (.str _ (by rw [Str.length_append]; exact hz))⟩
theorem mk_repl {te : TE} {x y z : Str} (he : MkE X H0 σ te (.str x)) (h1 : x.length + z.length ≤ 3000) (h2 : (repl1 x y z).length ≤ 3000) : MkE X H0 σ (tRepl y z te) (.str (repl1 x y z)) := fun H Q s k q =>
  he H _ s k fun v H1 s1 h => by
    cases h
    exact ⟨_, rfl, h1, h2, q _ _ s1 (.str _ h2)⟩
theorem mk_strI {te : TE} {i : Int} (hi : Fig i) (he : MkE X H0 σ te (.int i)) : MkE X H0 σ (tCB (fun xs H Q => ∃ i, xs = [V.int i] ∧ i.natAbs.log2 < 1920 ∧ Q (V.str (Str.ofString (toString i))) H) (tCons te tNil)) (.str (fig i)) := fun H Q s k q =>
  he H _ s k fun v H1 s1 h => by
    cases h
    refine ⟨_, rfl, ?_, q _ _ s1 (.str _ ?_)⟩
    · have h9 : i.natAbs < 2 ^ 4 := by have := hi.1; have := hi.2; walk_at "om"
      by_cases hz0 : i.natAbs = 0
      · rw [hz0]; decide
      · have := (Nat.log2_lt (n := i.natAbs) (k := 4) hz0).mpr h9
        walk_at "om"
    · have := (fig_is hi.1 hi.2).1
      walk_at "om"
theorem mk_mulS {te tk : TE} {a : Str} {n : Int} (n0 : 0 ≤ n) (n1 : n ≤ 100) (ha : a.length ≤ 10) (hl : (Txt.mul a n).length ≤ 3000) (he : MkE X H0 σ te (.str a)) (hk : ∀ H Q, Q (.int n) H → tk σ H Q) : MkE X H0 σ (tOp (fun x y H Q => ∃ (i : Str) (n : Int), x = .str i ∧ y = .int n ∧ 0 ≤ n ∧ n ≤ 100 ∧ i.length ≤ 10 ∧ Q (.str (Txt.mul i n)) H) te tk) (.str (Txt.mul a n)) := fun H Q s k q =>
  he H _ s k fun v H1 s1 h => by
    cases h
    exact hk _ _ ⟨_, _, rfl, rfl, n0, n1, ha, q _ _ s1 (.str _ hl)⟩
theorem mkl_var {i : Nat} {p : Addr} {ys : List Str} (e : σ[i]? = some (some (.ref p))) (h : H0 p = some (.lst (ys.map V.str))) : MkL X H0 σ (tVar i) ys := fun H Q s k q => ⟨_, e, q _ _ Same.rfl' (s _ _ h)⟩
theorem mkl_lst {ta : TA} {ys : List Str} (ha : MkA X H0 σ ta (ys.map Th.str)) (hl : ys.length ≤ 1000) : MkL X H0 σ (tLst ta) ys := fun H Q s k q =>
  ha H _ s k fun vs H1 s1 h1 => by
    have e := ths_strs h1
    subst e
    exact ⟨by rw [List.length_map]; exact small9 hl, fun p hp => q _ _ (fun b o e => same_new hp _ _ _ (s1 _ _ e)) (by rw [cut_yes ((k.same s1).new hp)]; exact upd_same)⟩
theorem mkl_cat {te tf : TE} {ys zs : List Str} (he : MkL X H0 σ te ys) (hf : MkL X H0 σ tf zs) (hz : ys.length + zs.length ≤ 1000) : MkL X H0 σ (tOp rCat te tf) (ys ++ zs) := fun H Q s k q =>
  he H _ s k fun p H1 s1 h1 => hf H1 _ (fun b o e => cut_same s1 _ _ (s _ _ e)) (k.same s1) fun u H2 s2 h2 => by
    have h1' := cut_same s2 _ _ h1
    refine ⟨p, u, _, _, rfl, rfl, (cut_of h1').2, (cut_of h2).2, by rw [List.length_map, List.length_map]; exact small9 hz, fun r hr => q _ _ (fun b o e => same_new hr _ _ _ (s2 _ _ (s1 _ _ e))) ?_⟩
    rw [cut_yes (((k.same s1).same s2).new hr), upd_same, List.map_append]
theorem mkl_sl {te : TE} {tl th : TO} {ys zs : List Str} {lo hi : Option Int} (hlo : ∀ H Q, Q lo H → tl σ H Q) (hhi : ∀ H Q, Q hi H → th σ H Q) (hc : cutV (ys.map V.str) lo hi = zs.map V.str) (he : MkL X H0 σ te ys) :
    MkL X H0 σ (tSl (fun x lo hi H Q => rSlL K x lo hi H Q ∨ rSlT K x lo hi H Q ∨ rSlS x lo hi H Q) te tl th) zs := fun H Q s k q =>
  he H _ s k fun p H1 s1 h1 => hlo _ _ (hhi _ _ (.inl ⟨p, _, rfl, SqL.of (cut_of h1).2, fun r hr => q _ _ (fun b o e => same_new hr _ _ _ (s1 _ _ e)) (by rw [cut_yes ((k.same s1).new hr), upd_same, hc])⟩))
theorem mk_join {te : TE} {z : Str} {ys : List Str} (he : MkL X H0 σ te ys) (hb : (ys.map (·.length)).sum + ys.length * z.length ≤ 3000) : MkE X H0 σ (tBM K "str" (rJoin K) (tC (.str z)) (tCons te tNil)) (.str (Txt.join z ys)) := fun H Q s k q => by
  refine ⟨rfl, he H _ s k fun p H1 s1 h1 => ⟨z, p, ys, rfl, rfl, SqL.of (cut_of h1).2, by walk_at "om", q _ _ s1 (.str _ ?_)⟩⟩
  have := StrLaws.join_length_le z ys
  rw [tj]
  walk_at "om"
theorem mk_ixL {i : Nat} {p : Addr} {k : Nat} {y : Str} {ys : List Str} (e : σ[i]? = some (some (.ref p))) (h : H0 p = some (.lst (ys.map V.str))) (hk : ys[k]? = some y) (hy : y.length ≤ 3000) : MkE X H0 σ (tOp (rIx K) (tVar i) (tC (.int (k : Int)))) (.str y) := fun H Q s kp q =>
  ⟨_, e, .inl ⟨p, _, _, _, rfl, rfl, SqL.of (cut_of (s _ _ h)).2, atI_nat (j := k) (by rw [List.getElem?_map, hk]; rfl), q _ _ Same.rfl' (.str _ hy)⟩⟩
theorem mkl_chars {te : TE} {z : Str} (f : Nat → Str) (hl : z.length ≤ 1000) (hix : ixSt [none] σ = [none]) (he : ∀ c ∈ z.cps.toList, ∀ (H : Hp) (Q : VK), (∀ H'', Same H H'' → Q (.str (f c)) H'') → te [some (.str ⟨#[c]⟩)] H Q) :
    MkL X H0 σ (tComp [none] (iStr (tC (.str z))) (gName 0) tYes te) (z.cps.toList.map f) := fun H Q s k q => by
  refine ⟨z, rfl, fun D hD => ?_⟩
  rw [hix]
  refine map_str (t := 0) (fun c => V.str (f c)) hl hD (fun c hc H' Q' s1 q' => he c hc H' Q' q') (fun H' s1 hD' => q _ _ s1 ?_)
  rw [cut_yes (k.new hD), hD', List.map_map]
  rfl
theorem lstB {B : Th → Bool} {H : Hp} {ta : TA} {ts : List Th} {Q : VK} (ha : MkA (fun _ => False) H σ ta ts) (hb : ∀ t ∈ ts, B t = false) (hn : ts.length ≤ 1000)
    (q : ∀ p H', FoundB B H p ts.length H' → Q (.ref p) H') : tLst ta σ H Q := by
  refine ha H _ (by rw [cut0]; exact Same.rfl') (kept0 _) fun vs H1 s1 hT => ?_
  rw [cut0] at hT
  have hl := hT.len
  refine ⟨by rw [← hl]; exact small9 hn, fun p hp => ?_⟩
  have hp0 : H p = none := by
    cases z : H p with
    | none => rfl
    | some o => rw [s1 _ _ z] at hp; cases hp
  refine q p _ ⟨hp0, fun b o z => same_new hp _ _ _ (s1 _ _ z), vs, upd_same, by walk_at "om", fun y hy => ?_⟩
  have sc : Same H1 (cutH (fun x => x = p) (upd H1 p (.lst vs))) := fun b o z => by
    have hb : b ≠ p := ne_of_none z hp
    rw [cut_ne1 hb, upd_ne hb]
    exact z
  exact (hT.badB hb y hy).same sc
end
noncomputable def oddB : Th → Bool
  | .str x => readB (.str x) || !decide (x.length ≤ 900)
  | _ => false
theorem odd_str {x : Str} (h : readB (.str x) = false) (hl : x.length ≤ 900) : oddB (.str x) = false := by
  show (readB (.str x) || !decide (x.length ≤ 900)) = false
  rw [h, decide_eq_true hl]
  rfl
theorem odd_of {t : Th} (h : oddB t = false) : (∀ x, t = .str x → x.length ≤ 900) ∧ readB t = false := by
  cases t with
  | str x =>
    have h' : (readB (.str x) || !decide (x.length ≤ 900)) = false := h
    rw [Bool.or_eq_false_iff] at h'
    refine ⟨fun z e => ?_, h'.1⟩
    cases e
    by_cases hz : x.length ≤ 900
    · exact hz
    · rw [decide_eq_false hz] at h'
      cases h'.2
  | _ => exact ⟨fun _ e => (by cases e), rfl⟩
end L4

set_option Elab.async false
set_option linter.all false
set_option maxRecDepth 100000
set_option maxHeartbeats 4000000
namespace L4
open PySem L2 PySem.StrLaws
theorem pow16 {m : Int} {p : Nat} (h1 : 1 ≤ m) (h4 : m ≤ 4) (hp : p ≤ 2) : m ^ p ≤ 16 := by
  have e : p = 0 ∨ p = 1 ∨ p = 2 := by walk_at "om"
  have hmm : m * m ≤ 16 := Int.le_trans (Int.mul_le_mul_of_nonneg_right h4 (by walk_at "om")) (by walk_at "om")
  rcases e with e | e | e <;> rw [e]
  · rw [Int.pow_zero]; decide
  · rw [Int.pow_succ, Int.pow_zero, Int.one_mul]; walk_at "om"
  · rw [Int.pow_succ, Int.pow_succ, Int.pow_zero, Int.one_mul]; exact hmm
theorem part4 {w : Str} {ns : List Int} (hw : IsName w) (h : ∀ i ∈ ns, Fig i) (hl : ns.length ≤ 17) : (partOf w ns).length ≤ 45 := by
  have e : sp1.length = 1 := by decide +kernel
  have j := StrLaws.join_length_le sp1 (wordsOf w ns)
  unfold partOf
  rw [tj]
  have b : ((wordsOf w ns).map (·.length)).sum + (wordsOf w ns).length * sp1.length ≤ 45 := by
    unfold wordsOf
    rw [List.map_cons, List.sum_cons, sum_ones ns h, List.length_cons, List.length_map, e]
    have := hw.2.1
    walk_at "om"
  walk_at "om"
section
variable {T : Half} (g : Good T) (m4 : T.m ≤ 4) (c4 : T.cs.length ≤ 4)
include g m4
theorem part_w : ∀ ws ∈ wordsT T, (Txt.join sp1 ws).length ≤ 45 := by
  intro ws h
  rcases List.mem_cons.mp h with rfl | h
  · exact part4 (ns := [T.m]) name_words.1 (fun i hi => by rw [List.mem_singleton.mp hi]; exact figm g) (by show 1 ≤ 17; decide)
  rcases List.mem_cons.mp h with rfl | h
  · exact part4 name_words.2 (fun i hi => by have := g.ws i hi; have := g.m9; exact ⟨by walk_at "om", by walk_at "om"⟩) (by have := g.wl; walk_at "om")
  · obtain ⟨c, hc, rfl⟩ := List.mem_map.mp h
    have gc := g.each c hc
    refine part4 (ns := c.pl :: gsOf c) gc.nm (fun i hi => ?_) ?_
    · rcases List.mem_cons.mp hi with rfl | hi
      · exact ⟨gc.p0, by have := gc.p2; walk_at "om"⟩
      · obtain ⟨o, ho, rfl⟩ := List.mem_map.mp hi
        have k := gc.cells o ho
        cases o with
        | none => exact ⟨by decide, by decide⟩
        | some j => have := k j rfl; exact ⟨this.1, by show j ≤ 9; walk_at "om"⟩
    · have := gc.len
      have := pow16 (p := c.pl.toNat) g.m1 m4 (by have := gc.p2; walk_at "om")
      unfold gsOf
      rw [List.length_cons, List.length_map]
      walk_at "om"
theorem parts4 : ∀ p ∈ partsT T, p.length ≤ 50 := fun p hp => by
  obtain ⟨ws, hws, rfl⟩ := List.mem_map.mp hp
  have := part_w g m4 ws hws
  walk_at "om"
end
theorem sum_50 : ∀ (ps : List Str), (∀ p ∈ ps, p.length ≤ 50) → (ps.map (·.length)).sum ≤ ps.length * 50
  | [], _ => Nat.zero_le _
  | p :: ps, h => by
    have h1 := h p List.mem_cons_self
    have h2 := sum_50 ps fun q hq => h q (List.mem_cons_of_mem _ hq)
    rw [List.map_cons, List.sum_cons, List.length_cons]
    walk_at "om"
theorem join_small {ys : List Str} (h : ∀ y ∈ ys, y.length ≤ 50) (hn : ys.length ≤ 12) : (ys.map (·.length)).sum + ys.length * sp2.length ≤ 624 ∧ (Txt.join sp2 ys).length ≤ 624 := by
  have e : sp2.length = 2 := by decide +kernel
  have hs := sum_50 ys h
  have b : (ys.map (·.length)).sum + ys.length * sp2.length ≤ 624 := by rw [e]; walk_at "om"
  refine ⟨b, ?_⟩
  have j := StrLaws.join_length_le sp2 ys
  rw [tj]
  walk_at "om"
theorem text4 {T : Half} (g : Good T) (m4 : T.m ≤ 4) (c4 : T.cs.length ≤ 4) : (textT T).length ≤ 624 ∧ (partsT T).length ≤ 6 := by
  have hn : (partsT T).length ≤ 6 := by
    unfold partsT wordsT
    rw [List.length_map, List.length_cons, List.length_cons, List.length_map]
    walk_at "om"
  exact ⟨(join_small (parts4 g m4) (by walk_at "om")).2, hn⟩
theorem lens : wGr.length = 6 ∧ wWi.length = 6 ∧ sp1.length = 1 ∧ sp2.length = 2 ∧ (Str.ofString "grades ").length = 7 := by decide +kernel
section
variable {T : Half} (g : Good T)
include g
theorem form_len : (textT T).length = 15 + (nT T).length + (tailT T).length := by
  obtain ⟨a, b, c, d, e⟩ := lens
  rw [text_form]
  simp only [Str.length_append, a, b, c, d]
  walk_at "om"
theorem len_sep (z : Str) : (repl1 (textT T) sp2 z).length ≤ (textT T).length + z.length := by
  obtain ⟨a, b, c, d, e⟩ := lens
  rw [repl_sep g, form_len g]
  simp only [Str.length_append, a, b, c, d]
  walk_at "om"
theorem len_blank (z : Str) : (repl1 (textT T) sp1 z).length ≤ (textT T).length + z.length := by
  obtain ⟨a, b, c, d, e⟩ := lens
  rw [repl_blank g, form_len g]
  simp only [Str.length_append, a, b, c, d]
  walk_at "om"
theorem len_gr (z : Str) : (repl1 (textT T) wGr z).length ≤ (textT T).length + z.length := by
  obtain ⟨a, b, c, d, e⟩ := lens
  rw [repl_gr g, form_len g]
  simp only [Str.length_append, a, b, c, d]
  walk_at "om"
theorem len_gr1 (z : Str) : (repl1 (textT T) (Str.ofString "grades ") z).length ≤ (textT T).length + z.length := by
  obtain ⟨a, b, c, d, e⟩ := lens
  rw [repl_gr1 g, form_len g]
  simp only [Str.length_append, a, b, c, d]
  walk_at "om"
theorem len_wi (m4 : T.m ≤ 4) (z : Str) : (repl1 (textT T) wWi z).length ≤ (textT T).length + z.length := by
  obtain ⟨a, b, c, d, e⟩ := lens
  rw [repl_wi g m4, form_len g]
  simp only [Str.length_append, a, b, c, d]
  walk_at "om"
end
theorem up_one : ∀ k ∈ List.range' 97 26, Txt.upper ⟨#[k]⟩ = ⟨#[k - 32]⟩ := by decide +kernel
theorem slice1 {x : Str} (h : 1 ≤ x.length) : (Txt.slice x (some 1) none).cps.toList = x.cps.toList.drop 1 := by
  have := beq_iff_eq.mp (PyProof.Rows.slice_closes_fromL (x := x) (i := 1) (b := x.length) (by decide) (by walk_at "om") rfl)
  rw [this]
  have hl := len_codes x
  show (List.take ((x.length : Int) - 1).toNat (x.cps.toList.drop 1)) = _
  exact List.take_of_length_le (by rw [List.length_drop]; walk_at "om")
theorem name_cut {x : Str} (h : IsName x) : ∃ (k : Nat) (b : Str), x = ⟨#[k]⟩ ++ b ∧ 97 ≤ k ∧ k ≤ 122 ∧ (∀ c ∈ b.cps.toList, 97 ≤ c ∧ c ≤ 122) ∧ x.cps.toList[0]? = some k := by
  have hl := len_codes x
  have h2 := h.1
  cases e : x.cps.toList with
  | nil => rw [e] at hl; simp at hl; walk_at "om"
  | cons k r =>
    have hk := h.2.2 k (by rw [e]; exact List.mem_cons_self)
    refine ⟨k, ⟨r.toArray⟩, str_of_codes ?_, hk.1, hk.2, fun c hc => h.2.2 c ?_, rfl⟩
    · rw [e, cat_codes]
      simp
    · rw [e]
      exact List.mem_cons_of_mem _ (by simpa using hc)
theorem up_bad {k : Nat} {b : Str} (h0 : 97 ≤ k) (h1 : k ≤ 122) (hb : ∀ c ∈ b.cps.toList, 97 ≤ c ∧ c ≤ 122) : Fine (⟨#[k - 32]⟩ ++ b) ∧ smallB (⟨#[k - 32]⟩ ++ b) = false := by
  have ec : ((⟨#[k - 32]⟩ : Str) ++ b).cps.toList = (k - 32) :: b.cps.toList := by rw [cat_codes]; rfl
  refine ⟨fine_of ?_ ?_, ?_⟩
  · rw [ec]
    intro z
    rcases List.mem_cons.mp z with z | z
    · walk_at "om"
    · have := hb _ z; walk_at "om"
  · rw [ec]
    intro z
    rcases List.mem_cons.mp z with z | z
    · walk_at "om"
    · have := hb _ z; walk_at "om"
  · unfold smallB
    rw [ec, List.all_cons, decide_eq_false (show ¬ 97 ≤ k - 32 by walk_at "om"), Bool.false_and, Bool.false_and]
theorem parse_text {T : Half} (g : Good T) : parse (textT T) = wordsT T := parse_fine (ps := wordsT T) (by rw [words_T]; simp) (words_fine g)
theorem conn_good {m : Int} {c : Conn} (m1 : 1 ≤ m) (m9 : m ≤ 9) (gc : GoodC m c) (fu : ∀ o ∈ c.cs, o ≠ none) : connTh (wordsC c) = thC c := by
  show Th.tup [.str c.nm, numT (fig c.pl), .tup (((gsOf c).map fig).map numT)] = .tup [.str c.nm, .int c.pl, .tup (c.cs.map thO)]
  have fpl : Fig c.pl := ⟨gc.p0, by have := gc.p2; walk_at "om"⟩
  have e1 : numT (fig c.pl) = .int c.pl := by unfold numT; rw [numW_fig fpl]
  have e2 : ((gsOf c).map fig).map numT = c.cs.map thO := by
    unfold gsOf
    rw [List.map_map, List.map_map]
    refine List.map_congr_left fun o ho => ?_
    cases o with
    | none => exact absurd rfl (fu none ho)
    | some j =>
      have k := gc.cells _ ho j rfl
      show numT (fig j) = .int j
      unfold numT
      rw [numW_fig ⟨k.1, by walk_at "om"⟩]
  rw [e1, e2]
theorem table_text {T : Half} (g : Good T) (fu : Full T) : tableTh (wordsT T) = thT T := by
  rw [words_T, tbl_of]
  show Th.tup [numT (nT T), .tup ((wsT T).map numT), .tup ((cwT T).map connTh)] = .tup [.int T.m, .tup (T.ws.map Th.int), .tup (T.cs.map thC)]
  have e1 : numT (nT T) = .int T.m := by unfold numT; rw [num_n g]
  have e2 : (wsT T).map numT = T.ws.map Th.int := by
    unfold wsT
    rw [List.map_map]
    refine List.map_congr_left fun i hi => ?_
    have k := g.ws i hi
    have := g.m9
    show numT (fig i) = .int i
    unfold numT
    rw [numW_fig ⟨k.1, by walk_at "om"⟩]
  have e3 : (cwT T).map connTh = T.cs.map thC := by
    unfold cwT
    rw [List.map_map]
    exact List.map_congr_left fun c hc => conn_good g.m1 g.m9 (g.each c hc) (fu c hc)
  rw [e1, e2, e3]
noncomputable def okD : Nat → Th → Bool
  | _, .non => true
  | _, .bl _ => true
  | _, .int _ => true
  | _, .str _ => true
  | n + 1, .tup ts => ts.all (okD n)
  | _, _ => false
theorem ths_in {H : Hp} {ts : List Th} {v : V} (h : IsTh H (.tup ts) v) : ∃ a xs, v = .ref a ∧ H a = some (.tup xs) ∧ Ths H ts xs := by
  cases h with
  | tup e hl h8 hi => exact ⟨_, _, rfl, e, ths_of hl hi⟩
theorem alike_th {H : Hp} : ∀ (n : Nat) {t : Th} {v u : V}, okD n t = true → IsTh H t v → IsTh H t u → Alike H n v u
  | 0, t, v, u, ok, h, k => by
    cases t <;> first | (cases h; cases k; exact ⟨rfl, rfl⟩) | cases ok
  | n + 1, t, v, u, ok, h, k => by
    cases t with
    | tup ts =>
      obtain ⟨a, xs, rfl, ea, hx⟩ := ths_in h
      obtain ⟨b, ys, rfl, eb, hy⟩ := ths_in k
      refine .inr ⟨a, b, xs, ys, rfl, rfl, ea, eb, ?_⟩
      have ok' : ts.all (okD n) = true := ok
      clear ea eb h k ok
      induction ts generalizing xs ys with
      | nil => cases hx; cases hy; exact .nil
      | cons t ts ih =>
        cases hx with
        | cons r1 t1 =>
          cases hy with
          | cons r2 t2 =>
            rw [List.all_cons, Bool.and_eq_true] at ok'
            exact .cons (alike_th n ok'.1 r1 r2) (ih _ t1 _ t2 ok'.2)
    | _ => first | (cases h; cases k; exact .inl ⟨rfl, rfl⟩) | cases ok
theorem ok_cells (n : Nat) : ∀ cs : List (Option Int), (cs.map thO).all (okD n) = true
  | [] => rfl
  | none :: cs => by rw [List.map_cons, List.all_cons, ok_cells n cs]; cases n <;> rfl
  | some i :: cs => by rw [List.map_cons, List.all_cons, ok_cells n cs]; cases n <;> rfl
theorem ok_ints (n : Nat) : ∀ ws : List Int, (ws.map Th.int).all (okD n) = true
  | [] => rfl
  | i :: ws => by rw [List.map_cons, List.all_cons, ok_ints n ws]; cases n <;> rfl
theorem ok_conns : ∀ cs : List Conn, (cs.map thC).all (okD 2) = true
  | [] => rfl
  | c :: cs => by
    rw [List.map_cons, List.all_cons, ok_conns cs, Bool.and_true]
    show ([Th.str c.nm, .int c.pl, .tup (c.cs.map thO)] : List Th).all (okD 1) = true
    show (true && (true && ((c.cs.map thO).all (okD 0) && true))) = true
    rw [ok_cells 0]
    rfl
theorem ok_table (T : Half) : okD 4 (thT T) = true := by
  show (true && ((T.ws.map Th.int).all (okD 2) && ((T.cs.map thC).all (okD 2) && true))) = true
  rw [ok_ints, ok_conns]
  rfl
end L4

set_option Elab.async false
set_option linter.all false
set_option maxRecDepth 100000
set_option maxHeartbeats 4000000
namespace L4
open PySem L2 PySem.StrLaws
noncomputable def OdA (X : Addr → Prop) (H0 : Hp) (σ : St) (ta : TA) (n : Nat) : Prop := ∃ ts, MkA X H0 σ ta ts ∧ (∀ t ∈ ts, oddB t = false) ∧ ts.length = n
section
variable {X : Addr → Prop} {H0 : Hp} {σ : St} {K : PySem.W.Frag}
theorem od_nil : OdA X H0 σ tNil 0 := ⟨[], mk_nil, by simp, rfl⟩
theorem od_cons {te : TE} {ta : TA} {t : Th} {n : Nat} (he : MkE X H0 σ te t) (hb : oddB t = false) (ha : OdA X H0 σ ta n) : OdA X H0 σ (tCons te ta) (n + 1) := by
  obtain ⟨ts, h1, h2, h3⟩ := ha
  refine ⟨t :: ts, mk_cons he h1, fun u hu => ?_, by rw [List.length_cons, h3]⟩
  rcases List.mem_cons.mp hu with rfl | hu
  · exact hb
  · exact h2 u hu
theorem catO {H : Hp} {l : Addr} {n k j : Nat} {ta : TA} {Q : VK} (f : FoundB oddB H0 l n H) (e : σ[j]? = some (some (.ref l))) (ha : OdA (fun x => x = l) H0 σ ta k) (hn : n + k ≤ 1000)
    (q : ∀ p H', FoundB oddB H0 p (n + k) H' → Q (.ref p) H') : tOp rCat (tVar j) (tLst ta) σ H Q := by
  obtain ⟨ts, h1, h2, rfl⟩ := ha
  exact catB f e h1 h2 hn q
theorem lstO {H : Hp} {ta : TA} {k : Nat} {Q : VK} (ha : OdA (fun _ => False) H σ ta k) (hn : k ≤ 1000) (q : ∀ p H', FoundB oddB H p k H' → Q (.ref p) H') : tLst ta σ H Q := by
  obtain ⟨ts, h1, h2, rfl⟩ := ha
  exact lstB h1 h2 hn q
theorem mk_addC {te : TE} {a s : Str} (he : MkE X H0 σ te (.str a)) (ha : a.length ≤ 700) (hs : s.length ≤ 100) : MkE X H0 σ (tOp (fun x y H Q => ∃ i j, x = V.str i ∧ y = V.str j ∧ i.length + j.length ≤ sizeLine ∧ Q (V.str (i ++ j)) H) te (tC (.str s))) (.str (a ++ s)) := mk_addS he (mk_str (by walk_at "om")) (by walk_at "om")
end
theorem odd_ad {a s : Str} (h : readB (.str (a ++ s)) = false) (ha : a.length ≤ 700) (hs : s.length ≤ 100) : oddB (.str (a ++ s)) = false := odd_str h (by rw [Str.length_append]; walk_at "om")
theorem bad_ex {T : Half} (g : Good T) (m4 : T.m ≤ 4) {s : Str} {cw : List Str} (e : s = sp2 ++ Txt.join sp1 cw) (hf : FineP cw) (hb : (([1, 2, 3, 4] : List Int).all fun m => !connB m (connTh cw)) = true) : readB (.str (textT T ++ s)) = false := by
  refine bad_extra g (cw := cw) (by rw [e]) hf ?_
  have hm : T.m ∈ ([1, 2, 3, 4] : List Int) := by rcases four g.m1 m4 with e | e | e | e <;> rw [e] <;> decide
  have := List.all_eq_true.mp hb _ hm
  simpa using this
theorem cut_nat {xs : List V} (a b : Nat) (hb : b ≤ xs.length) (ha : a ≤ b) : cutV xs (some (a : Int)) (some (b : Int)) = (xs.drop a).take (b - a) := by
  unfold cutV
  rw [HT.sIx_nat, HT.sIx_nat, show min a xs.length = a by walk_at "om", show min b xs.length = b by walk_at "om"]
theorem cut_upto {xs : List V} (b : Nat) (hb : b ≤ xs.length) : cutV xs none (some (b : Int)) = xs.take b := by
  unfold cutV
  rw [HT.sIx_none, HT.sIx_nat, show min b xs.length = b by walk_at "om", List.drop_zero, Nat.sub_zero]
theorem cut_fr {xs : List V} (k : Nat) (hk : k ≤ xs.length) : cutV xs (some (k : Int)) none = xs.drop k := by
  unfold cutV
  rw [HT.sIx_nat, HT.sIx_none, show min k xs.length = k by walk_at "om"]
  exact List.take_of_length_le (by rw [List.length_drop]; walk_at "om")
noncomputable def pj (ps : List (List Str)) : List Str := ps.map (Txt.join sp1)
theorem tx_pj (ps : List (List Str)) : Txt.join sp2 (pj ps) = tx ps := rfl
theorem parts_pj (T : Half) : partsT T = pj (wordsT T) := rfl
theorem odd_join {ps : List (List Str)} (h : readB (.str (tx ps)) = false) (hl : ∀ y ∈ pj ps, y.length ≤ 50) (hn : ps.length ≤ 12) : oddB (.str (Txt.join sp2 (pj ps))) = false := by
  refine odd_str (by rw [tx_pj]; exact h) ?_
  have := (join_small hl (by unfold pj; rw [List.length_map]; exact hn)).2
  walk_at "om"
theorem join_b {ps : List (List Str)} (hl : ∀ y ∈ pj ps, y.length ≤ 50) (hn : ps.length ≤ 12) : ((pj ps).map (·.length)).sum + (pj ps).length * sp2.length ≤ 3000 := by
  have := (join_small hl (by unfold pj; rw [List.length_map]; exact hn)).1
  walk_at "om"
theorem four_mul {T : Half} (g : Good T) (m4 : T.m ≤ 4) : T.m * T.m - 1 ≤ 15 ∧ 0 ≤ T.m * T.m - 1 ∧ (Txt.mul (Str.ofString " 0") (T.m + 1)).length ≤ 40 ∧ (Txt.mul (Str.ofString " 0") (T.m * T.m - 1)).length ≤ 40 := by
  rcases four g.m1 m4 with e | e | e | e <;> rw [e] <;> decide +kernel
theorem bad_m1 {T : Half} (g : Good T) (m4 : T.m ≤ 4) : readB (.str ((textT T ++ Str.ofString "; zz 0 ") ++ fig T.m)) = false := by
  rw [cat_assoc]
  refine bad_extra g (cw := [Str.ofString "zz", Str.ofString "0", fig T.m]) ?_ ?_ ?_
  · rcases four g.m1 m4 with e | e | e | e <;> rw [e] <;> exact congrArg _ (by decide +kernel)
  · rcases four g.m1 m4 with e | e | e | e <;> rw [e] <;> decide +kernel
  · rcases four g.m1 m4 with e | e | e | e <;> rw [e] <;> decide +kernel
theorem bad_m2 {T : Half} (g : Good T) (m4 : T.m ≤ 4) : readB (.str ((textT T ++ Str.ofString "; zz 1") ++ Txt.mul (Str.ofString " 0") (T.m + 1))) = false := by
  rw [cat_assoc]
  refine bad_extra g (cw := Str.ofString "zz" :: Str.ofString "1" :: List.replicate (T.m + 1).toNat (Str.ofString "0")) ?_ ?_ ?_
  · rcases four g.m1 m4 with e | e | e | e <;> rw [e] <;> exact congrArg _ (by decide +kernel)
  · rcases four g.m1 m4 with e | e | e | e <;> rw [e] <;> decide +kernel
  · rcases four g.m1 m4 with e | e | e | e <;> rw [e] <;> decide +kernel
theorem bad_m3 {T : Half} (g : Good T) (m4 : T.m ≤ 4) : readB (.str ((textT T ++ Str.ofString "; zz 2") ++ Txt.mul (Str.ofString " 0") (T.m * T.m - 1))) = false := by
  rw [cat_assoc]
  refine bad_extra g (cw := Str.ofString "zz" :: Str.ofString "2" :: List.replicate (T.m * T.m - 1).toNat (Str.ofString "0")) ?_ ?_ ?_
  · rcases four g.m1 m4 with e | e | e | e <;> rw [e] <;> exact congrArg _ (by decide +kernel)
  · rcases four g.m1 m4 with e | e | e | e <;> rw [e] <;> decide +kernel
  · rcases four g.m1 m4 with e | e | e | e <;> rw [e] <;> decide +kernel
noncomputable def nineS (c : Nat) : Str := (Str.ofString "a" ++ ⟨#[c]⟩) ++ Str.ofString " 0 0"
theorem nine_pj : (Str.ofString "abcdefghi").cps.toList.map nineS = pj nines := by decide +kernel
theorem nine_len : ∀ y ∈ pj nines, y.length ≤ 50 := by decide +kernel
theorem nine_chr {K : PySem.W.Frag} : ∀ c ∈ (Str.ofString "abcdefghi").cps.toList, ∀ (H : Hp) (Q : VK), (∀ H'', Same H H'' → Q (.str (nineS c)) H'') →
    tOp (fun x y H Q => ∃ i j, x = V.str i ∧ y = V.str j ∧ i.length + j.length ≤ sizeLine ∧ Q (V.str (i ++ j)) H) (tOp (fun x y H Q => ∃ i j, x = V.str i ∧ y = V.str j ∧ i.length + j.length ≤ sizeLine ∧ Q (V.str (i ++ j)) H) (tC (V.str (Str.ofString "a"))) (tVar 0)) (tC (V.str (Str.ofString " 0 0"))) [some (.str ⟨#[c]⟩)] H Q := fun c hc H Q q => by
  have e1 : (Str.ofString "a").length = 1 := by decide +kernel
  have e2 : (Str.ofString " 0 0").length = 4 := by decide +kernel
  have e3 : (Str.mk #[c]).length = 1 := rfl
  refine ⟨_, rfl, _, _, rfl, rfl, small9 (by rw [e1, e3]; decide), _, _, rfl, rfl, small9 (by rw [Str.length_append, e1, e2, e3]; decide), q _ Same.rfl'⟩
end L4

set_option maxHeartbeats 0
namespace K06
open PySem L2 L4

local macro_rules | `(tactic| walk_at "hp") => `(tactic| first | assumption | exact upd_same | (rw [upd_ne (by first | assumption | exact Ne.symm (by assumption) | exact ne_of_none (by assumption) (by assumption) | exact Ne.symm (ne_of_none (by assumption) (by assumption)))]; walk_at "hp"))
local macro_rules | `(tactic| walk_at "r1") => `(tactic| first | refine ⟨_, rfl, ?_⟩ | refine .inl ⟨_, _, _, _, rfl, rfl, SqL.of (by walk_at "hp"), rfl, ?_⟩ | refine .inr (.inl ⟨_, _, _, _, rfl, rfl, SqT.of (by walk_at "hp"), rfl, ?_⟩) | refine ⟨_, _, rfl, rfl, ?_⟩ | refine ⟨(show CMul _ _ from .inr ⟨by walk_at "om", by walk_at "om"⟩), ?_⟩ | refine ⟨(show CMul _ _ from .inl ⟨by walk_at "om", by walk_at "om"⟩), ?_⟩ | refine ⟨(show CDiv _ _ from ⟨by walk_at "om", by walk_at "om"⟩), ?_⟩ | refine ⟨(show CPow _ _ from ⟨by decide, by decide, by decide⟩), ?_⟩ | refine ⟨(show (0 : Int) < _ by walk_at "om"), ?_⟩ | refine ⟨_, _, _, _, rfl, rfl, (by walk_at "hp"), rfl, ?_⟩)
local macro_rules | `(tactic| walk_at "rd") => `(tactic| repeat walk_at "r1")

noncomputable def alpha : Str := Str.ofString "abcdefghijklmnopqrstuvwxyz"
theorem alpha_len : alpha.cps.toList.length = 26 := by decide +kernel
theorem alpha_nd : alpha.cps.toList.Nodup := by decide +kernel
theorem alpha_small : ∀ c ∈ alpha.cps.toList, 97 ≤ c ∧ c ≤ 122 := by decide +kernel
theorem alpha_at {v : Int} (h0 : 0 ≤ v) (h1 : v < 26) : ∃ c, atI alpha.cps.toList v = some c ∧ 97 ≤ c ∧ c ≤ 122 := by
  have hl := alpha_len
  have hv : v.toNat < alpha.cps.toList.length := by walk_at "om"
  have e : v = ((v.toNat : Nat) : Int) := by walk_at "om"
  refine ⟨alpha.cps.toList[v.toNat], ?_, alpha_small _ (List.getElem_mem hv)⟩
  have q := atI_nat (List.getElem?_eq_getElem hv)
  rw [← e] at q
  exact q
noncomputable def spName : Sp := fun vs H Q _ => ∃ (p l : Addr) (ns : List Str), vs = [.ref p, .ref l] ∧ Pool H p ∧ H l = some (.lst (ns.map .str)) ∧ ns.length ≤ 8 ∧ ∀ x H', Off p H H' → Pool H' p → x ∉ ns → IsName x → Q (.str x) H'
noncomputable def spCells : Sp := fun vs H Q _ => ∃ (p : Addr) (m pl often : Int), vs = [.ref p, .int m, .int pl, .int often] ∧ Pool H p ∧ 1 ≤ m ∧ m ≤ 9 ∧ 0 ≤ pl ∧ pl ≤ 2 ∧ 0 ≤ often ∧ often < 1000 ∧
  ∀ (t : Addr) (cs : List (Option Int)) (H' : Hp), Off p H H' → Pool H' p → H' t = some (.tup (cs.map cellV)) → (cs.length : Int) = m ^ pl.toNat → (∀ o ∈ cs, CellOk m o) → (often = 0 → ∀ o ∈ cs, o ≠ none) → Q (.ref t) H'
theorem cells_many {m pl : Int} (h1 : 1 ≤ m) (h9 : m ≤ 9) (p0 : 0 ≤ pl) (p2 : pl ≤ 2) : ∃ n : Int, atI [V.int 1, V.int m, V.int (m * m)] pl = some (.int n) ∧ 0 ≤ n ∧ n ≤ 81 ∧ n = m ^ pl.toNat := by
  have hm : m * m ≤ 81 := Int.le_trans (Int.mul_le_mul_of_nonneg_right h9 (by walk_at "om")) (by walk_at "om")
  have hm0 : 0 ≤ m * m := Int.mul_nonneg (by walk_at "om") (by walk_at "om")
  have e : pl = 0 ∨ pl = 1 ∨ pl = 2 := by walk_at "om"
  rcases e with rfl | rfl | rfl
  · exact ⟨1, rfl, by walk_at "om", by walk_at "om", (by show 1 = m ^ 0; rw [Int.pow_zero])⟩
  · exact ⟨m, rfl, by walk_at "om", by walk_at "om", (by show m = m ^ 1; rw [Int.pow_succ, Int.pow_zero, Int.one_mul])⟩
  · exact ⟨m * m, rfl, hm0, hm, (by show m * m = m ^ 2; rw [Int.pow_succ, Int.pow_succ, Int.pow_zero, Int.one_mul])⟩
theorem at4 {v : Int} (h0 : 0 ≤ v) (h1 : v < 4) : ∃ n : Int, atI [V.int 1, V.int 2, V.int 2, V.int 0] v = some (.int n) ∧ 0 ≤ n ∧ n ≤ 2 := by
  have e : v = 0 ∨ v = 1 ∨ v = 2 ∨ v = 3 := by walk_at "om"
  rcases e with rfl | rfl | rfl | rfl
  · exact ⟨1, rfl, by walk_at "om", by walk_at "om"⟩
  · exact ⟨2, rfl, by walk_at "om", by walk_at "om"⟩
  · exact ⟨2, rfl, by walk_at "om", by walk_at "om"⟩
  · exact ⟨0, rfl, by walk_at "om", by walk_at "om"⟩
theorem at2 {v : Int} (h0 : 0 ≤ v) (h1 : v < 2) : ∃ z : Str, atI [V.str "grades", V.str "wished"] v = some (.str z) ∧ IsName z := by
  have e : v = 0 ∨ v = 1 := by walk_at "om"
  rcases e with rfl | rfl
  · exact ⟨_, rfl, name_words.1⟩
  · exact ⟨_, rfl, name_words.2⟩
noncomputable def oneS (c : Nat) : Str := ⟨#[c]⟩
theorem ones_sum : ∀ ds : List Nat, ((ds.map oneS).map (·.length)).sum = ds.length
  | [] => rfl
  | d :: ds => by
    rw [List.map_cons, List.map_cons, List.sum_cons, ones_sum ds, List.length_cons]
    show 1 + ds.length = _
    walk_at "om"
theorem ones_name {ds : List Nat} (h : ∀ d ∈ ds, 97 ≤ d ∧ d ≤ 122) (h2 : 2 ≤ ds.length) (h8 : ds.length ≤ 8) : IsName (PySem.Txt.join (Str.ofString "") (ds.map oneS)) := by
  have e : (PySem.Txt.join (Str.ofString "") (ds.map oneS)).cps.toList = ds := join0_codes ds
  have hl := len_codes (PySem.Txt.join (Str.ofString "") (ds.map oneS))
  rw [e] at hl
  exact ⟨by walk_at "om", by walk_at "om", fun c hc => h c (by rw [e] at hc; exact hc)⟩

theorem pow81 {m : Int} {p : Nat} (h1 : 1 ≤ m) (h9 : m ≤ 9) (hp : p ≤ 2) : m ^ p ≤ 81 := by
  have e : p = 0 ∨ p = 1 ∨ p = 2 := by walk_at "om"
  have hmm : m * m ≤ 81 := Int.le_trans (Int.mul_le_mul_of_nonneg_right h9 (by walk_at "om")) (by walk_at "om")
  rcases e with e | e | e <;> rw [e]
  · rw [Int.pow_zero]; decide
  · rw [Int.pow_succ, Int.pow_zero, Int.one_mul]; walk_at "om"
  · rw [Int.pow_succ, Int.pow_succ, Int.pow_zero, Int.one_mul]; exact hmm
theorem good_fits {T : Half} (g : Good T) : Fits T := by
  refine ⟨g.m1, g.m9, g.wl, g.few, fun c hc => ?_⟩
  have gc := g.each c hc
  have h1 := gc.len
  have h2 := pow81 (p := c.pl.toNat) g.m1 g.m9 (by have := gc.p2; walk_at "om")
  walk_at "om"
theorem full_none : ∀ {cs : List Conn}, (∀ c ∈ cs, ∀ o ∈ c.cs, o ≠ none) → (cs.map nonesC).sum = 0
  | [], _ => rfl
  | c :: cs, h => by
    rw [List.map_cons, List.sum_cons, full_none fun d hd => h d (List.mem_cons_of_mem _ hd)]
    unfold nonesC
    rw [List.countP_eq_zero.mpr]
    intro o ho e
    cases o with
    | none => exact h c List.mem_cons_self _ ho rfl
    | some i => cases e

noncomputable def spWholeT : Sp := fun vs H Q _ => ∃ (t : Th) (v : V), vs = [v] ∧ IsTh H t v ∧ Q (.bl (wholeB t)) H
noncomputable def spSmallT : Sp := fun vs H Q _ => ∃ x : Str, vs = [.str x] ∧ x.length ≤ 8 ∧ ∀ H', Same H H' → Q (.bl (smallB x)) H'
noncomputable def spNameT : Sp := fun vs H Q _ => ∃ (t : Th) (v : V), vs = [v] ∧ IsTh H t v ∧ ∀ H', Same H H' → Q (.bl (nameB t)) H'
noncomputable def spGradeT : Sp := fun vs H Q _ => ∃ (t : Th) (v : V) (m : Int), vs = [v, .int m] ∧ IsTh H t v ∧ Q (.bl (gradeB m t)) H
noncomputable def spRisingT : Sp := fun vs H Q _ => ∃ (t : Th) (v : V) (m : Int), vs = [v, .int m] ∧ IsTh H t v ∧ ∀ H', Same H H' → Q (.bl (risingB m t)) H'
noncomputable def spCellsT : Sp := fun vs H Q _ => ∃ (t : Th) (v : V) (m n : Int), vs = [v, .int m, .int n] ∧ IsTh H t v ∧ ∀ H', Same H H' → Q (.bl (cellsB m n t)) H'
noncomputable def spPower : Sp := fun vs H Q _ => ∃ (b : Int) (n : Nat), vs = [.int b, .int n] ∧ 1 ≤ b ∧ b ≤ 9 ∧ n ≤ 1000 ∧ Q (.int (b ^ n)) H
noncomputable def spConnT : Sp := fun vs H Q _ => ∃ (t : Th) (v : V) (m : Int), vs = [v, .int m] ∧ IsTh H t v ∧ 1 ≤ m ∧ m ≤ 9 ∧ ∀ H', Same H H' → Q (.bl (connB m t)) H'
noncomputable def spConnsT : Sp := fun vs H Q _ => ∃ (t : Th) (v : V) (m : Int), vs = [v, .int m] ∧ IsTh H t v ∧ 1 ≤ m ∧ m ≤ 9 ∧ ∀ H', Same H H' → Q (.bl (connsB m t)) H'
noncomputable def spNones : Sp := fun vs H Q _ => ∃ (v : V) (T : Half), vs = [v] ∧ IsHalf H v T ∧ Fits T ∧ ∀ H', Same H H' → Q (.int (nones T : Nat)) H'
noncomputable def spTableT : Sp := fun vs H Q _ => ∃ (t : Th) (v : V), vs = [v] ∧ IsTh H t v ∧ ∀ H', Same H H' → Q (.bl (tableB t)) H'

noncomputable def spLaw (K : PySem.W.Frag) : Sp := fun vs H Q _ => ∃ (a : Addr) (ns : List Int), vs = [.ref a] ∧ SqL K H a (ns.map V.int) ∧ ns.length ≤ 63 ∧ ∀ H', Q (.bl true) H'
noncomputable def spHalfT : Sp := fun vs H Q _ => ∃ (t : Th) (v : V), vs = [v] ∧ IsTh H t v ∧ ∀ H', Same H H' → Q (.bl (halfB t)) H'
noncomputable def spHalf6 : Sp := fun vs H Q _ => ∃ (p : Addr) (most conn often : Int), vs = [.ref p, .int most, .int conn, .int often] ∧ Pool H p ∧ 1 ≤ most ∧ most ≤ 9 ∧ 0 ≤ conn ∧ conn ≤ 8 ∧ 0 ≤ often ∧ often < 1000 ∧
  ∀ v T H', Off p H H' → Pool H' p → IsHalf H' v T → Good T → (often = 0 → Full T) → T.m ≤ most → (T.cs.length : Int) ≤ conn → Q v H'
noncomputable def spShow : Sp := fun vs H Q _ => ∃ (v : V) (T : Half), vs = [v] ∧ IsHalf H v T ∧ Good T ∧ Full T ∧ ∀ H', Same H H' → Q (.str (textT T)) H'
noncomputable def Wds (H : Hp) : List (List Str) → List V → Prop := Paired fun ws v => ∃ a, v = .ref a ∧ H a = some (.lst (ws.map V.str))
noncomputable def spNumW : Sp := fun vs H Q _ => ∃ x : Str, vs = [.str x] ∧ x.length ≤ 3000 ∧ Q (.int (numW x)) H
noncomputable def spNumsW : Sp := fun vs H Q _ => ∃ (l : Addr) (ws : List Str), vs = [.ref l] ∧ H l = some (.lst (ws.map V.str)) ∧ ws.length ≤ 1000 ∧ (∀ w ∈ ws, w.length ≤ 3000) ∧ ∀ H' k, Same H H' → H' k = some (.lst (ws.map fun w => V.int (numW w))) → Q (.ref k) H'
noncomputable def spConnW : Sp := fun vs H Q _ => ∃ (l : Addr) (ws : List Str), vs = [.ref l] ∧ H l = some (.lst (ws.map V.str)) ∧ ws.length ≤ 1000 ∧ (∀ w ∈ ws, w.length ≤ 3000) ∧ ∀ H' v, Same H H' → IsTh H' (connTh ws) v → Q v H'
noncomputable def spTableW : Sp := fun vs H Q _ => ∃ (l : Addr) (xs : List V) (ps : List (List Str)), vs = [.ref l] ∧ H l = some (.lst xs) ∧ Wds H ps xs ∧ ps.length ≤ 1000 ∧ (∀ ws ∈ ps, ws ≠ [] ∧ ws.length ≤ 1000 ∧ ∀ w ∈ ws, w.length ≤ 3000) ∧ ∀ H' v, Same H H' → IsTh H' (tableTh ps) v → Q v H'
noncomputable def spReadW (C : Addr) : Sp := fun vs H Q E => ∃ (t : Th) (v : V), vs = [v] ∧ IsTh H t v ∧ (∀ x, t = .str x → x.length ≤ 900) ∧ (readB t = false → ∀ H', Same H H' → E (.ref C) none H') ∧ (readB t = true → ∀ H' v', Same H H' → IsTh H' (tableTh (parse (strTh t))) v' → Q v' H')
noncomputable def spAlone (C : Addr) : Sp := fun vs H Q _ => ∃ (e : Addr), vs = [.ref e, .int 1] ∧ H e = some (ExcO e (.ref C)) ∧ ∀ H', Same H H' → Q (.bl true) H'
noncomputable def Odd6 (H : Hp) (v : V) : Prop := ∃ t, IsTh H t v ∧ (∀ x, t = .str x → x.length ≤ 900) ∧ readB t = false
noncomputable def spRefused : Sp := fun vs H Q _ => ∃ (v : V), vs = [v] ∧ Odd6 H v ∧ ∀ H', Same H H' → Q (.bl true) H'
noncomputable def spOdd : Sp := fun vs H Q _ => ∃ (v : V) (T : Half), vs = [v] ∧ IsHalf H v T ∧ Good T ∧ Full T ∧ T.m ≤ 4 ∧ T.cs.length ≤ 4 ∧ ∀ H' l ys, Same H H' → H' l = some (.lst ys) → ys.length ≤ 1000 → (∀ y ∈ ys, Odd6 H' y) → Q (.ref l) H'
theorem Odd6.same {H H' : Hp} (s : Same H H') {v : V} (h : Odd6 H v) : Odd6 H' v := by
  obtain ⟨t, h1, h2⟩ := h
  exact ⟨t, h1.same s, h2⟩

theorem log_fig {z : Int} (h : Fig z) : z.natAbs.log2 < 1920 := by
  obtain ⟨z0, z9⟩ := h
  have h9 : z.natAbs < 2 ^ 4 := by walk_at "om"
  by_cases hz0 : z.natAbs = 0
  · rw [hz0]; decide
  · have := (Nat.log2_lt (n := z.natAbs) (k := 4) hz0).mpr h9
    walk_at "om"
theorem figs_comp {K : PySem.W.Frag} {a D : Addr} {H1 : Hp} {Q : VK} {ns : List Int} (ha : H1 a = some (.tup (ns.map V.int))) (hf : ∀ i ∈ ns, Fig i) (hl : ns.length ≤ 82) (hD : H1 D = none)
    (q : ∀ H', Same H1 H' → H' D = some (.lst ((ns.map fig).map V.str)) → Q (.ref D) H') :
    CompGo (Itt K a) (gName 0) tYes (tCB (fun xs H Q => ∃ i, xs = [V.int i] ∧ i.natAbs.log2 < 1920 ∧ Q (V.str (Str.ofString (toString i))) H) (tCons (tVar 0) tNil)) [none] H1 Q D := by
  refine map_tup ns V.int (fun i => V.str (fig i)) ha (by walk_at "om") hD (fun z hz H' Q' s1 q' => ?_) (fun H' s1 hD' => q H' s1 (by rw [List.map_map]; exact hD'))
  exact ⟨_, rfl, z, rfl, log_fig (hf z hz), q' _ Same.rfl'⟩
theorem grades_text {m : Int} (h1 : 1 ≤ m) (h9 : m ≤ 9) : Str.ofString "grades " ++ fig m = partOf (Str.ofString "grades") [m] := by
  have e : m = 1 ∨ m = 2 ∨ m = 3 ∨ m = 4 ∨ m = 5 ∨ m = 6 ∨ m = 7 ∨ m = 8 ∨ m = 9 := by walk_at "om"
  rcases e with rfl | rfl | rfl | rfl | rfl | rfl | rfl | rfl | rfl <;> decide +kernel
noncomputable def partC (c : Conn) : Str := partOf c.nm (c.pl :: gsOf c)
theorem parts_eq (T : Half) : partsT T = partOf (Str.ofString "grades") [T.m] :: partOf (Str.ofString "wished") T.ws :: T.cs.map partC := by
  unfold partsT wordsT
  rw [List.map_cons, List.map_cons, List.map_map]
  rfl
theorem conn_figs {m : Int} {c : Conn} (m1 : 1 ≤ m) (m9 : m ≤ 9) (gc : GoodC m c) : (∀ i ∈ gsOf c, Fig i) ∧ (gsOf c).length ≤ 81 := by
  refine ⟨fun i hi => ?_, ?_⟩
  · obtain ⟨o, ho, rfl⟩ := List.mem_map.mp hi
    have k := gc.cells o ho
    cases o with
    | none => exact ⟨by decide, by decide⟩
    | some j => have := k j rfl; exact ⟨this.1, by show j ≤ 9; walk_at "om"⟩
  · have h1 := gc.len
    have h2 := pow81 (p := c.pl.toNat) m1 m9 (by have := gc.p2; walk_at "om")
    unfold gsOf
    rw [List.length_map]
    walk_at "om"
theorem Wds.same {H H' : Hp} (s : Same H H') {ws : List (List Str)} {vs : List V} (h : Wds H ws vs) : Wds H' ws vs := by
  unfold Wds at h ⊢
  induction h with
  | nil => exact .nil
  | cons r _ ih =>
    obtain ⟨a, e, k⟩ := r
    exact .cons ⟨a, e, s _ _ k⟩ ih
theorem Wds.snoc {H : Hp} {ws : List (List Str)} {vs : List V} {w : List Str} {a : Addr} (h : Wds H ws vs) (k : H a = some (.lst (w.map V.str))) : Wds H (ws ++ [w]) (vs ++ [.ref a]) := by
  unfold Wds at h ⊢
  induction h with
  | nil => exact .cons ⟨a, rfl, k⟩ .nil
  | cons r _ ih => exact .cons r ih
theorem Wds.get {H : Hp} {ws : List (List Str)} {vs : List V} (h : Wds H ws vs) : ∀ {i : Nat} {v : V}, vs[i]? = some v → ∃ w a, ws[i]? = some w ∧ v = .ref a ∧ H a = some (.lst (w.map V.str)) := by
  unfold Wds at h
  induction h with
  | nil => intro i v e; simp at e
  | cons r _ ih =>
    intro i v e
    cases i with
    | zero =>
      simp at e
      subst e
      obtain ⟨a, e, k⟩ := r
      exact ⟨_, a, rfl, e, k⟩
    | succ i =>
      obtain ⟨w, a, e1, e2, e3⟩ := ih (i := i) (by simpa using e)
      exact ⟨w, a, by simpa using e1, e2, e3⟩
theorem Wds.len {H : Hp} {ws : List (List Str)} {vs : List V} (h : Wds H ws vs) : vs.length = ws.length := (Paired.length h).symm
theorem cut_from {xs : List V} (k : Nat) (hk : k ≤ xs.length) : cutV xs (some (k : Int)) none = xs.drop k := by
  unfold cutV
  rw [HT.sIx_nat, HT.sIx_none, show min k xs.length = k by walk_at "om"]
  exact List.take_of_length_le (by rw [List.length_drop]; walk_at "om")
theorem cut_ints (ns : List Int) (lo hi : Option Int) : ∃ ms : List Int, cutV (ns.map V.int) lo hi = ms.map V.int := by
  unfold cutV
  rw [← List.map_drop, ← List.map_take]
  exact ⟨_, rfl⟩
theorem cat_ints (ms : List Int) : ([.int 0] ++ ms.map V.int : List V) = (0 :: ms).map V.int := rfl
local macro_rules | `(tactic| walk_at "mk") => `(tactic| repeat' first | exact mk_nil | exact mk_int | exact mk_bl | exact mk_non | exact mk_neg | exact mk_dct | exact mk_str (by decide +kernel) | exact mk_var rfl (by assumption) | apply mk_cons | apply mk_tup | apply mk_lst | apply mk_list | refine mk_cat ?_ ?_ ?_ | refine mk_sl (by intro H Q h; first | exact h | exact ⟨_, rfl, h⟩ | exact ⟨_, rfl, _, rfl, h⟩ | exact ⟨_, rfl, _, _, rfl, rfl, _, rfl, h⟩) (by intro H Q h; first | exact h | exact ⟨_, rfl, h⟩ | exact ⟨_, rfl, _, rfl, h⟩ | exact ⟨_, rfl, _, _, rfl, rfl, _, rfl, h⟩) ?_ | refine mk_drop 2 (by decide) ?_ ?_ | exact Nat.le_of_ble_eq_true rfl)

theorem wds_get {H : Hp} {ps : List (List Str)} {xs : List V} (h : Wds H ps xs) {i : Nat} {ws : List Str} (e : ps[i]? = some ws) : ∃ a, xs[i]? = some (.ref a) ∧ H a = some (.lst (ws.map V.str)) := by
  have hl := h.len
  have hi : i < ps.length := (List.getElem?_eq_some_iff.mp e).1
  have hx : xs[i]? = some (xs.getD i .non) := by simp [List.getD, show i < xs.length by walk_at "om"]
  obtain ⟨w, a, e1, e2, e3⟩ := h.get hx
  rw [e] at e1
  cases e1
  exact ⟨a, by rw [hx, e2], e3⟩
theorem conn_tk {H H' : Hp} (k : Tk H H') {ws : List Str} {v : V} (h : IsTh H (connTh ws) v) : IsTh H' (connTh ws) v := by
  match ws, h with
  | [], h => cases h; exact .non
  | [w], h => cases h; exact .non
  | n :: p :: r, h =>
    obtain ⟨a, xs, rfl, e, hl, h8⟩ := zip_of_get h
    obtain ⟨x, y, z, rfl⟩ := three hl.symm
    have h0 := zip_mem h e (p := (.str n, x)) (by simp)
    have h1 := zip_mem h e (p := (numT p, y)) (by simp)
    have h2 := zip_mem h e (p := (.tup (r.map numT), z)) (by simp)
    cases h0
    cases h1
    rename_i hn
    obtain ⟨b, ys, rfl, eb, hlb, h8b⟩ := zip_of_get h2
    refine Ths.tup (vs := [.str n, .int (numW p), .ref b]) (.cons (.str _ hn) (.cons (.int _) (.cons ?_ .nil))) (k _ _ e) (by show 3 ≤ 1000; decide)
    refine .tup (k _ _ eb) hlb h8b fun i t x ht hx => ?_
    cases h2 with
    | tup e' _ _ hh =>
      rw [eb] at e'
      cases e'
      have := hh i t x ht hx
      rw [List.getElem?_map] at ht
      obtain ⟨w, _, rfl⟩ := Option.map_eq_some_iff.mp ht
      cases this
      exact .int _
theorem ths_tk {H H' : Hp} (k : Tk H H') : ∀ {cs : List (List Str)} {vs : List V}, Ths H (cs.map connTh) vs → Ths H' (cs.map connTh) vs
  | [], _, h => by cases h; exact .nil
  | c :: cs, _, h => by
    cases h with
    | cons r t => exact .cons (conn_tk k r) (ths_tk k t)
theorem ths_snoc {H : Hp} {ts : List Th} {vs : List V} {t : Th} {v : V} (h : Ths H ts vs) (k : IsTh H t v) : Ths H (ts ++ [t]) (vs ++ [v]) := by
  unfold Ths at h ⊢
  induction h with
  | nil => exact .cons k .nil
  | cons r _ ih => exact .cons r ih
theorem tbl_bad {ps : List (List Str)} (h : ∀ g n w ws cs, ps = [g, n] :: (w :: ws) :: cs → ¬ (g = wGr ∧ w = wWi)) : tableTh ps = .non := by
  unfold tableTh
  split
  · exact if_neg (h _ _ _ _ _ rfl)
  · rfl

theorem read_yes {T : Half} (g : Good T) (fu : Full T) : readB (.str (textT T)) = true := by
  show tableB (tableTh (parse (textT T))) = true
  rw [parse_text g, table_text g fu]
  unfold tableB
  rw [half_yes g, nones_th, show nones T = 0 from full_none fu]
  rfl

noncomputable abbrev sg (T : Half) (a w1 c' pl : Addr) (x : Option V) : St := [some (.ref a), some (.str (textT T)), some (.int T.m), some (.ref w1), some (.ref c'), some (.ref pl), x]
theorem mk_rp {X : Addr → Prop} {H0 : Hp} {σ : St} {te : TE} {x y z : Str} (he : MkE X H0 σ te (.str x)) (hx : x.length ≤ 700) (hz : z.length ≤ 20) (h2 : (repl1 x y z).length ≤ x.length + z.length) : MkE X H0 σ (tRepl y z te) (.str (repl1 x y z)) := mk_repl he (by walk_at "om") (by walk_at "om")
theorem odd_rp {x y z : Str} (h : readB (.str (repl1 x y z)) = false) (hx : x.length ≤ 700) (hz : z.length ≤ 20) (h2 : (repl1 x y z).length ≤ x.length + z.length) : oddB (.str (repl1 x y z)) = false := odd_str h (by walk_at "om")

section
variable {X : Addr → Prop} {H0 : Hp} {σ : St} {K : PySem.W.Frag}
theorem mk_ixC {te : TE} {x : Str} {k : Nat} (he : MkE X H0 σ te (.str x)) (hx : x.length ≤ 3000) (hk : x.cps.toList[0]? = some k) : MkE X H0 σ (tOp (rIx K) te (tC (.int 0))) (.str ⟨#[k]⟩) := fun H Q s kp q =>
  he H _ s kp fun v H1 s1 h => by
    cases h
    exact .inr (.inr ⟨x, 0, k, rfl, rfl, small9k hx, atI_nat (j := 0) hk, q _ _ s1 (.str _ (by show 1 ≤ 3000; decide))⟩)
theorem mk_up {te : TE} {z : Str} (he : MkE X H0 σ te (.str z)) (hl : (PySem.Txt.upper z).length ≤ 3000) : MkE X H0 σ (tBM0 K "str" rUpper te) (.str (PySem.Txt.upper z)) := fun H Q s kp q =>
  he H _ s kp fun v H1 s1 h => by
    cases h
    exact ⟨rfl, z, rfl, rfl, hl, q _ _ s1 (.str _ hl)⟩
theorem mk_slS {te : TE} {x : Str} (he : MkE X H0 σ te (.str x)) (hx : x.length ≤ 3000) (hl : (PySem.Txt.slice x (some 1) none).length ≤ 3000) : MkE X H0 σ (tSl (fun x lo hi H Q => rSlL K x lo hi H Q ∨ rSlT K x lo hi H Q ∨ rSlS x lo hi H Q) te (tPart (tC (.int 1))) tNoPart) (.str (PySem.Txt.slice x (some 1) none)) := fun H Q s kp q =>
  he H _ s kp fun v H1 s1 h => by
    cases h
    exact ⟨1, rfl, .inr (.inr ⟨x, rfl, small9k hx, q _ _ s1 (.str _ hl)⟩)⟩
end
noncomputable def top (i : Nat) : Stmt := PySem.Challenge.pw_truthgrades_k06_texts_of_no_table.main.body.getD i (.Pass ⟨0, 0, 0, 0⟩)
structure Gb (mg : Str → Option Value) : Prop where
  «abs» : mg "abs" = none
  «range» : mg "range" = none
  «tuple» : mg "tuple" = none
  «sum» : mg "sum" = none
  «isinstance» : mg "isinstance" = none
  «int» : mg "int" = none
  «bool» : mg "bool" = none
  «str» : mg "str" = none
  «len» : mg "len" = none
  «all» : mg "all" = none
  «zip» : mg "zip" = none
  «set» : mg "set" = none
  «ValueError» : mg "ValueError" = none
  «MOST_GRADES» : ∃ u, mg "MOST_GRADES" = some u ∧ RelV (.int 9) u
  «MOST_PLACES» : ∃ u, mg "MOST_PLACES" = some u ∧ RelV (.int 2) u
  «MOST_CONNECTIVES» : ∃ u, mg "MOST_CONNECTIVES" = some u ∧ RelV (.int 8) u
  «FIGURES» : ∃ u, mg "FIGURES" = some u ∧ RelV (.str figures) u
structure Cl (K : PySem.W.Frag) (mg : Str → Option Value) (c : Nat → Addr) : Prop where
  g_GradeError : mg "GradeError" = some (.ref (c 0))
  g_NoFraction : mg "NoFraction" = some (.ref (c 1))
  g_NoTable : mg "NoTable" = some (.ref (c 2))
  g_NoName : mg "NoName" = some (.ref (c 3))
  g_NoSaying : mg "NoSaying" = some (.ref (c 4))
  g_NoLetter : mg "NoLetter" = some (.ref (c 5))
  g_TooMany : mg "TooMany" = some (.ref (c 6))
  g_NoKind : mg "NoKind" = some (.ref (c 7))
  g_NoCount : mg "NoCount" = some (.ref (c 8))
  g_NoRow : mg "NoRow" = some (.ref (c 9))
  g_NoKept : mg "NoKept" = some (.ref (c 10))
  x_NoTable : PySem.W.excIn K (c 2) [.type "ValueError", .type "Exception", .type "BaseException", .type "object"] "ValueError.__new__" = true
  m_NoTable : PySem.W.exmOne K (.ref (c 2)) (.ref (c 0)) = some true
  h_NoTable : excLook K (c 2) = true
  k_ValueError : PySem.W.kitOne K (.ref (c 2)) (.type "ValueError") = some true
  k_NoFraction : PySem.W.kitOne K (.ref (c 2)) (.ref (c 1)) = some false
  k_NoTable : PySem.W.kitOne K (.ref (c 2)) (.ref (c 2)) = some true
  k_NoName : PySem.W.kitOne K (.ref (c 2)) (.ref (c 3)) = some false
  k_NoSaying : PySem.W.kitOne K (.ref (c 2)) (.ref (c 4)) = some false
  k_NoLetter : PySem.W.kitOne K (.ref (c 2)) (.ref (c 5)) = some false
  k_TooMany : PySem.W.kitOne K (.ref (c 2)) (.ref (c 6)) = some false
  k_NoKind : PySem.W.kitOne K (.ref (c 2)) (.ref (c 7)) = some false
  k_NoCount : PySem.W.kitOne K (.ref (c 2)) (.ref (c 8)) = some false
  k_NoRow : PySem.W.kitOne K (.ref (c 2)) (.ref (c 9)) = some false
  k_NoKept : PySem.W.kitOne K (.ref (c 2)) (.ref (c 10)) = some false
noncomputable abbrev s_law_draw : Stmt := top 38
theorem sc_law_draw : FnScope ["_law_pool_here", "_law_many", "_law_found"] ["_law_pool_here", "_law_many"] (defScope s_law_draw) := ⟨rfl, rfl, rfl, by decide +kernel, rfl, by decide +kernel, by decide +kernel⟩
theorem ok_law_draw {P : Program} {w : World} {K : PySem.W.Frag} {mg : Str → Option Value} {base : Heap} {f : Addr} {fd : FuncData} (F : Fun K "_law_draw" "_law_draw" s_law_draw f fd) (gb : Gb mg) {c : Nat → Addr} (cl : Cl K mg c) : FnOk P w K mg base CX0 1 f fd ["_law_pool_here", "_law_many"] spDraw := by
  refine F.ok sc_law_draw (fun vs H Q E h => ?_) (fun cdv A outer s H vs Q E hr h => ?_)
  · obtain ⟨p, m, rfl, _⟩ := h
    rfl
  obtain ⟨p, m, rfl, ⟨r, a, b, hp⟩, m0, m1, q⟩ := h
  refine ⟨_, (@pss_cons _ _ _ _ _ (@ps_if _ _ _ _ _ _ _ _ (@pt_cmpR _ _ _ _ _ _ _ _ (@op_gt _) (@pe_ix _ _ _ _ _ _ _ (@kix_seq _ K (by rfl)) (@pv _ 0 _ _ (by rfl) (by first | exact Or.inl rfl | exact Or.inr (Or.inl rfl) | exact Or.inr (Or.inr rfl)) (by decide) (by decide)) (@pe_int _ _ _ _) (fun _ _ => rfl)) (@pe_int _ _ _ _) (@nomark _ _ (by decide) (by decide))) (@pss_cons _ _ _ _ _ (@ps_set _ _ 2 _ _ _ _ sc_law_draw.nd rfl (Or.inl rfl) (@pe_op _ _ _ _ _ _ _ _ (@op_mod _) (@pe_ix _ _ _ _ _ _ _ (@kix_seq _ K (by rfl)) (@pv _ 0 _ _ (by rfl) (by first | exact Or.inl rfl | exact Or.inr (Or.inl rfl) | exact Or.inr (Or.inr rfl)) (by decide) (by decide)) (@pe_int _ _ _ _) (fun _ _ => rfl)) (@pv _ 1 _ _ (by rfl) (by first | exact Or.inl rfl | exact Or.inr (Or.inl rfl) | exact Or.inr (Or.inr rfl)) (by decide) (by decide))) (by rfl) (by first | exact .inl rfl | exact .inr rfl | assumption)) (@pss_cons _ _ _ _ _ (@ps_asg _ _ _ _ _ _ (@pe_op _ _ _ _ _ _ _ _ (@op_fdiv _) (@pe_ix _ _ _ _ _ _ _ (@kix_seq _ K (by rfl)) (@pv _ 0 _ _ (by rfl) (by first | exact Or.inl rfl | exact Or.inr (Or.inl rfl) | exact Or.inr (Or.inr rfl)) (by decide) (by decide)) (@pe_int _ _ _ _) (fun _ _ => rfl)) (@pv _ 1 _ _ (by rfl) (by first | exact Or.inl rfl | exact Or.inr (Or.inl rfl) | exact Or.inr (Or.inr rfl)) (by decide) (by decide))) (@pg_sub _ _ _ _ _ _ _ (@pv _ 0 _ _ (by rfl) (by first | exact Or.inl rfl | exact Or.inr (Or.inl rfl) | exact Or.inr (Or.inr rfl)) (by decide) (by decide)) (@pe_int _ _ _ _) (@set_list _) (by intro _; rfl)) (by rfl) (by rfl) (by rfl)) (@pss_one _ _ _ (@ps_ret _ _ _ _ (@pv _ 2 _ _ (by rfl) (by first | exact Or.inl rfl | exact Or.inr (Or.inl rfl) | exact Or.inr (Or.inr rfl)) (by decide) (by decide)))))) (@pss_nil _)) (@pss_cons _ _ _ _ _ (@ps_asg _ _ _ _ _ _ (@pe_op _ _ _ _ _ _ _ _ (@op_mod _) (@pe_op _ _ _ _ _ _ _ _ (@op_add _) (@pe_op _ _ _ _ _ _ _ _ (@op_add _) (@pe_op _ _ _ _ _ _ _ _ (@op_mul _) (@pe_ix _ _ _ _ _ _ _ (@kix_seq _ K (by rfl)) (@pv _ 0 _ _ (by rfl) (by first | exact Or.inl rfl | exact Or.inr (Or.inl rfl) | exact Or.inr (Or.inr rfl)) (by decide) (by decide)) (@pe_int _ _ _ _) (fun _ _ => rfl)) (@pe_int _ _ _ _)) (@pe_ix _ _ _ _ _ _ _ (@kix_seq _ K (by rfl)) (@pv _ 0 _ _ (by rfl) (by first | exact Or.inl rfl | exact Or.inr (Or.inl rfl) | exact Or.inr (Or.inr rfl)) (by decide) (by decide)) (@pe_int _ _ _ _) (fun _ _ => rfl))) (@pe_int _ _ _ _)) (@pe_int _ _ _ _)) (@pg_sub _ _ _ _ _ _ _ (@pv _ 0 _ _ (by rfl) (by first | exact Or.inl rfl | exact Or.inr (Or.inl rfl) | exact Or.inr (Or.inr rfl)) (by decide) (by decide)) (@pe_int _ _ _ _) (@set_list _) (by intro _; rfl)) (by rfl) (by rfl) (by rfl)) (@pss_cons _ _ _ _ _ (@ps_asg _ _ _ _ _ _ (@pe_op _ _ _ _ _ _ _ _ (@op_mod _) (@pe_op _ _ _ _ _ _ _ _ (@op_add _) (@pe_op _ _ _ _ _ _ _ _ (@op_add _) (@pe_op _ _ _ _ _ _ _ _ (@op_mul _) (@pe_ix _ _ _ _ _ _ _ (@kix_seq _ K (by rfl)) (@pv _ 0 _ _ (by rfl) (by first | exact Or.inl rfl | exact Or.inr (Or.inl rfl) | exact Or.inr (Or.inr rfl)) (by decide) (by decide)) (@pe_int _ _ _ _) (fun _ _ => rfl)) (@pe_int _ _ _ _)) (@pe_op _ _ _ _ _ _ _ _ (@op_mod _) (@pe_op _ _ _ _ _ _ _ _ (@op_mul _) (@pe_ix _ _ _ _ _ _ _ (@kix_seq _ K (by rfl)) (@pv _ 0 _ _ (by rfl) (by first | exact Or.inl rfl | exact Or.inr (Or.inl rfl) | exact Or.inr (Or.inr rfl)) (by decide) (by decide)) (@pe_int _ _ _ _) (fun _ _ => rfl)) (@pe_ix _ _ _ _ _ _ _ (@kix_seq _ K (by rfl)) (@pv _ 0 _ _ (by rfl) (by first | exact Or.inl rfl | exact Or.inr (Or.inl rfl) | exact Or.inr (Or.inr rfl)) (by decide) (by decide)) (@pe_int _ _ _ _) (fun _ _ => rfl))) (@pe_int _ _ _ _))) (@pe_int _ _ _ _)) (@pe_int _ _ _ _)) (@pg_sub _ _ _ _ _ _ _ (@pv _ 0 _ _ (by rfl) (by first | exact Or.inl rfl | exact Or.inr (Or.inl rfl) | exact Or.inr (Or.inr rfl)) (by decide) (by decide)) (@pe_int _ _ _ _) (@set_list _) (by intro _; rfl)) (by rfl) (by rfl) (by rfl)) (@pss_one _ _ _ (@ps_ret _ _ _ _ (@pe_op _ _ _ _ _ _ _ _ (@op_mod _) (@pe_op _ _ _ _ _ _ _ _ (@op_fdiv _) (@pe_op _ _ _ _ _ _ _ _ (@op_add _) (@pe_ix _ _ _ _ _ _ _ (@kix_seq _ K (by rfl)) (@pv _ 0 _ _ (by rfl) (by first | exact Or.inl rfl | exact Or.inr (Or.inl rfl) | exact Or.inr (Or.inr rfl)) (by decide) (by decide)) (@pe_int _ _ _ _) (fun _ _ => rfl)) (@pe_op _ _ _ _ _ _ _ _ (@op_mul _) (@pe_int _ _ _ _) (@pe_ix _ _ _ _ _ _ _ (@kix_seq _ K (by rfl)) (@pv _ 0 _ _ (by rfl) (by first | exact Or.inl rfl | exact Or.inr (Or.inl rfl) | exact Or.inr (Or.inr rfl)) (by decide) (by decide)) (@pe_int _ _ _ _) (fun _ _ => rfl)))) (@pe_int _ _ _ _)) (@pv _ 1 _ _ (by rfl) (by first | exact Or.inl rfl | exact Or.inr (Or.inl rfl) | exact Or.inr (Or.inr rfl)) (by decide) (by decide)))))))), ?_⟩
  walk_at "rd"
  refine ite2 (fun c => ?_) (fun c => ?_)
  · walk_at "rd"
    exact q _ _ (Int.emod_nonneg _ (by walk_at "om")) (Int.emod_lt_of_pos _ m0) Off.put ⟨_, _, _, upd_same⟩
  · walk_at "rd"
    exact q _ _ (Int.emod_nonneg _ (by walk_at "om")) (Int.emod_lt_of_pos _ m0) (Off.put.trans Off.put) ⟨_, _, _, upd_same⟩

noncomputable abbrev s_law_pool : Stmt := top 37
theorem sc_law_pool : FnScope ["_law_cell", "_law_rest", "_law_one"] ["_law_cell"] (defScope s_law_pool) := ⟨rfl, rfl, rfl, by decide +kernel, rfl, by decide +kernel, by decide +kernel⟩
theorem ok_law_pool {P : Program} {w : World} {K : PySem.W.Frag} {mg : Str → Option Value} {base : Heap} {f : Addr} {fd : FuncData} (F : Fun K "_law_pool" "_law_pool" s_law_pool f fd) (gb : Gb mg) {c : Nat → Addr} (cl : Cl K mg c) : FnOk P w K mg base CX0 1 f fd ["_law_cell"] spPool := by
  refine F.ok sc_law_pool (fun vs H Q E h => ?_) (fun cdv A outer s H vs Q E hr h => ?_)
  · obtain ⟨c, rfl, _⟩ := h
    rfl
  obtain ⟨c, rfl, q⟩ := h
  refine ⟨_, (@pss_cons _ _ _ _ _ (@ps_set _ _ 1 _ _ _ _ sc_law_pool.nd rfl (Or.inl rfl) (@pe_int _ _ _ _) (by rfl) (by first | exact .inl rfl | exact .inr rfl | assumption)) (@pss_cons _ _ _ _ _ (@ps_if _ _ _ _ _ _ _ _ (@PW.pt _ _ _ (@pw_or _ _ _ _ _ _ _ (@pt_cmpR _ _ _ _ _ _ _ _ (@op_lt _) (@pv _ 0 _ _ (by rfl) (by first | exact Or.inl rfl | exact Or.inr (Or.inl rfl) | exact Or.inr (Or.inr rfl)) (by decide) (by decide)) (@pe_int _ _ _ _) (@nomark _ _ (by decide) (by decide))) (@pw_or1 _ _ _ _ (@pt_cmpR _ _ _ _ _ _ _ _ (@op_ge _) (@pv _ 0 _ _ (by rfl) (by first | exact Or.inl rfl | exact Or.inr (Or.inl rfl) | exact Or.inr (Or.inr rfl)) (by decide) (by decide)) (@pe_op _ _ _ _ _ _ _ _ (@op_pow _) (@pe_int _ _ _ _) (@pe_int _ _ _ _)) (@nomark _ _ (by decide) (by decide)))))) (@pss_one _ _ _ (@ps_set _ _ 1 _ _ _ _ sc_law_pool.nd rfl (Or.inl rfl) (@pe_callB _ _ _ _ _ _ _ _ _ (@call_abs _) rfl gb.abs bt_abs (@pa_cons _ _ _ _ _ (@pv _ 0 _ _ (by rfl) (by first | exact Or.inl rfl | exact Or.inr (Or.inl rfl) | exact Or.inr (Or.inr rfl)) (by decide) (by decide)) (@pa_nil _) (by rfl)) (by decide) (by decide) (by rfl) (by rfl)) (by rfl) (by first | exact .inl rfl | exact .inr rfl | assumption))) (@pss_nil _)) (@pss_cons _ _ _ _ _ (@ps_set _ _ 2 _ _ _ _ sc_law_pool.nd rfl (Or.inl rfl) (@pe_op _ _ _ _ _ _ _ _ (@op_mod _) (@pv _ 0 _ _ (by rfl) (by first | exact Or.inl rfl | exact Or.inr (Or.inl rfl) | exact Or.inr (Or.inr rfl)) (by decide) (by decide)) (@pe_int _ _ _ _)) (by rfl) (by first | exact .inl rfl | exact .inr rfl | assumption)) (@pss_one _ _ _ (@ps_ret _ _ _ _ (@pe_lst _ _ _ _ (@pa_cons _ _ _ _ _ (@pv _ 1 _ _ (by rfl) (by first | exact Or.inl rfl | exact Or.inr (Or.inl rfl) | exact Or.inr (Or.inr rfl)) (by decide) (by decide)) (@pa_cons _ _ _ _ _ (@pv _ 2 _ _ (by rfl) (by first | exact Or.inl rfl | exact Or.inr (Or.inl rfl) | exact Or.inr (Or.inr rfl)) (by decide) (by decide)) (@pa_cons _ _ _ _ _ (@pe_op _ _ _ _ _ _ _ _ (@op_mod _) (@pe_op _ _ _ _ _ _ _ _ (@op_add _) (@pe_op _ _ _ _ _ _ _ _ (@op_mul _) (@pv _ 2 _ _ (by rfl) (by first | exact Or.inl rfl | exact Or.inr (Or.inl rfl) | exact Or.inr (Or.inr rfl)) (by decide) (by decide)) (@pe_int _ _ _ _)) (@pe_int _ _ _ _)) (@pe_int _ _ _ _)) (@pa_nil _) (by rfl)) (by rfl)) (by rfl)))))))), ?_⟩
  walk_at "rd"
  refine ite2 (fun c1 => ?_) (fun c1 => ?_)
  · walk_at "rd"
    exact ⟨small9 (by show 3 ≤ 1000; decide), fun p hp => q p _ _ _ hp⟩
  · walk_at "rd"
    refine ite2 (fun c2 => ?_) (fun c2 => ?_)
    · walk_at "rd"
      exact ⟨small9 (by show 3 ≤ 1000; decide), fun p hp => q p _ _ _ hp⟩
    · walk_at "rd"
      exact ⟨small9 (by show 3 ≤ 1000; decide), fun p hp => q p _ _ _ hp⟩

noncomputable abbrev s_law_name : Stmt := top 39
theorem sc_law_name : FnScope ["_law_pool_here", "_law_names", "_law_letters", "_law_name_here", "_law_some"] ["_law_pool_here", "_law_names"] (defScope s_law_name) := ⟨rfl, rfl, rfl, by decide +kernel, rfl, by decide +kernel, by decide +kernel⟩

theorem inV_str (s : Str) (ns : List Str) : inV (.str s) (ns.map V.str) = decide (s ∈ ns) := by
  induction ns with
  | nil => rfl
  | cons n ns ih =>
    have e : inV (.str s) ((n :: ns).map V.str) = ((n == s) || inV (.str s) (ns.map V.str)) := rfl
    rw [e, ih]
    by_cases h : s = n
    · subst h; simp
    · have h' : (n == s) = false := by simpa using fun z => h z.symm
      rw [h', Bool.false_or]
      simp [h]
theorem flat_strs (ns : List Str) : (ns.map V.str).all flatV = true := by
  rw [List.all_eq_true]
  intro x hx
  obtain ⟨n, _, rfl⟩ := List.mem_map.mp hx
  rfl
theorem Pool.same {H H' : Hp} {p : Addr} (h : Pool H p) (s : Same H H') : Pool H' p := by
  obtain ⟨r, a, b, e⟩ := h
  exact ⟨r, a, b, s _ _ e⟩
theorem name_rest {K : PySem.W.Frag} {p l : Addr} {ns : List Str} {Q : VK} {H : Hp} {z : Str} (hz : IsName z) (pl : Pool H p) (hl : H l = some (.lst (ns.map .str))) (hn : ns.length ≤ 8) (q : ∀ x H', Same H H' → x ∉ ns → IsName x → Q (.str x) H') :
    tSeq
      (tAsg (tOp rCat (tLst (tCons (tVar 3) tNil)) (tComp [none, some 3] (iStr (tVar 2)) (gName 0) tYes (tOp (fun x y H Q => ∃ i j, x = V.str i ∧ y = V.str j ∧ i.length + j.length ≤ sizeLine ∧ Q (V.str (i ++ j)) H) (tSl (fun x lo hi H Q => rSlL K x lo hi H Q ∨ rSlT K x lo hi H Q ∨ rSlS x lo hi H Q) (tVar 1) tNoPart (tPart (tC (V.int 7)))) (tVar 0)))) (gName 4))
      (tRet (tOp (rIx K) (tComp [none, some 1] (iList K (tVar 4)) (gName 0) (tTest (tOp (rIn K true) (tVar 0) (tVar 1))) (tVar 0)) (tC (V.int 0))))
      { nx := fun _ H' => Q V.non H', rt := Q } [some (.ref p), some (.ref l), some (.str alpha), some (.str z), none] H := by
  refine ⟨_, rfl, small9 (by show 1 ≤ 1000; decide), fun g hg => ?_⟩
  refine ⟨_, rfl, alpha, rfl, fun D hD => ?_⟩
  have g1 : Same H (upd H g (.lst [.str z])) := same_new hg _
  refine comp_str (fun i ys H' => Same (upd H g (.lst [.str z])) H' ∧ ys = (alpha.cps.toList.take i).map fun c => V.str (glue (PySem.Txt.slice z none (some 7)) c)) ⟨same_new hD _, rfl⟩ ?_ ?_
  · rintro i ys H' c hc ⟨s1, rfl⟩ hD'
    have hi : i < alpha.cps.size := (Array.getElem?_eq_some_iff.mp hc).1
    have hi26 : i < 26 := by have := alpha_len; simp at this; walk_at "om"
    refine yes ?_
    have hsl := PySem.Txt.slice_le z none (some 7)
    have hz8 := hz.2.1
    refine ⟨_, rfl, _, rfl, .inr (.inr ⟨z, rfl, small9 (by walk_at "om"), _, rfl, _, _, rfl, rfl, ?_, ?_⟩)⟩
    · refine small9 ?_
      have e1 : (Str.mk #[c]).length = 1 := rfl
      rw [e1]
      walk_at "om"
    · refine cyes hi rset1 hD' ?_ ⟨fun b o qb => ?_, ?_⟩
      · rw [List.length_map, List.length_take]
        exact small1000 (by walk_at "om")
      · rw [upd_ne (ne_of_none qb hD)]
        exact s1 b o qb
      · rw [take_snoc (show alpha.cps.toList[i]? = some c by simpa using hc), List.map_append]
        rfl
  · rintro ys H' ⟨s1, rfl⟩ hD'
    rw [List.take_of_length_le (by simp)] at hD'
    refine ⟨g, D, _, _, rfl, rfl, s1 _ _ upd_same, hD', ?_, fun e he => ?_⟩
    · rw [List.length_map, alpha_len]
      exact small9 (by show 1 + 26 ≤ 1000; decide)
    have s2 : Same H (upd H' e (.lst ([.str z] ++ (alpha.cps.toList.map fun c => V.str (glue (PySem.Txt.slice z none (some 7)) c))))) := (g1.trans s1).trans (same_new he _)
    have ec : (.lst ([.str z] ++ (alpha.cps.toList.map fun c => V.str (glue (PySem.Txt.slice z none (some 7)) c))) : HO) = .lst ((z :: alpha.cps.toList.map (glue (PySem.Txt.slice z none (some 7)))).map V.str) := by
      rw [List.map_cons, List.map_map]
      rfl
    generalize hcs : (z :: alpha.cps.toList.map (glue (PySem.Txt.slice z none (some 7)))) = cs at ec
    have hcl : cs.length = 27 := by rw [← hcs, List.length_cons, List.length_map, alpha_len]
    rw [ec] at s2 ⊢
    refine ⟨_, rfl, e, rfl, ⟨_, SqL.of upd_same⟩, fun D2 hD2 => ?_⟩
    refine comp_list (xs := cs.map V.str) (fun i ys H2 => Same (upd H' e (.lst (cs.map V.str))) H2 ∧ ys = ((cs.take i).filter fun s => decide (s ∉ ns)).map V.str) ⟨same_new hD2 _, rfl⟩ (fun i ys H2 h _ => SqL.of (h.1 _ _ upd_same)) ?_ ?_
    · rintro i ys H2 x hx ⟨s3, rfl⟩ hD3
      have hi : i < (cs.map V.str).length := (List.getElem?_eq_some_iff.mp hx).1
      rw [List.getElem?_map] at hx
      obtain ⟨s, hs, rfl⟩ := Option.map_eq_some_iff.mp hx
      refine ⟨_, rfl, _, rfl, l, _, rfl, .inl (SqL.of (s3 _ _ (s2 _ _ hl))), rfl, flat_strs ns, _, rfl, ?_⟩
      rw [inV_str]
      have keep : ∀ (o : HO), Same (upd H' e (.lst (cs.map V.str))) (upd H2 D2 o) := fun o b u qb => by
        rw [upd_ne (ne_of_none qb hD2)]
        exact s3 b u qb
      have hlen : (((cs.take i).filter fun s => decide (s ∉ ns)).map V.str).length < sizeLine := by
        rw [List.length_map]
        refine small1000 ?_
        have h1 := List.length_filter_le (fun s => decide (s ∉ ns)) (cs.take i)
        rw [List.length_take] at h1
        walk_at "om"
      refine ite2 (fun c => ?_) (fun c => ?_)
      · have hm : s ∉ ns := by simpa using c
        refine ⟨_, rfl, cyes hi rset1 hD3 hlen ⟨keep _, ?_⟩⟩
        rw [take_snoc hs, List.filter_append, List.map_append]
        simp [hm]
      · have hm : s ∈ ns := by simpa using c
        refine cno hi rset1 hD3 ⟨s3, ?_⟩
        rw [take_snoc hs, List.filter_append]
        simp [hm]
    · rintro ys H2 ⟨s3, rfl⟩ hD3
      rw [List.length_map, List.take_length] at hD3
      obtain ⟨c, hc, hnew⟩ := pick_new (PySem.Txt.slice z none (some 7)) alpha.cps.toList alpha_nd ns (by rw [alpha_len]; walk_at "om")
      have hmem : glue (PySem.Txt.slice z none (some 7)) c ∈ cs.filter fun s => decide (s ∉ ns) := by
        rw [← hcs]
        exact List.mem_filter.mpr ⟨List.mem_cons_of_mem _ (List.mem_map.mpr ⟨c, hc, rfl⟩), by simpa using hnew⟩
      cases hf : cs.filter (fun s => decide (s ∉ ns)) with
      | nil => rw [hf] at hmem; cases hmem
      | cons s0 rest =>
        rw [hf] at hD3
        have hs0 : s0 ∉ ns := by
          have : s0 ∈ cs.filter fun s => decide (s ∉ ns) := by rw [hf]; exact List.mem_cons_self
          simpa using (List.mem_filter.mp this).2
        have hn0 : IsName s0 := by
          have hm0 : s0 ∈ cs.filter fun s => decide (s ∉ ns) := by rw [hf]; exact List.mem_cons_self
          have hm1 := (List.mem_filter.mp hm0).1
          rw [← hcs] at hm1
          rcases List.mem_cons.mp hm1 with e1 | hm2
          · rw [e1]
            exact hz
          · obtain ⟨c', hc', e1⟩ := List.mem_map.mp hm2
            rw [← e1]
            exact glue_name hz (alpha_small c' hc').1 (alpha_small c' hc').2
        exact .inl ⟨D2, _, 0, _, rfl, rfl, SqL.of hD3, atI_nat (j := 0) rfl, q s0 H2 (s2.trans s3) hs0 hn0⟩

theorem ok_law_name {P : Program} {w : World} {K : PySem.W.Frag} {mg : Str → Option Value} {base : Heap} {f : Addr} {fd : FuncData} (F : Fun K "_law_name" "_law_name" s_law_name f fd) (gb : Gb mg) {c : Nat → Addr} (cl : Cl K mg c) (d_law_draw : Def P w K mg base 1 "_law_draw" ["_law_pool_here", "_law_many"] spDraw) : FnOk P w K mg base CX0 2 f fd ["_law_pool_here", "_law_names"] spName := by
  refine F.ok sc_law_name (fun vs H Q E h => ?_) (fun cdv A outer s H vs Q E hr h => ?_)
  · obtain ⟨p, l, ns, rfl, _⟩ := h
    rfl
  obtain ⟨p, l, ns, rfl, pl, hl, hn, q⟩ := h
  have nd0 : (["_law_k", "_law_letters", "_law_pool_here"] : List Str).Nodup := by decide +kernel
  have nd1 : (["_law_sign", "_law_name_here"] : List Str).Nodup := by decide +kernel
  have nd2 : (["_law_one", "_law_names"] : List Str).Nodup := by decide +kernel
  refine ⟨_, (@pss_cons _ _ _ _ _ (@ps_set _ _ 2 _ _ _ _ sc_law_name.nd rfl (Or.inr rfl) (@pe_str _ _ _ _) (by rfl) (by first | exact .inl rfl | exact .inr rfl | assumption)) (@pss_cons _ _ _ _ _ (@ps_set _ _ 3 _ _ _ _ sc_law_name.nd rfl (Or.inr rfl) (@kpe_bm _ K _ _ _ _ _ _ _ _ _ _ _ PySem.F.plainAttrs_str PySem.F.slot_str_join PySem.F.type_str_join (@kmt_join _ K (by rfl)) (@pe_str _ _ _ _) (@pa_cons _ _ _ _ _ (@pe_comp _ ["_law_k", "_law_letters", "_law_pool_here"] [none, some 2, some 0] _ _ _ _ _ _ _ _ _ _ (by exact (show CompOk ["_law_pool_here", "_law_names", "_law_letters", "_law_name_here", "_law_some"] (defScope s_law_name) ["_law_k", "_law_letters", "_law_pool_here"] [none, some 2, some 0] _ from ⟨rfl, by decide +kernel, by decide +kernel, by decide +kernel, by decide +kernel, rfl, by decide +kernel⟩)) rfl (@pi_range1 _ _ _ _ _ _ rfl gb.range (@pa_cons _ _ _ _ _ (@pe_op _ _ _ _ _ _ _ _ (@op_add _) (@pe_int _ _ _ _) (@pe_def _ _ _ _ _ _ _ _ _ _ _ d_law_draw hr (by decide) rfl (@pa_cons _ _ _ _ _ (@pv _ 0 _ _ (by rfl) (by first | exact Or.inl rfl | exact Or.inr (Or.inl rfl) | exact Or.inr (Or.inr rfl)) (by decide) (by decide)) (@pa_cons _ _ _ _ _ (@pe_int _ _ _ _) (@pa_nil _) (by rfl)) (by rfl)) (by decide) (by rfl) (by rfl))) (@pa_nil _) (by rfl)) (by rfl)) (fun _ _ _ _ => (@pg_name _ _ 0 _ nd0 rfl (Or.inl rfl) (by first | exact .inl rfl | exact .inr rfl | assumption))) (fun _ _ _ _ => (@pf_nil _)) (fun _ _ _ _ => (@pe_ix _ _ _ _ _ _ _ (@kix_seq _ K (by rfl)) (@pv _ 1 _ _ (by rfl) (by first | exact Or.inl rfl | exact Or.inr (Or.inl rfl) | exact Or.inr (Or.inr rfl)) (by decide) (by decide)) (@pe_def _ _ _ _ _ _ _ _ _ _ _ d_law_draw hr (by decide) rfl (@pa_cons _ _ _ _ _ (@pv _ 2 _ _ (by rfl) (by first | exact Or.inl rfl | exact Or.inr (Or.inl rfl) | exact Or.inr (Or.inr rfl)) (by decide) (by decide)) (@pa_cons _ _ _ _ _ (@pe_int _ _ _ _) (@pa_nil _) (by rfl)) (by rfl)) (by decide) (by rfl) (by rfl)) (fun _ _ => rfl))) (by intro _; rfl)) (@pa_nil _) (by rfl)) (by rfl) (by rfl) (by rfl) (by rfl) (by rfl) (by rfl)) (by rfl) (by first | exact .inl rfl | exact .inr rfl | assumption)) (@pss_cons _ _ _ _ _ (@ps_if _ _ _ _ _ _ _ _ (@pt_cmpR _ _ _ _ _ _ _ _ (@op_eq _) (@pe_def _ _ _ _ _ _ _ _ _ _ _ d_law_draw hr (by decide) rfl (@pa_cons _ _ _ _ _ (@pv _ 0 _ _ (by rfl) (by first | exact Or.inl rfl | exact Or.inr (Or.inl rfl) | exact Or.inr (Or.inr rfl)) (by decide) (by decide)) (@pa_cons _ _ _ _ _ (@pe_int _ _ _ _) (@pa_nil _) (by rfl)) (by rfl)) (by decide) (by rfl) (by rfl)) (@pe_int _ _ _ _) (@nomark _ _ (by decide) (by decide))) (@pss_one _ _ _ (@ps_set _ _ 3 _ _ _ _ sc_law_name.nd rfl (Or.inr rfl) (@pe_ix _ _ _ _ _ _ _ (@kix_seq _ K (by rfl)) (@pe_lst _ _ _ _ (@pa_cons _ _ _ _ _ (@pe_str _ _ _ _) (@pa_cons _ _ _ _ _ (@pe_str _ _ _ _) (@pa_nil _) (by rfl)) (by rfl))) (@pe_def _ _ _ _ _ _ _ _ _ _ _ d_law_draw hr (by decide) rfl (@pa_cons _ _ _ _ _ (@pv _ 0 _ _ (by rfl) (by first | exact Or.inl rfl | exact Or.inr (Or.inl rfl) | exact Or.inr (Or.inr rfl)) (by decide) (by decide)) (@pa_cons _ _ _ _ _ (@pe_int _ _ _ _) (@pa_nil _) (by rfl)) (by rfl)) (by decide) (by rfl) (by rfl)) (fun _ _ => rfl)) (by rfl) (by first | exact .inl rfl | exact .inr rfl | assumption))) (@pss_nil _)) (@pss_cons _ _ _ _ _ (@ps_set _ _ 4 _ _ _ _ sc_law_name.nd rfl (Or.inl rfl) (@pe_op _ _ _ _ _ _ _ _ (@op_cat _) (@pe_lst _ _ _ _ (@pa_cons _ _ _ _ _ (@pv _ 3 _ _ (by rfl) (by first | exact Or.inl rfl | exact Or.inr (Or.inl rfl) | exact Or.inr (Or.inr rfl)) (by decide) (by decide)) (@pa_nil _) (by rfl))) (@pe_comp _ ["_law_sign", "_law_name_here"] [none, some 3] _ _ _ _ _ _ _ _ _ _ (by exact (show CompOk ["_law_pool_here", "_law_names", "_law_letters", "_law_name_here", "_law_some"] (defScope s_law_name) ["_law_sign", "_law_name_here"] [none, some 3] _ from ⟨rfl, by decide +kernel, by decide +kernel, by decide +kernel, by decide +kernel, rfl, by decide +kernel⟩)) rfl (@pi_str _ _ _ _ (@pv _ 2 _ _ (by rfl) (by first | exact Or.inl rfl | exact Or.inr (Or.inl rfl) | exact Or.inr (Or.inr rfl)) (by decide) (by decide))) (fun _ _ _ _ => (@pg_name _ _ 0 _ nd1 rfl (Or.inl rfl) (by first | exact .inl rfl | exact .inr rfl | assumption))) (fun _ _ _ _ => (@pf_nil _)) (fun _ _ _ _ => (@pe_op _ _ _ _ _ _ _ _ (@op_add_str _) (@pe_slice _ _ _ _ _ _ _ _ _ _ (@ksl_any _ K (by rfl)) (@pv _ 1 _ _ (by rfl) (by first | exact Or.inl rfl | exact Or.inr (Or.inl rfl) | exact Or.inr (Or.inr rfl)) (by decide) (by decide)) (@po_none _) (@po_some _ _ _ (@pe_int _ _ _ _))) (@pv _ 0 _ _ (by rfl) (by first | exact Or.inl rfl | exact Or.inr (Or.inl rfl) | exact Or.inr (Or.inr rfl)) (by decide) (by decide)))) (by intro _; rfl))) (by rfl) (by first | exact .inl rfl | exact .inr rfl | assumption)) (@pss_one _ _ _ (@ps_ret _ _ _ _ (@pe_ix _ _ _ _ _ _ _ (@kix_seq _ K (by rfl)) (@pe_comp _ ["_law_one", "_law_names"] [none, some 1] _ _ _ _ _ _ _ _ _ _ (by exact (show CompOk ["_law_pool_here", "_law_names", "_law_letters", "_law_name_here", "_law_some"] (defScope s_law_name) ["_law_one", "_law_names"] [none, some 1] _ from ⟨rfl, by decide +kernel, by decide +kernel, by decide +kernel, by decide +kernel, rfl, by decide +kernel⟩)) rfl (@kpi_list _ K _ _ _ (@pv _ 4 _ _ (by rfl) (by first | exact Or.inl rfl | exact Or.inr (Or.inl rfl) | exact Or.inr (Or.inr rfl)) (by decide) (by decide)) (by rfl)) (fun _ _ _ _ => (@pg_name _ _ 0 _ nd2 rfl (Or.inl rfl) (by first | exact .inl rfl | exact .inr rfl | assumption))) (fun _ _ _ _ => (@pf_one _ _ _ (@pt_cmpR _ _ _ _ _ _ _ _ (@kop_notIn_seq _ K (by rfl)) (@pv _ 0 _ _ (by rfl) (by first | exact Or.inl rfl | exact Or.inr (Or.inl rfl) | exact Or.inr (Or.inr rfl)) (by decide) (by decide)) (@pv _ 1 _ _ (by rfl) (by first | exact Or.inl rfl | exact Or.inr (Or.inl rfl) | exact Or.inr (Or.inr rfl)) (by decide) (by decide)) (by with_unfolding_all rfl)))) (fun _ _ _ _ => (@pv _ 0 _ _ (by rfl) (by first | exact Or.inl rfl | exact Or.inr (Or.inl rfl) | exact Or.inr (Or.inr rfl)) (by decide) (by decide))) (by intro _; rfl)) (@pe_int _ _ _ _) (fun _ _ => rfl)))))))), ?_⟩
  refine ⟨rfl, ?_⟩
  refine ⟨_, rfl, p, 7, rfl, pl, by decide, by decide, fun v H1 v0 v1 o1 pl1 => ?_⟩
  refine ⟨_, _, rfl, rfl, _, rfl, by walk_at "om", by walk_at "om", fun D hD => ?_⟩
  have pnl : l ≠ p := fun z => by
    obtain ⟨r, a, b, e⟩ := pl
    rw [← z, hl] at e
    cases ns with
    | nil => cases e
    | cons n ns => cases e
  have pnD : D ≠ p := fun z => by
    obtain ⟨r, a, b, e⟩ := pl1
    rw [← z, hD] at e
    cases e
  refine comp_range (fun i ys H => Off p H1 H ∧ Pool H p ∧ ∃ cs : List Nat, ys = (cs.map oneS).map V.str ∧ cs.length = i ∧ ∀ d ∈ cs, 97 ≤ d ∧ d ≤ 122) ⟨Off.new hD, pl1.new hD, [], rfl, rfl, by simp⟩ ?_ ?_
  · rintro i ys H2 hi ⟨o2, p2, cs, rfl, hc, hs⟩ hD2
    refine yes ?_
    refine ⟨_, rfl, _, rfl, p, 26, rfl, p2, by decide, by decide, fun u H3 u0 u1 o3 p3 => ?_⟩
    obtain ⟨c, hat, c0, c1⟩ := alpha_at u0 u1
    refine .inr (.inr ⟨alpha, u, c, rfl, rfl, small9 (by decide +kernel), hat, ?_⟩)
    refine cyes hi rset1 (o3 _ _ pnD hD2) (by rw [List.length_map, List.length_map, hc]; exact small1000 (by walk_at "om")) ⟨?_, p3.off (Ne.symm pnD), cs ++ [c], by rw [List.map_append, List.map_append]; rfl, by rw [List.length_append, hc]; rfl, ?_⟩
    · exact (o2.trans o3).fresh hD
    · intro d hd
      rcases List.mem_append.mp hd with hd | hd
      · exact hs d hd
      · rw [List.mem_singleton.mp hd]
        exact ⟨c0, c1⟩
  · rintro ys H2 ⟨o2, p2, cs, rfl, hc, hs⟩ hD2
    refine ⟨_, D, cs.map oneS, rfl, rfl, SqL.of hD2, ?_, ?_⟩
    · rw [ones_sum]
      show _ + (cs.map oneS).length * 0 ≤ _
      walk_at "om"
    have hz := ones_name hs (by walk_at "om") (by walk_at "om")
    refine ⟨_, rfl, p, 16, rfl, p2, by decide, by decide, fun u H3 u0 u1 o3 p3 => ⟨rfl, _, rfl, ?_⟩⟩
    have o03 : Off p H H3 := (o1.trans o2).trans o3
    refine ite2 (fun c => ?_) (fun c => ?_)
    · refine ⟨small9 (by show 2 ≤ 1000; decide), fun g hg => ⟨_, rfl, p, 2, rfl, p3.new hg, by decide, by decide, fun y H4 y0 y1 o4 p4 => ?_⟩⟩
      have gp : g ≠ p := fun z => by
        obtain ⟨r, a, b, e⟩ := p3
        rw [← z, hg] at e
        cases e
      obtain ⟨z, hat, hz8⟩ := at2 y0 y1
      have o04 : Off p H H4 := (o03.trans (Off.new hg)).trans o4
      exact .inl ⟨g, _, y, _, rfl, rfl, SqL.of (o4 _ _ gp upd_same), hat, name_rest hz8 p4 (o04 _ _ pnl hl) hn fun x H' s5 hx hnm => q x H' (o04.trans (Off.of s5)) (Pool.same p4 s5) hx hnm⟩
    · exact name_rest hz p3 (o03 _ _ pnl hl) hn fun x H' s5 hx hnm => q x H' (o03.trans (Off.of s5)) (Pool.same p3 s5) hx hnm

noncomputable abbrev s_law_cells : Stmt := top 40
theorem sc_law_cells : FnScope ["_law_pool_here", "_law_many", "_law_places", "_law_often", "_law_found", "_law_k", "_law_one"] ["_law_pool_here", "_law_many", "_law_places", "_law_often"] (defScope s_law_cells) := ⟨rfl, rfl, rfl, by decide +kernel, rfl, by decide +kernel, by decide +kernel⟩
theorem ok_law_cells {P : Program} {w : World} {K : PySem.W.Frag} {mg : Str → Option Value} {base : Heap} {f : Addr} {fd : FuncData} (F : Fun K "_law_cells" "_law_cells" s_law_cells f fd) (gb : Gb mg) {c : Nat → Addr} (cl : Cl K mg c) (d_law_draw : Def P w K mg base 1 "_law_draw" ["_law_pool_here", "_law_many"] spDraw) : FnOk P w K mg base CX0 2 f fd ["_law_pool_here", "_law_many", "_law_places", "_law_often"] spCells := by
  refine F.ok sc_law_cells (fun vs H Q E h => ?_) (fun cdv A outer s H vs Q E hr h => ?_)
  · obtain ⟨p, m, pl, often, rfl, _⟩ := h
    rfl
  obtain ⟨p, m, pl, often, rfl, hp, m1, m9, p0, p2, o0, o9, q⟩ := h
  refine ⟨_, (@pss_cons _ _ _ _ _ (@ps_set _ _ 4 _ _ _ _ sc_law_cells.nd rfl (Or.inl rfl) (@pe_lst _ _ _ _ (@pa_nil _)) (by rfl) (by first | exact .inl rfl | exact .inr rfl | assumption)) (@pss_cons _ _ _ _ _ (@ps_for _ _ _ _ _ _ _ _ PassesOwn.never rfl (@pi_range1 _ _ _ _ _ _ rfl gb.range (@pa_cons _ _ _ _ _ (@pe_ix _ _ _ _ _ _ _ (@kix_seq _ K (by rfl)) (@pe_lst _ _ _ _ (@pa_cons _ _ _ _ _ (@pe_int _ _ _ _) (@pa_cons _ _ _ _ _ (@pv _ 1 _ _ (by rfl) (by first | exact Or.inl rfl | exact Or.inr (Or.inl rfl) | exact Or.inr (Or.inr rfl)) (by decide) (by decide)) (@pa_cons _ _ _ _ _ (@pe_op _ _ _ _ _ _ _ _ (@op_mul _) (@pv _ 1 _ _ (by rfl) (by first | exact Or.inl rfl | exact Or.inr (Or.inl rfl) | exact Or.inr (Or.inr rfl)) (by decide) (by decide)) (@pv _ 1 _ _ (by rfl) (by first | exact Or.inl rfl | exact Or.inr (Or.inl rfl) | exact Or.inr (Or.inr rfl)) (by decide) (by decide))) (@pa_nil _) (by rfl)) (by rfl)) (by rfl))) (@pv _ 2 _ _ (by rfl) (by first | exact Or.inl rfl | exact Or.inr (Or.inl rfl) | exact Or.inr (Or.inr rfl)) (by decide) (by decide)) (fun _ _ => rfl)) (@pa_nil _) (by rfl)) (by rfl)) (@pg_name _ _ 5 _ sc_law_cells.nd rfl (Or.inl rfl) (by first | exact .inl rfl | exact .inr rfl | assumption)) (@pss_cons _ _ _ _ _ (@ps_set _ _ 6 _ _ _ _ sc_law_cells.nd rfl (Or.inl rfl) (@pe_def _ _ _ _ _ _ _ _ _ _ _ d_law_draw hr (by decide) rfl (@pa_cons _ _ _ _ _ (@pv _ 0 _ _ (by rfl) (by first | exact Or.inl rfl | exact Or.inr (Or.inl rfl) | exact Or.inr (Or.inr rfl)) (by decide) (by decide)) (@pa_cons _ _ _ _ _ (@pv _ 1 _ _ (by rfl) (by first | exact Or.inl rfl | exact Or.inr (Or.inl rfl) | exact Or.inr (Or.inr rfl)) (by decide) (by decide)) (@pa_nil _) (by rfl)) (by rfl)) (by decide) (by rfl) (by rfl)) (by rfl) (by first | exact .inl rfl | exact .inr rfl | assumption)) (@pss_cons _ _ _ _ _ (@ps_if _ _ _ _ _ _ _ _ (@PW.pt _ _ _ (@pw_and _ _ _ _ _ _ _ (@pt_cmpR _ _ _ _ _ _ _ _ (@op_gt _) (@pv _ 3 _ _ (by rfl) (by first | exact Or.inl rfl | exact Or.inr (Or.inl rfl) | exact Or.inr (Or.inr rfl)) (by decide) (by decide)) (@pe_int _ _ _ _) (@nomark _ _ (by decide) (by decide))) (@pw_and1 _ _ _ _ (@pt_cmpR _ _ _ _ _ _ _ _ (@op_eq _) (@pe_def _ _ _ _ _ _ _ _ _ _ _ d_law_draw hr (by decide) rfl (@pa_cons _ _ _ _ _ (@pv _ 0 _ _ (by rfl) (by first | exact Or.inl rfl | exact Or.inr (Or.inl rfl) | exact Or.inr (Or.inr rfl)) (by decide) (by decide)) (@pa_cons _ _ _ _ _ (@pv _ 3 _ _ (by rfl) (by first | exact Or.inl rfl | exact Or.inr (Or.inl rfl) | exact Or.inr (Or.inr rfl)) (by decide) (by decide)) (@pa_nil _) (by rfl)) (by rfl)) (by decide) (by rfl) (by rfl)) (@pe_int _ _ _ _) (@nomark _ _ (by decide) (by decide)))))) (@pss_one _ _ _ (@ps_set _ _ 6 _ _ _ _ sc_law_cells.nd rfl (Or.inl rfl) (@pe_non _ _ _) (by rfl) (by first | exact .inl rfl | exact .inr rfl | assumption))) (@pss_nil _)) (@pss_one _ _ _ (@ps_expr _ _ _ _ (@kpe_bm _ K _ _ _ _ _ _ _ _ _ _ _ PySem.F.plainAttrs_list PySem.F.slot_list_append PySem.F.type_list_append (@mt_append _) (@pv _ 4 _ _ (by rfl) (by first | exact Or.inl rfl | exact Or.inr (Or.inl rfl) | exact Or.inr (Or.inr rfl)) (by decide) (by decide)) (@pa_cons _ _ _ _ _ (@pv _ 6 _ _ (by rfl) (by first | exact Or.inl rfl | exact Or.inr (Or.inl rfl) | exact Or.inr (Or.inr rfl)) (by decide) (by decide)) (@pa_nil _) (by rfl)) (by rfl) (by rfl) (by rfl) (by rfl) (by rfl) (by rfl)) (by rfl))))) (by intro _; rfl)) (@pss_one _ _ _ (@ps_ret _ _ _ _ (@pe_callTy _ _ _ _ _ _ _ _ _ (@kcall_tuple_of _ K (by rfl)) rfl gb.tuple bt_tuple (@pa_cons _ _ _ _ _ (@pv _ 4 _ _ (by rfl) (by first | exact Or.inl rfl | exact Or.inr (Or.inl rfl) | exact Or.inr (Or.inr rfl)) (by decide) (by decide)) (@pa_nil _) (by rfl)) (by decide) (by decide) (by rfl) (by rfl)))))), ?_⟩
  obtain ⟨n, hat, n0, n81, hnm⟩ := cells_many m1 m9 p0 p2
  refine ⟨Nat.zero_le _, fun f hf => ?_⟩
  have fp : f ≠ p := fun z => by
    obtain ⟨r, a, b, e⟩ := hp
    rw [← z, hf] at e
    cases e
  refine ⟨_, rfl, _, rfl, _, rfl, _, _, rfl, rfl, .inr ⟨by walk_at "om", by walk_at "om"⟩, small9 (by show 3 ≤ 1000; decide), fun g hg => ?_⟩
  have fg : f ≠ g := fun z => by
    rw [← z, upd_same] at hg
    cases hg
  have hg0 : H g = none := by
    rw [upd_ne (Ne.symm fg)] at hg
    exact hg
  refine ⟨_, rfl, .inl ⟨g, _, pl, _, rfl, rfl, SqL.of upd_same, hat, _, rfl, by walk_at "om", by walk_at "om", ?_⟩⟩
  refine for_range (fun i σ H' => ∃ (cs : List (Option Int)) (x5 x6 : Option V), σ = [some (.ref p), some (.int m), some (.int pl), some (.int often), some (.ref f), x5, x6] ∧ Off p H H' ∧ Pool H' p ∧ H' f = some (.lst (cs.map cellV)) ∧ cs.length = i ∧ (∀ o ∈ cs, CellOk m o) ∧ (often = 0 → ∀ o ∈ cs, o ≠ none))
    ⟨[], none, none, rfl, ((Off.refl.fresh hf).fresh hg0), (hp.new hf).new hg, by rw [upd_ne fg, upd_same]; rfl, rfl, by simp, by simp⟩ ?_ ?_
  · rintro i σ H' hi ⟨cs, x5, x6, rfl, o1, p1, hc, hl, hok, hno⟩
    have hz : (cs.map cellV).length < sizeLine := by
      rw [List.length_map, hl]
      exact small1000 (by walk_at "om")
    refine ⟨_, rfl, _, rfl, p, m, rfl, p1, by walk_at "om", by walk_at "om", fun v H2 v0 v1 o2 p2 => ?_⟩
    have hc2 := o2 _ _ fp hc
    have fin : ∀ (o : Option Int) (H3 : Hp), CellOk m o → (often = 0 → o ≠ none) → Off p H H3 → Pool H3 p → H3 f = some (.lst (cs.map cellV)) →
        ∃ (cs' : List (Option Int)) (x5 x6 : Option V), [some (V.ref p), some (.int m), some (.int pl), some (.int often), some (.ref f), some (.int (0 + i)), some (cellV o)] = [some (.ref p), some (.int m), some (.int pl), some (.int often), some (.ref f), x5, x6] ∧
          Off p H (upd H3 f (.lst (cs.map cellV ++ [cellV o]))) ∧ Pool (upd H3 f (.lst (cs.map cellV ++ [cellV o]))) p ∧ (upd H3 f (.lst (cs.map cellV ++ [cellV o]))) f = some (.lst (cs'.map cellV)) ∧ cs'.length = i + 1 ∧ (∀ o ∈ cs', CellOk m o) ∧ (often = 0 → ∀ o ∈ cs', o ≠ none) := fun o H3 b1 b2 a1 a2 a3 =>
      ⟨cs ++ [o], _, _, rfl, a1.fresh hf, a2.off (Ne.symm fp), by rw [upd_same, List.map_append]; rfl, by rw [List.length_append, hl]; rfl, fun z hz' => by
        rcases List.mem_append.mp hz' with q1 | q1
        · exact hok z q1
        · rw [List.mem_singleton.mp q1]; exact b1, fun h0 z hz' => by
        rcases List.mem_append.mp hz' with q1 | q1
        · exact hno h0 z q1
        · rw [List.mem_singleton.mp q1]; exact b2 h0⟩
    refine ⟨_, rfl, _, _, rfl, rfl, _, rfl, ?_⟩
    refine ite2 (fun c1 => ?_) (fun c1 => ?_)
    · have c1' : 0 < often := of_decide_eq_true c1
      refine ⟨_, rfl, _, rfl, p, often, rfl, p2, c1', by walk_at "om", fun u H3 u0 u1 o3 p3 => ?_⟩
      have hc3 := o3 _ _ fp hc2
      refine ⟨rfl, _, rfl, ?_⟩
      refine ite2 (fun c2 => ?_) (fun c2 => ?_)
      · exact ⟨_, rfl, .inl ⟨rfl, _, SqL.of hc3⟩, _, rfl, f, _, _, rfl, rfl, hc3, hz, fin none H3 (fun i e => nomatch e) (fun h0 => by walk_at "om") ((o1.trans o2).trans o3) p3 hc3⟩
      · exact ⟨_, rfl, .inl ⟨rfl, _, SqL.of hc3⟩, _, rfl, f, _, _, rfl, rfl, hc3, hz, fin (some v) H3 (fun i e => by cases e; exact ⟨v0, v1⟩) (fun _ e => nomatch e) ((o1.trans o2).trans o3) p3 hc3⟩
    · exact ⟨_, rfl, .inl ⟨rfl, _, SqL.of hc2⟩, _, rfl, f, _, _, rfl, rfl, hc2, hz, fin (some v) H2 (fun i e => by cases e; exact ⟨v0, v1⟩) (fun _ e => nomatch e) (o1.trans o2) p2 hc2⟩
  · rintro σ H' ⟨cs, x5, x6, rfl, o1, p1, hc, hl, hok, hno⟩
    refine ⟨_, rfl, f, _, rfl, .inl ⟨SqL.of hc, fun t ht => ?_⟩⟩
    have tf : H t = none ∨ ∃ o, H t = some o := by cases e : H t with
      | none => exact .inl rfl
      | some o => exact .inr ⟨o, rfl⟩
    refine q t cs _ (fun b o hb e => ?_) (p1.new ht) upd_same (by rw [← hnm]; walk_at "om") hok hno
    rw [upd_ne (fun z => by rw [z] at e hb; have := o1 t o hb e; rw [ht] at this; cases this)]
    exact o1 b o hb e

noncomputable abbrev s_law_half : Stmt := top 41
theorem sc_law_half : FnScope ["_law_pool_here", "_law_most", "_law_connectives", "_law_often", "_law_many", "_law_wished", "_law_found", "_law_k", "_law_name_here", "_law_places"] ["_law_pool_here", "_law_most", "_law_connectives", "_law_often"] (defScope s_law_half) := ⟨rfl, rfl, rfl, by decide +kernel, rfl, by decide +kernel, by decide +kernel⟩
theorem ok_law_half {P : Program} {w : World} {K : PySem.W.Frag} {mg : Str → Option Value} {base : Heap} {f : Addr} {fd : FuncData} (F : Fun K "_law_half" "_law_half" s_law_half f fd) (gb : Gb mg) {c : Nat → Addr} (cl : Cl K mg c) (d_law_draw : Def P w K mg base 1 "_law_draw" ["_law_pool_here", "_law_many"] spDraw) (d_law_name : Def P w K mg base 2 "_law_name" ["_law_pool_here", "_law_names"] spName) (d_law_cells : Def P w K mg base 2 "_law_cells" ["_law_pool_here", "_law_many", "_law_places", "_law_often"] spCells) : FnOk P w K mg base CX0 3 f fd ["_law_pool_here", "_law_most", "_law_connectives", "_law_often"] spHalf6 := by
  refine F.ok sc_law_half (fun vs H Q E h => ?_) (fun cdv A outer s H vs Q E hr h => ?_)
  · obtain ⟨p, most, conn, often, rfl, _⟩ := h
    rfl
  obtain ⟨p, most, conn, often, rfl, hp, m1, m9, c0, c8, o0, o9, q⟩ := h
  have nd0 : (["_law_one", "_law_pool_here"] : List Str).Nodup := by decide +kernel
  have nd1 : (["_law_one"] : List Str).Nodup := by decide +kernel
  refine ⟨_, (@pss_cons _ _ _ _ _ (@ps_set _ _ 4 _ _ _ _ sc_law_half.nd rfl (Or.inl rfl) (@pe_op _ _ _ _ _ _ _ _ (@op_add _) (@pe_int _ _ _ _) (@pe_def _ _ _ _ _ _ _ _ _ _ _ d_law_draw hr (by decide) rfl (@pa_cons _ _ _ _ _ (@pv _ 0 _ _ (by rfl) (by first | exact Or.inl rfl | exact Or.inr (Or.inl rfl) | exact Or.inr (Or.inr rfl)) (by decide) (by decide)) (@pa_cons _ _ _ _ _ (@pv _ 1 _ _ (by rfl) (by first | exact Or.inl rfl | exact Or.inr (Or.inl rfl) | exact Or.inr (Or.inr rfl)) (by decide) (by decide)) (@pa_nil _) (by rfl)) (by rfl)) (by decide) (by rfl) (by rfl))) (by rfl) (by first | exact .inl rfl | exact .inr rfl | assumption)) (@pss_cons _ _ _ _ _ (@ps_set _ _ 5 _ _ _ _ sc_law_half.nd rfl (Or.inl rfl) (@pe_callTy _ _ _ _ _ _ _ _ _ (@kcall_tuple_of _ K (by rfl)) rfl gb.tuple bt_tuple (@pa_cons _ _ _ _ _ (@pe_comp _ ["_law_one", "_law_pool_here"] [none, some 0] _ _ _ _ _ _ _ _ _ _ (by exact (show CompOk ["_law_pool_here", "_law_most", "_law_connectives", "_law_often", "_law_many", "_law_wished", "_law_found", "_law_k", "_law_name_here", "_law_places"] (defScope s_law_half) ["_law_one", "_law_pool_here"] [none, some 0] _ from ⟨rfl, by decide +kernel, by decide +kernel, by decide +kernel, by decide +kernel, rfl, by decide +kernel⟩)) rfl (@pi_range1 _ _ _ _ _ _ rfl gb.range (@pa_cons _ _ _ _ _ (@pv _ 4 _ _ (by rfl) (by first | exact Or.inl rfl | exact Or.inr (Or.inl rfl) | exact Or.inr (Or.inr rfl)) (by decide) (by decide)) (@pa_nil _) (by rfl)) (by rfl)) (fun _ _ _ _ => (@pg_name _ _ 0 _ nd0 rfl (Or.inl rfl) (by first | exact .inl rfl | exact .inr rfl | assumption))) (fun _ _ _ _ => (@pf_one _ _ _ (@pt_cmpR _ _ _ _ _ _ _ _ (@op_eq _) (@pe_def _ _ _ _ _ _ _ _ _ _ _ d_law_draw hr (by decide) rfl (@pa_cons _ _ _ _ _ (@pv _ 1 _ _ (by rfl) (by first | exact Or.inl rfl | exact Or.inr (Or.inl rfl) | exact Or.inr (Or.inr rfl)) (by decide) (by decide)) (@pa_cons _ _ _ _ _ (@pe_int _ _ _ _) (@pa_nil _) (by rfl)) (by rfl)) (by decide) (by rfl) (by rfl)) (@pe_int _ _ _ _) (@nomark _ _ (by decide) (by decide))))) (fun _ _ _ _ => (@pv _ 0 _ _ (by rfl) (by first | exact Or.inl rfl | exact Or.inr (Or.inl rfl) | exact Or.inr (Or.inr rfl)) (by decide) (by decide))) (by intro _; rfl)) (@pa_nil _) (by rfl)) (by decide) (by decide) (by rfl) (by rfl)) (by rfl) (by first | exact .inl rfl | exact .inr rfl | assumption)) (@pss_cons _ _ _ _ _ (@ps_set _ _ 6 _ _ _ _ sc_law_half.nd rfl (Or.inl rfl) (@pe_lst _ _ _ _ (@pa_nil _)) (by rfl) (by first | exact .inl rfl | exact .inr rfl | assumption)) (@pss_cons _ _ _ _ _ (@ps_for _ _ _ _ _ _ _ _ PassesOwn.never rfl (@pi_range1 _ _ _ _ _ _ rfl gb.range (@pa_cons _ _ _ _ _ (@pe_def _ _ _ _ _ _ _ _ _ _ _ d_law_draw hr (by decide) rfl (@pa_cons _ _ _ _ _ (@pv _ 0 _ _ (by rfl) (by first | exact Or.inl rfl | exact Or.inr (Or.inl rfl) | exact Or.inr (Or.inr rfl)) (by decide) (by decide)) (@pa_cons _ _ _ _ _ (@pe_op _ _ _ _ _ _ _ _ (@op_add _) (@pv _ 2 _ _ (by rfl) (by first | exact Or.inl rfl | exact Or.inr (Or.inl rfl) | exact Or.inr (Or.inr rfl)) (by decide) (by decide)) (@pe_int _ _ _ _)) (@pa_nil _) (by rfl)) (by rfl)) (by decide) (by rfl) (by rfl)) (@pa_nil _) (by rfl)) (by rfl)) (@pg_name _ _ 7 _ sc_law_half.nd rfl (Or.inl rfl) (by first | exact .inl rfl | exact .inr rfl | assumption)) (@pss_cons _ _ _ _ _ (@ps_set _ _ 8 _ _ _ _ sc_law_half.nd rfl (Or.inl rfl) (@pe_def _ _ _ _ _ _ _ _ _ _ _ d_law_name hr (by decide) rfl (@pa_cons _ _ _ _ _ (@pv _ 0 _ _ (by rfl) (by first | exact Or.inl rfl | exact Or.inr (Or.inl rfl) | exact Or.inr (Or.inr rfl)) (by decide) (by decide)) (@pa_cons _ _ _ _ _ (@pe_comp _ ["_law_one"] [none] _ _ _ _ _ _ _ _ _ _ (by exact (show CompOk ["_law_pool_here", "_law_most", "_law_connectives", "_law_often", "_law_many", "_law_wished", "_law_found", "_law_k", "_law_name_here", "_law_places"] (defScope s_law_half) ["_law_one"] [none] _ from ⟨rfl, by decide +kernel, by decide +kernel, by decide +kernel, by decide +kernel, rfl, by decide +kernel⟩)) rfl (@kpi_list _ K _ _ _ (@pv _ 6 _ _ (by rfl) (by first | exact Or.inl rfl | exact Or.inr (Or.inl rfl) | exact Or.inr (Or.inr rfl)) (by decide) (by decide)) (by rfl)) (fun _ _ _ _ => (@pg_name _ _ 0 _ nd1 rfl (Or.inl rfl) (by first | exact .inl rfl | exact .inr rfl | assumption))) (fun _ _ _ _ => (@pf_nil _)) (fun _ _ _ _ => (@pe_ix _ _ _ _ _ _ _ (@kix_seq _ K (by rfl)) (@pv _ 0 _ _ (by rfl) (by first | exact Or.inl rfl | exact Or.inr (Or.inl rfl) | exact Or.inr (Or.inr rfl)) (by decide) (by decide)) (@pe_int _ _ _ _) (fun _ _ => rfl))) (by intro _; rfl)) (@pa_nil _) (by rfl)) (by rfl)) (by decide) (by rfl) (by rfl)) (by rfl) (by first | exact .inl rfl | exact .inr rfl | assumption)) (@pss_cons _ _ _ _ _ (@ps_set _ _ 9 _ _ _ _ sc_law_half.nd rfl (Or.inl rfl) (@pe_ix _ _ _ _ _ _ _ (@kix_seq _ K (by rfl)) (@pe_lst _ _ _ _ (@pa_cons _ _ _ _ _ (@pe_int _ _ _ _) (@pa_cons _ _ _ _ _ (@pe_int _ _ _ _) (@pa_cons _ _ _ _ _ (@pe_int _ _ _ _) (@pa_cons _ _ _ _ _ (@pe_int _ _ _ _) (@pa_nil _) (by rfl)) (by rfl)) (by rfl)) (by rfl))) (@pe_def _ _ _ _ _ _ _ _ _ _ _ d_law_draw hr (by decide) rfl (@pa_cons _ _ _ _ _ (@pv _ 0 _ _ (by rfl) (by first | exact Or.inl rfl | exact Or.inr (Or.inl rfl) | exact Or.inr (Or.inr rfl)) (by decide) (by decide)) (@pa_cons _ _ _ _ _ (@pe_int _ _ _ _) (@pa_nil _) (by rfl)) (by rfl)) (by decide) (by rfl) (by rfl)) (fun _ _ => rfl)) (by rfl) (by first | exact .inl rfl | exact .inr rfl | assumption)) (@pss_one _ _ _ (@ps_expr _ _ _ _ (@kpe_bm _ K _ _ _ _ _ _ _ _ _ _ _ PySem.F.plainAttrs_list PySem.F.slot_list_append PySem.F.type_list_append (@mt_append _) (@pv _ 6 _ _ (by rfl) (by first | exact Or.inl rfl | exact Or.inr (Or.inl rfl) | exact Or.inr (Or.inr rfl)) (by decide) (by decide)) (@pa_cons _ _ _ _ _ (@pe_tup _ _ _ _ _ (@pa_cons _ _ _ _ _ (@pv _ 8 _ _ (by rfl) (by first | exact Or.inl rfl | exact Or.inr (Or.inl rfl) | exact Or.inr (Or.inr rfl)) (by decide) (by decide)) (@pa_cons _ _ _ _ _ (@pv _ 9 _ _ (by rfl) (by first | exact Or.inl rfl | exact Or.inr (Or.inl rfl) | exact Or.inr (Or.inr rfl)) (by decide) (by decide)) (@pa_cons _ _ _ _ _ (@pe_def _ _ _ _ _ _ _ _ _ _ _ d_law_cells hr (by decide) rfl (@pa_cons _ _ _ _ _ (@pv _ 0 _ _ (by rfl) (by first | exact Or.inl rfl | exact Or.inr (Or.inl rfl) | exact Or.inr (Or.inr rfl)) (by decide) (by decide)) (@pa_cons _ _ _ _ _ (@pv _ 4 _ _ (by rfl) (by first | exact Or.inl rfl | exact Or.inr (Or.inl rfl) | exact Or.inr (Or.inr rfl)) (by decide) (by decide)) (@pa_cons _ _ _ _ _ (@pv _ 9 _ _ (by rfl) (by first | exact Or.inl rfl | exact Or.inr (Or.inl rfl) | exact Or.inr (Or.inr rfl)) (by decide) (by decide)) (@pa_cons _ _ _ _ _ (@pv _ 3 _ _ (by rfl) (by first | exact Or.inl rfl | exact Or.inr (Or.inl rfl) | exact Or.inr (Or.inr rfl)) (by decide) (by decide)) (@pa_nil _) (by rfl)) (by rfl)) (by rfl)) (by rfl)) (by decide) (by rfl) (by rfl)) (@pa_nil _) (by rfl)) (by rfl)) (by rfl))) (@pa_nil _) (by rfl)) (by rfl) (by rfl) (by rfl) (by rfl) (by rfl) (by rfl)) (by rfl))))) (by intro _; rfl)) (@pss_one _ _ _ (@ps_ret _ _ _ _ (@pe_tup _ _ _ _ _ (@pa_cons _ _ _ _ _ (@pv _ 4 _ _ (by rfl) (by first | exact Or.inl rfl | exact Or.inr (Or.inl rfl) | exact Or.inr (Or.inr rfl)) (by decide) (by decide)) (@pa_cons _ _ _ _ _ (@pv _ 5 _ _ (by rfl) (by first | exact Or.inl rfl | exact Or.inr (Or.inl rfl) | exact Or.inr (Or.inr rfl)) (by decide) (by decide)) (@pa_cons _ _ _ _ _ (@pe_callTy _ _ _ _ _ _ _ _ _ (@kcall_tuple_of _ K (by rfl)) rfl gb.tuple bt_tuple (@pa_cons _ _ _ _ _ (@pv _ 6 _ _ (by rfl) (by first | exact Or.inl rfl | exact Or.inr (Or.inl rfl) | exact Or.inr (Or.inr rfl)) (by decide) (by decide)) (@pa_nil _) (by rfl)) (by decide) (by decide) (by rfl) (by rfl)) (@pa_nil _) (by rfl)) (by rfl)) (by rfl))))))))), ?_⟩
  refine ⟨_, rfl, _, rfl, p, most, rfl, hp, by walk_at "om", by walk_at "om", fun v H1 v0 v1 o1 pl1 => ?_⟩
  refine ⟨_, _, rfl, rfl, ?_⟩
  refine ⟨_, rfl, _, rfl, by walk_at "om", by walk_at "om", fun D hD => ?_⟩
  have ne : ∀ {H0 : Hp} {t : Addr}, Pool H0 p → H0 t = none → t ≠ p := fun {H0 t} hq ht z => by
    obtain ⟨r, a, b, e⟩ := hq
    rw [← z, ht] at e
    cases e
  have pnD := ne pl1 hD
  refine comp_range (fun i ys H => Off p H1 H ∧ Pool H p ∧ ∃ ws : List Int, ys = ws.map V.int ∧ ws.length ≤ i ∧ (∀ w ∈ ws, 0 ≤ w ∧ w < (i : Int)) ∧ ws.Pairwise (· < ·)) ⟨Off.new hD, pl1.new hD, [], rfl, Nat.le_refl _, by simp, List.Pairwise.nil⟩ ?_ ?_
  · rintro i ys H2 hi ⟨o2, p2, ws, rfl, hw, hwb, hwr⟩ hD2
    refine ⟨_, rfl, p, 2, rfl, p2, by decide, by decide, fun u H3 u0 u1 o3 p3 => ⟨rfl, _, rfl, ?_⟩⟩
    refine ite2 (fun c => ?_) (fun c => ?_)
    · refine ⟨_, rfl, cyes hi rset1 (o3 _ _ pnD hD2) (by rw [List.length_map]; exact small1000 (by walk_at "om")) ⟨(o2.trans o3).fresh hD, p3.off (Ne.symm pnD), ws ++ [0 + (i : Int)], by rw [List.map_append]; rfl, ?_, fun z hz => ?_, ?_⟩⟩
      · rw [List.length_append, List.length_singleton]
        walk_at "om"
      · rcases List.mem_append.mp hz with hz | hz
        · have := hwb z hz
          walk_at "om"
        · rw [List.mem_singleton.mp hz]
          walk_at "om"
      · refine List.pairwise_append.mpr ⟨hwr, List.pairwise_singleton _ _, fun a ha b hb => ?_⟩
        rw [List.mem_singleton.mp hb]
        have := hwb a ha
        walk_at "om"
    · exact cno hi rset1 (o3 _ _ pnD hD2) ⟨o2.trans o3, p3, ws, rfl, by walk_at "om", fun z hz => by have := hwb z hz; walk_at "om", hwr⟩
  · rintro ys H2 ⟨o2, p2, ws, rfl, hw, hwb, hwr⟩ hD2
    refine ⟨D, _, rfl, .inl ⟨SqL.of hD2, fun w1 hw1 => ?_⟩⟩
    refine ⟨Nat.zero_le _, fun f hf => ?_⟩
    have fw : f ≠ w1 := fun z => by
      rw [z, upd_same] at hf
      cases hf
    have p3 : Pool (upd H2 w1 (.tup (ws.map V.int))) p := p2.new hw1
    have p4 : Pool (upd (upd H2 w1 (.tup (ws.map V.int))) f (.lst [])) p := p3.new hf
    have fp := ne p3 hf
    have wp := ne p2 hw1
    have nf : ∀ b o, b ≠ p → H b = some o → b ≠ f := fun b o hb e z => by
      have e3 : (upd H2 w1 (.tup (ws.map V.int))) b = some o := ((o1.trans o2).trans (Off.new hw1)) b o hb e
      rw [z, hf] at e3
      cases e3
    have o4 : Off p H (upd (upd H2 w1 (.tup (ws.map V.int))) f (.lst [])) := ((o1.trans o2).trans (Off.new hw1)).trans (Off.new hf)
    refine ⟨_, rfl, _, rfl, _, _, rfl, rfl, p, _, rfl, p4, by walk_at "om", by walk_at "om", fun nc H5 n0 n1 o5 p5 => ⟨_, rfl, by walk_at "om", by walk_at "om", ?_⟩⟩
    have hw5 : H5 w1 = some (.tup (ws.map V.int)) := o5 _ _ wp (by rw [upd_ne (Ne.symm fw)]; exact upd_same)
    have hf5 : H5 f = some (.lst []) := o5 _ _ fp upd_same
    refine for_range (fun i σ H6 => ∃ (cs : List Conn) (vs : List V) (x7 x8 x9 : Option V), σ = [some (.ref p), some (.int most), some (.int conn), some (.int often), some (.int (1 + v)), some (.ref w1), some (.ref f), x7, x8, x9] ∧
      Off p H H6 ∧ Pool H6 p ∧ H6 w1 = some (.tup (ws.map V.int)) ∧ H6 f = some (.lst vs) ∧ Conns H6 cs vs ∧ cs.length = i ∧ (∀ c ∈ cs, GoodC (1 + v) c) ∧ (cs.map (·.nm)).Nodup ∧ (often = 0 → ∀ c ∈ cs, ∀ o ∈ c.cs, o ≠ none)) ⟨[], [], none, none, none, rfl, o4.trans o5, p5, hw5, hf5, rfl, rfl, by simp, by simp, by simp⟩ ?_ ?_
    · rintro i σ H6 hi ⟨cs, vs, x7, x8, x9, rfl, o6, p6, hw6, hf6, hC, hl, hgc, hnd, hfu⟩
      refine ⟨_, rfl, _, rfl, f, rfl, ⟨_, SqL.of hf6⟩, fun D2 hD2 => ?_⟩
      have hvl := hC.len
      have nD2 := ne p6 hD2
      refine comp_list (xs := vs) (fun j ys H7 => Same H6 H7 ∧ ys = (cs.take j).map fun c => V.str c.nm) ⟨same_new hD2 _, rfl⟩ (fun j ys H7 h _ => SqL.of (h.1 _ _ hf6)) ?_ ?_
      · rintro j ys H7 x hx ⟨s7, rfl⟩ hD7
        have hj : j < vs.length := (List.getElem?_eq_some_iff.mp hx).1
        have hcj : cs[j]? = some (cs.getD j ⟨"", 0, []⟩) := by simp [List.getD, show j < cs.length by walk_at "om"]
        obtain ⟨t, u, e1, e2, e3⟩ := hC.get hcj
        rw [hx] at e1
        cases e1
        refine yes ?_
        refine ⟨_, rfl, .inr (.inl ⟨t, _, 0, _, rfl, rfl, SqT.of (s7 _ _ e2), rfl, ?_⟩)⟩
        refine cyes hj rset1 hD7 (by rw [List.length_map, List.length_take]; exact small1000 (by walk_at "om")) ⟨fun b o qb => ?_, ?_⟩
        · rw [upd_ne (ne_of_none qb hD2)]
          exact s7 b o qb
        · rw [take_snoc hcj, List.map_append]
          rfl
      · rintro ys H7 ⟨s7, rfl⟩ hD7
        rw [hvl, List.take_length] at hD7
        have p7 : Pool H7 p := by
          obtain ⟨r, a, b, e⟩ := p6
          exact ⟨r, a, b, s7 _ _ e⟩
        refine ⟨p, D2, cs.map (·.nm), rfl, p7, by rw [List.map_map]; exact hD7, by rw [List.length_map]; walk_at "om", fun x H8 o8 p8 hx8 hxn => ?_⟩
        refine ⟨small9 (by show 4 ≤ 1000; decide), fun g hg => ⟨_, rfl, p, 4, rfl, p8.new hg, by decide, by decide, fun y H9 y0 y1 o9' p9 => ?_⟩⟩
        have gp := ne p8 hg
        obtain ⟨pp, hat, pp0, pp2⟩ := at4 y0 y1
        refine .inl ⟨g, _, y, _, rfl, rfl, SqL.of (o9' _ _ gp upd_same), hat, ?_⟩
        have o69 : Off p H6 H9 := ((Off.of s7).trans o8).trans ((Off.new hg).trans o9')
        have hf9 := o69 _ _ fp hf6
        refine ⟨_, rfl, .inl ⟨rfl, _, SqL.of hf9⟩, _, rfl, _, rfl, _, rfl, _, rfl, _, rfl, _, rfl, p, _, _, _, rfl, p9, by walk_at "om", by walk_at "om", pp0, pp2, o0, o9, fun t cl H10 o10 p10 ht hcl hck hcf => ?_⟩
        refine ⟨small9 (by show 3 ≤ 1000; decide), fun tt htt => ?_⟩
        have o610 : Off p H6 H10 := o69.trans o10
        have hf10 := o610 _ _ fp hf6
        have nft : f ≠ tt := fun z => by
          rw [← z, hf10] at htt
          cases htt
        have tk6 : Tk H6 (upd H10 tt (.tup [.str x, .int pp, .ref t])) := (o610.tk p6).trans (Tk.new htt)
        have hfT : (upd H10 tt (.tup [.str x, .int pp, .ref t])) f = some (.lst vs) := by rw [upd_ne nft]; exact hf10
        refine ⟨f, vs, _, rfl, rfl, hfT, small1000 (by walk_at "om"), ?_⟩
        have tkf : Tk H6 (upd (upd H10 tt (.tup [.str x, .int pp, .ref t])) f (.lst (vs ++ [.ref tt]))) := tk6.trans (Tk.put hfT)
        have ntp := ne p10 htt
        refine ⟨cs ++ [⟨x, pp, cl⟩], vs ++ [.ref tt], some (.int (0 + i)), some (.str x), some (.int pp), rfl, ?_, (p10.new htt).off (Ne.symm fp), tkf _ _ hw6, upd_same, ?_, ?_, ?_, ?_, ?_⟩
        · intro b o hb hbo
          have e10 := o610 b o hb (o6 b o hb hbo)
          rw [upd_ne (nf b o hb hbo), upd_ne (ne_of_none e10 htt)]
          exact e10
        · refine (hC.tk tkf).snoc (c := ⟨x, pp, cl⟩) (u := t) ?_ ?_
          · rw [upd_ne (Ne.symm nft)]
            exact upd_same
          · have := Tk.new (o := .tup [.str x, .int pp, .ref t]) htt _ _ ht
            exact Tk.put hfT _ _ this
        · rw [List.length_append, hl]
          rfl
        · intro c hc
          rcases List.mem_append.mp hc with hc | hc
          · exact hgc c hc
          · have := List.mem_singleton.mp hc
            rw [this]
            exact ⟨hxn, pp0, pp2, hcl, hck⟩
        · rw [List.map_append]
          refine List.nodup_append.mpr ⟨hnd, by simp, fun a ha b hb => ?_⟩
          have e2 : b = x := List.mem_singleton.mp hb
          rw [e2]
          intro e3
          rw [e3] at ha
          exact hx8 ha
        · intro h0 c hc
          rcases List.mem_append.mp hc with hc | hc
          · exact hfu h0 c hc
          · have := List.mem_singleton.mp hc
            rw [this]
            exact hcf h0
    · rintro σ H6 ⟨cs, vs, x7, x8, x9, rfl, o6, p6, hw6, hf6, hC, hl, hgc, hnd, hfu⟩
      refine ⟨_, rfl, _, rfl, _, rfl, f, _, rfl, .inl ⟨SqL.of hf6, fun c hc => ?_⟩⟩
      refine ⟨small9 (by show 3 ≤ 1000; decide), fun tt htt => ?_⟩
      have tk1 : Tk H6 (upd (upd H6 c (.tup vs)) tt (.tup [.int (1 + v), .ref w1, .ref c])) := (Tk.new hc).trans (Tk.new htt)
      refine q _ ⟨1 + v, ws, cs⟩ _ ((o6.trans (Off.new hc)).trans (Off.new htt)) ((p6.new hc).new htt) ⟨tt, w1, c, vs, rfl, upd_same, tk1 _ _ hw6, Tk.new htt _ _ upd_same, hC.tk tk1⟩ ⟨by show 1 ≤ 1 + v; walk_at "om", by show 1 + v ≤ 9; walk_at "om", fun w hw' => by show 0 ≤ w ∧ w < 1 + v; have := hwb w hw'; walk_at "om", hwr, by show ws.length ≤ 9; walk_at "om", by show cs.length ≤ 8; walk_at "om", hnd, hgc⟩ hfu (by show 1 + v ≤ most; walk_at "om") (by show (cs.length : Int) ≤ conn; walk_at "om")

noncomputable abbrev s_power : Stmt := top 23
theorem sc_power : FnScope ["base", "exponent", "product", "step"] ["base", "exponent"] (defScope s_power) := ⟨rfl, rfl, rfl, by decide +kernel, rfl, by decide +kernel, by decide +kernel⟩
theorem ok_power {P : Program} {w : World} {K : PySem.W.Frag} {mg : Str → Option Value} {base : Heap} {f : Addr} {fd : FuncData} (F : Fun K "power" "power" s_power f fd) (gb : Gb mg) {c : Nat → Addr} (cl : Cl K mg c) : FnOk P w K mg base CX0 1 f fd ["base", "exponent"] spPower := by
  refine F.ok sc_power (fun vs H Q E h => ?_) (fun cdv A outer s H vs Q E hr h => ?_)
  · obtain ⟨b, n, rfl, _⟩ := h
    rfl
  obtain ⟨b, n, rfl, b1, b9, n9, q⟩ := h
  refine ⟨_, (@pss_cons _ _ _ _ _ (@ps_set _ _ 2 _ _ _ _ sc_power.nd rfl (Or.inl rfl) (@pe_int _ _ _ _) (by rfl) (by first | exact .inl rfl | exact .inr rfl | assumption)) (@pss_cons _ _ _ _ _ (@ps_for _ _ _ _ _ _ _ _ PassesOwn.never rfl (@pi_range1 _ _ _ _ _ _ rfl gb.range (@pa_cons _ _ _ _ _ (@pv _ 1 _ _ (by rfl) (by first | exact Or.inl rfl | exact Or.inr (Or.inl rfl) | exact Or.inr (Or.inr rfl)) (by decide) (by decide)) (@pa_nil _) (by rfl)) (by rfl)) (@pg_name _ _ 3 _ sc_power.nd rfl (Or.inl rfl) (by first | exact .inl rfl | exact .inr rfl | assumption)) (@pss_one _ _ _ (@ps_set _ _ 2 _ _ _ _ sc_power.nd rfl (Or.inl rfl) (@pe_op _ _ _ _ _ _ _ _ (@op_mul _) (@pv _ 2 _ _ (by rfl) (by first | exact Or.inl rfl | exact Or.inr (Or.inl rfl) | exact Or.inr (Or.inr rfl)) (by decide) (by decide)) (@pv _ 0 _ _ (by rfl) (by first | exact Or.inl rfl | exact Or.inr (Or.inl rfl) | exact Or.inr (Or.inr rfl)) (by decide) (by decide))) (by rfl) (by first | exact .inl rfl | exact .inr rfl | assumption))) (by intro _; rfl)) (@pss_one _ _ _ (@ps_ret _ _ _ _ (@pv _ 2 _ _ (by rfl) (by first | exact Or.inl rfl | exact Or.inr (Or.inl rfl) | exact Or.inr (Or.inr rfl)) (by decide) (by decide)))))), ?_⟩
  refine ⟨_, rfl, _, rfl, by walk_at "om", by walk_at "om", ?_⟩
  refine for_range (fun i σ H' => H' = H ∧ ∃ st, σ = [some (.int b), some (.int n), some (.int (b ^ i)), st]) ⟨rfl, none, by rw [Int.pow_zero]; rfl⟩ ?_ ?_
  · rintro i σ H' hi ⟨rfl, st, rfl⟩
    refine ⟨_, rfl, _, rfl, _, _, rfl, rfl, .inr ⟨by walk_at "om", by walk_at "om"⟩, rfl, some (.int (0 + i)), ?_⟩
    rw [Int.pow_succ]
    rfl
  · rintro σ H' ⟨rfl, st, rfl⟩
    exact ⟨_, rfl, by rw [Int.toNat_natCast]; exact q⟩

noncomputable abbrev s_count_nones : Stmt := top 22
theorem sc_count_nones : FnScope ["H"] ["H"] (defScope s_count_nones) := ⟨rfl, rfl, rfl, by decide +kernel, rfl, by decide +kernel, by decide +kernel⟩
theorem ok_count_nones {P : Program} {w : World} {K : PySem.W.Frag} {mg : Str → Option Value} {base : Heap} {f : Addr} {fd : FuncData} (F : Fun K "count_nones" "count_nones" s_count_nones f fd) (gb : Gb mg) {c : Nat → Addr} (cl : Cl K mg c) : FnOk P w K mg base CX0 1 f fd ["H"] spNones := by
  refine F.ok sc_count_nones (fun vs H Q E h => ?_) (fun cdv A outer s H vs Q E hr h => ?_)
  · obtain ⟨v, T, rfl, _⟩ := h
    rfl
  obtain ⟨v, T, rfl, ⟨a, w1, c, vs, rfl, h1, h2, h3, h4⟩, ft, q⟩ := h
  have nd0 : (["name", "places", "cells"] : List Str).Nodup := by decide +kernel
  refine ⟨_, (@pss_one _ _ _ (@ps_ret _ _ _ _ (@pe_callB _ _ _ _ _ _ _ _ _ (@kcall_sum _ K rfl (by rfl)) rfl gb.sum bt_sum (@pa_cons _ _ _ _ _ (@pe_comp _ ["name", "places", "cells"] [none, none, none] _ _ _ _ _ _ _ _ _ _ (by exact (show CompOk ["H"] (defScope s_count_nones) ["name", "places", "cells"] [none, none, none] _ from ⟨rfl, by decide +kernel, by decide +kernel, by decide +kernel, by decide +kernel, rfl, by decide +kernel⟩)) rfl (@kpi_tup _ K _ _ _ (@pe_ix _ _ _ _ _ _ _ (@kix_seq _ K (by rfl)) (@pv _ 0 _ _ (by rfl) (by first | exact Or.inl rfl | exact Or.inr (Or.inl rfl) | exact Or.inr (Or.inr rfl)) (by decide) (by decide)) (@pe_int _ _ _ _) (fun _ _ => rfl)) (by rfl)) (fun _ _ _ _ => (@kpg_tup _ K _ _ _ _ 3 rfl (@pgs_cons _ _ _ _ _ (@pg_name _ _ 0 _ nd0 rfl (Or.inl rfl) (by first | exact .inl rfl | exact .inr rfl | assumption)) (@pgs_cons _ _ _ _ _ (@pg_name _ _ 1 _ nd0 rfl (Or.inl rfl) (by first | exact .inl rfl | exact .inr rfl | assumption)) (@pgs_cons _ _ _ _ _ (@pg_name _ _ 2 _ nd0 rfl (Or.inl rfl) (by first | exact .inl rfl | exact .inr rfl | assumption)) (@pgs_nil _) (by rfl)) (by rfl)) (by rfl)) (by rfl) (by rfl) (by rfl))) (fun _ _ _ _ => (@pf_nil _)) (fun _ _ _ _ => (@kpe_bm _ K _ _ _ _ _ _ _ _ _ _ _ PySem.F.plainAttrs_tuple PySem.F.slot_tuple_count PySem.F.type_tuple_count (@mt_count _) (@pv _ 2 _ _ (by rfl) (by first | exact Or.inl rfl | exact Or.inr (Or.inl rfl) | exact Or.inr (Or.inr rfl)) (by decide) (by decide)) (@pa_cons _ _ _ _ _ (@pe_non _ _ _) (@pa_nil _) (by rfl)) (by rfl) (by rfl) (by rfl) (by rfl) (by rfl) (by rfl))) (by intro _; rfl)) (@pa_nil _) (by rfl)) (by decide) (by decide) (by rfl) (by rfl)))), ?_⟩
  refine ⟨_, rfl, .inr (.inl ⟨a, _, 2, _, rfl, rfl, SqT.of h1, rfl, c, rfl, ⟨_, SqT.of h3⟩, fun D hD => ?_⟩)⟩
  have hlen := h4.len
  have ge : ∀ i, i < T.cs.length → T.cs[i]? = some (T.cs.getD i ⟨"", 0, []⟩) := fun i hi => by simp [List.getD, hi]
  have gx : ∀ i, ∃ t u : Addr, i < T.cs.length → vs[i]? = some (.ref t) ∧ H t = some (.tup [.str (T.cs.getD i ⟨"", 0, []⟩).nm, .int (T.cs.getD i ⟨"", 0, []⟩).pl, .ref u]) ∧ H u = some (.tup ((T.cs.getD i ⟨"", 0, []⟩).cs.map cellV)) := fun i => by
    by_cases hi : i < T.cs.length
    · obtain ⟨t, u, h⟩ := h4.get (ge i hi)
      exact ⟨t, u, fun _ => h⟩
    · exact ⟨0, 0, fun z => absurd z hi⟩
  obtain ⟨ad, gx⟩ := Classical.axiomOfChoice gx
  obtain ⟨au, gx⟩ := Classical.axiomOfChoice gx
  refine comp_tt3 (n := T.cs.length) (ad := ad) (v1 := fun i => .str (T.cs.getD i ⟨"", 0, []⟩).nm) (v2 := fun i => .int (T.cs.getD i ⟨"", 0, []⟩).pl) (v3 := fun i => .ref (au i))
    (fun i ys H' => Same H H' ∧ ys = (T.cs.take i).map fun c => V.int (nonesC c : Nat)) ⟨same_new hD _, rfl⟩ hlen (fun i hi => (gx i hi).1) (fun i ys H' p _ => SqT.of (p.1 _ _ h3)) (fun i ys H' hi p => SqT.of (p.1 _ _ (gx i hi).2.1)) ?_ ?_
  · rintro i ys H' hi ⟨s1, rfl⟩ hD'
    refine yes ?_
    refine ⟨_, rfl, .inr (.inr (.inr (.inr ⟨rfl, _, s1 _ _ (gx i hi).2.2⟩))), _, _, _, rfl, rfl, s1 _ _ (gx i hi).2.2, rfl, flat_cells _, ?_⟩
    rw [count_cells]
    have hz : ((T.cs.take i).map fun c => V.int (nonesC c : Nat)).length < sizeLine := by
      rw [List.length_map, List.length_take]
      exact small1000 (by have := ft.2.2.2.1; walk_at "om")
    refine cyes hi rfl hD' hz ⟨fun b o q => ?_, ?_⟩
    · rw [upd_ne (ne_of_none q hD)]
      exact s1 b o q
    · rw [take_snoc (ge i hi), List.map_append]
      rfl
  · rintro ys H' ⟨s1, rfl⟩ hD'
    rw [List.take_length] at hD'
    refine ⟨D, T.cs.map fun c => ((nonesC c : Nat) : Int), rfl, SqL.of (by rw [List.map_map]; exact hD'), ?_⟩
    have e : ∀ cs : List Conn, (cs.map fun c => ((nonesC c : Nat) : Int)).sum = (((cs.map nonesC).sum : Nat) : Int) := fun cs => by
      induction cs with
      | nil => rfl
      | cons c cs ih => rw [List.map_cons, List.sum_cons, List.map_cons, List.sum_cons, ih, Int.natCast_add]
    rw [e]
    exact q H' s1

noncomputable abbrev s_is_whole : Stmt := top 13
theorem sc_is_whole : FnScope ["thing"] ["thing"] (defScope s_is_whole) := ⟨rfl, rfl, rfl, by decide +kernel, rfl, by decide +kernel, by decide +kernel⟩
theorem ok_is_whole {P : Program} {w : World} {K : PySem.W.Frag} {mg : Str → Option Value} {base : Heap} {f : Addr} {fd : FuncData} (F : Fun K "is_whole" "is_whole" s_is_whole f fd) (gb : Gb mg) {c : Nat → Addr} (cl : Cl K mg c) : FnOk P w K mg base CX0 1 f fd ["thing"] spWholeT := by
  refine F.ok sc_is_whole (fun vs H Q E h => ?_) (fun cdv A outer s H vs Q E hr h => ?_)
  · obtain ⟨t, v, rfl, _⟩ := h
    rfl
  obtain ⟨t, v, rfl, h, q⟩ := h
  refine ⟨_, (@pss_one _ _ _ (@ps_ret _ _ _ _ (@pe_and _ _ _ _ _ _ _ (@pe_callB _ _ _ _ _ _ _ _ _ (@kcall_isiT _ K (by rfl)) rfl gb.isinstance bt_isinstance (@pa_cons _ _ _ _ _ (@pv _ 0 _ _ (by rfl) (by first | exact Or.inl rfl | exact Or.inr (Or.inl rfl) | exact Or.inr (Or.inr rfl)) (by decide) (by decide)) (@pa_cons _ _ _ _ _ (@pe_bltn _ _ (.ty "int") _ _ rfl gb.int bt_int rfl (by decide) (by decide)) (@pa_nil _) (by rfl)) (by rfl)) (by decide) (by decide) (by rfl) (by rfl)) (@pe_one _ _ _ _ _ (@pe_not _ _ _ _ (@pe_callB _ _ _ _ _ _ _ _ _ (@kcall_isiT _ K (by rfl)) rfl gb.isinstance bt_isinstance (@pa_cons _ _ _ _ _ (@pv _ 0 _ _ (by rfl) (by first | exact Or.inl rfl | exact Or.inr (Or.inl rfl) | exact Or.inr (Or.inr rfl)) (by decide) (by decide)) (@pa_cons _ _ _ _ _ (@pe_bltn _ _ (.ty "bool") _ _ rfl gb.bool bt_bool rfl (by decide) (by decide)) (@pa_nil _) (by rfl)) (by rfl)) (by decide) (by decide) (by rfl) (by rfl))))))), ?_⟩
  refine ⟨_, rfl, _, _, _, isIntB t, rfl, h.ty, kit_int t, _, rfl, ?_⟩
  cases t with
  | int i => exact iteT ⟨_, rfl, _, _, _, false, rfl, h.ty, kit_bool (.int i), _, rfl, q⟩
  | bl b => exact iteT ⟨_, rfl, _, _, _, true, rfl, h.ty, kit_bool (.bl b), _, rfl, q⟩
  | _ => exact iteF q

noncomputable abbrev s_has_small_letters_alone : Stmt := top 15
theorem sc_has_small_letters_alone : FnScope ["text"] ["text"] (defScope s_has_small_letters_alone) := ⟨rfl, rfl, rfl, by decide +kernel, rfl, by decide +kernel, by decide +kernel⟩
theorem ok_has_small_letters_alone {P : Program} {w : World} {K : PySem.W.Frag} {mg : Str → Option Value} {base : Heap} {f : Addr} {fd : FuncData} (F : Fun K "has_small_letters_alone" "has_small_letters_alone" s_has_small_letters_alone f fd) (gb : Gb mg) {c : Nat → Addr} (cl : Cl K mg c) : FnOk P w K mg base CX0 1 f fd ["text"] spSmallT := by
  refine F.ok sc_has_small_letters_alone (fun vs H Q E h => ?_) (fun cdv A outer s H vs Q E hr h => ?_)
  · obtain ⟨x, rfl, _⟩ := h
    rfl
  obtain ⟨x, rfl, hl, q⟩ := h
  have nd0 : (["sign"] : List Str).Nodup := by decide +kernel
  refine ⟨_, (@pss_one _ _ _ (@ps_ret _ _ _ _ (@pe_callB _ _ _ _ _ _ _ _ _ (@kcall_all _ K rfl (by rfl)) rfl gb.all bt_all (@pa_cons _ _ _ _ _ (@pe_comp _ ["sign"] [none] _ _ _ _ _ _ _ _ _ _ (by exact (show CompOk ["text"] (defScope s_has_small_letters_alone) ["sign"] [none] _ from ⟨rfl, by decide +kernel, by decide +kernel, by decide +kernel, by decide +kernel, rfl, by decide +kernel⟩)) rfl (@pi_str _ _ _ _ (@pv _ 0 _ _ (by rfl) (by first | exact Or.inl rfl | exact Or.inr (Or.inl rfl) | exact Or.inr (Or.inr rfl)) (by decide) (by decide))) (fun _ _ _ _ => (@pg_name _ _ 0 _ nd0 rfl (Or.inl rfl) (by first | exact .inl rfl | exact .inr rfl | assumption))) (fun _ _ _ _ => (@pf_nil _)) (fun _ _ _ _ => (@pe_chain _ _ _ _ _ _ _ _ _ _ _ _ (@op_le_str _) (@op_le_str _) (@pe_str _ _ _ _) (@pv _ 0 _ _ (by rfl) (by first | exact Or.inl rfl | exact Or.inr (Or.inl rfl) | exact Or.inr (Or.inr rfl)) (by decide) (by decide)) (@pe_str _ _ _ _) (by with_unfolding_all rfl))) (by intro _; rfl)) (@pa_nil _) (by rfl)) (by decide) (by decide) (by rfl) (by rfl)))), ?_⟩
  refine ⟨_, rfl, x, rfl, fun D hD => ?_⟩
  refine map_str (h := fun c => .bl (decide (97 ≤ c) && decide (c ≤ 122))) (by walk_at "om") hD (fun c hc H' Q' s1 q' => ?_) (fun H' s1 hD' => ?_)
  · refine ⟨_, rfl, _, _, rfl, rfl, _, rfl, ?_⟩
    rw [small_a]
    have q2 := q' _ Same.rfl'
    cases hb : decide (97 ≤ c) with
    | false =>
      rw [hb, Bool.false_and] at q2
      exact iteF q2
    | true =>
      rw [hb, Bool.true_and] at q2
      refine iteT ⟨_, _, rfl, rfl, ?_⟩
      rw [small_z]
      exact q2
  · have e : x.cps.toList.map (fun c => V.bl (decide (97 ≤ c) && decide (c ≤ 122))) = (x.cps.toList.map fun c => decide (97 ≤ c) && decide (c ≤ 122)).map V.bl := by rw [List.map_map]; rfl
    rw [e] at hD'
    refine ⟨D, _, rfl, SqL.of hD', ?_⟩
    rw [all_map_id]
    exact q _ s1

noncomputable abbrev s_is_name : Stmt := top 14
theorem sc_is_name : FnScope ["thing"] ["thing"] (defScope s_is_name) := ⟨rfl, rfl, rfl, by decide +kernel, rfl, by decide +kernel, by decide +kernel⟩
theorem ok_is_name {P : Program} {w : World} {K : PySem.W.Frag} {mg : Str → Option Value} {base : Heap} {f : Addr} {fd : FuncData} (F : Fun K "is_name" "is_name" s_is_name f fd) (gb : Gb mg) {c : Nat → Addr} (cl : Cl K mg c) (d_has_small_letters_alone : Def P w K mg base 1 "has_small_letters_alone" ["text"] spSmallT) : FnOk P w K mg base CX0 2 f fd ["thing"] spNameT := by
  refine F.ok sc_is_name (fun vs H Q E h => ?_) (fun cdv A outer s H vs Q E hr h => ?_)
  · obtain ⟨t, v, rfl, _⟩ := h
    rfl
  obtain ⟨t, v, rfl, h, q⟩ := h
  refine ⟨_, (@pss_one _ _ _ (@ps_ret _ _ _ _ (@pe_and _ _ _ _ _ _ _ (@pe_callB _ _ _ _ _ _ _ _ _ (@kcall_isiT _ K (by rfl)) rfl gb.isinstance bt_isinstance (@pa_cons _ _ _ _ _ (@pv _ 0 _ _ (by rfl) (by first | exact Or.inl rfl | exact Or.inr (Or.inl rfl) | exact Or.inr (Or.inr rfl)) (by decide) (by decide)) (@pa_cons _ _ _ _ _ (@pe_bltn _ _ (.ty "str") _ _ rfl gb.str bt_str rfl (by decide) (by decide)) (@pa_nil _) (by rfl)) (by rfl)) (by decide) (by decide) (by rfl) (by rfl)) (@pe_and _ _ _ _ _ _ _ (@pe_chain _ _ _ _ _ _ _ _ _ _ _ _ (@op_le _) (@op_le _) (@pe_int _ _ _ _) (@pe_callB _ _ _ _ _ _ _ _ _ (@kcall_len _ K (by rfl)) rfl gb.len bt_len (@pa_cons _ _ _ _ _ (@pv _ 0 _ _ (by rfl) (by first | exact Or.inl rfl | exact Or.inr (Or.inl rfl) | exact Or.inr (Or.inr rfl)) (by decide) (by decide)) (@pa_nil _) (by rfl)) (by decide) (by decide) (by rfl) (by rfl)) (@pe_int _ _ _ _) (by with_unfolding_all rfl)) (@pe_one _ _ _ _ _ (@pe_def _ _ _ _ _ _ _ _ _ _ _ d_has_small_letters_alone hr (by decide) rfl (@pa_cons _ _ _ _ _ (@pv _ 0 _ _ (by rfl) (by first | exact Or.inl rfl | exact Or.inr (Or.inl rfl) | exact Or.inr (Or.inr rfl)) (by decide) (by decide)) (@pa_nil _) (by rfl)) (by decide) (by rfl) (by rfl))))))), ?_⟩
  refine ⟨_, rfl, _, _, _, isStrB t, rfl, h.ty, kit_str t, _, rfl, ?_⟩
  cases t with
  | str x =>
    cases h with
    | str _ hx =>
    have hb : x.length ≤ sizeLine := Nat.le_trans hx (by decide +kernel)
    refine iteT ⟨_, rfl, _, x.length, rfl, ⟨hb, rfl⟩, _, _, rfl, rfl, _, rfl, ?_⟩
    by_cases h2 : (2 : Int) ≤ x.length
    · rw [if_pos (decide_eq_true h2)]
      refine ⟨_, _, rfl, rfl, _, rfl, ?_⟩
      by_cases h8 : (x.length : Int) ≤ 8
      · rw [if_pos (decide_eq_true h8)]
        refine ⟨_, rfl, x, rfl, by walk_at "om", fun H1 s1 => ?_⟩
        have := q H1 s1
        rw [show nameB (.str x) = (decide (2 ≤ x.length) && decide (x.length ≤ 8) && smallB x) from rfl] at this
        rw [decide_eq_true (show 2 ≤ x.length by walk_at "om"), decide_eq_true (show x.length ≤ 8 by walk_at "om"), Bool.true_and, Bool.true_and] at this
        exact this
      · rw [if_neg (by simpa using h8)]
        have := q _ Same.rfl'
        rw [show nameB (.str x) = (decide (2 ≤ x.length) && decide (x.length ≤ 8) && smallB x) from rfl] at this
        rw [decide_eq_false (show ¬ x.length ≤ 8 by walk_at "om"), Bool.and_false, Bool.false_and] at this
        exact this
    · rw [if_neg (by simpa using h2)]
      have := q _ Same.rfl'
      rw [show nameB (.str x) = (decide (2 ≤ x.length) && decide (x.length ≤ 8) && smallB x) from rfl] at this
      rw [decide_eq_false (show ¬ 2 ≤ x.length by walk_at "om"), Bool.false_and, Bool.false_and] at this
      exact ⟨false, rfl, iteF this⟩
  | _ => exact iteF (q _ Same.rfl')

noncomputable abbrev s_is_grade : Stmt := top 24
theorem sc_is_grade : FnScope ["thing", "many"] ["thing", "many"] (defScope s_is_grade) := ⟨rfl, rfl, rfl, by decide +kernel, rfl, by decide +kernel, by decide +kernel⟩
theorem ok_is_grade {P : Program} {w : World} {K : PySem.W.Frag} {mg : Str → Option Value} {base : Heap} {f : Addr} {fd : FuncData} (F : Fun K "is_grade" "is_grade" s_is_grade f fd) (gb : Gb mg) {c : Nat → Addr} (cl : Cl K mg c) (d_is_whole : Def P w K mg base 1 "is_whole" ["thing"] spWholeT) : FnOk P w K mg base CX0 2 f fd ["thing", "many"] spGradeT := by
  refine F.ok sc_is_grade (fun vs H Q E h => ?_) (fun cdv A outer s H vs Q E hr h => ?_)
  · obtain ⟨t, v, m, rfl, _⟩ := h
    rfl
  obtain ⟨t, v, m, rfl, h, q⟩ := h
  refine ⟨_, (@pss_one _ _ _ (@ps_ret _ _ _ _ (@pe_and _ _ _ _ _ _ _ (@pe_def _ _ _ _ _ _ _ _ _ _ _ d_is_whole hr (by decide) rfl (@pa_cons _ _ _ _ _ (@pv _ 0 _ _ (by rfl) (by first | exact Or.inl rfl | exact Or.inr (Or.inl rfl) | exact Or.inr (Or.inr rfl)) (by decide) (by decide)) (@pa_nil _) (by rfl)) (by decide) (by rfl) (by rfl)) (@pe_one _ _ _ _ _ (@pe_chain _ _ _ _ _ _ _ _ _ _ _ _ (@op_le _) (@op_lt _) (@pe_int _ _ _ _) (@pv _ 0 _ _ (by rfl) (by first | exact Or.inl rfl | exact Or.inr (Or.inl rfl) | exact Or.inr (Or.inr rfl)) (by decide) (by decide)) (@pv _ 1 _ _ (by rfl) (by first | exact Or.inl rfl | exact Or.inr (Or.inl rfl) | exact Or.inr (Or.inr rfl)) (by decide) (by decide)) (by with_unfolding_all rfl)))))), ?_⟩
  refine ⟨_, rfl, t, v, rfl, h, _, rfl, ?_⟩
  cases t with
  | int i =>
    cases h
    refine iteT ⟨_, rfl, _, _, rfl, rfl, _, rfl, ?_⟩
    rw [show gradeB m (.int i) = (decide (0 ≤ i) && decide (i < m)) from rfl] at q
    cases hb : decide (0 ≤ i) with
    | false =>
      rw [hb, Bool.false_and] at q
      exact iteF q
    | true =>
      rw [hb, Bool.true_and] at q
      exact iteT ⟨_, rfl, _, _, rfl, rfl, q⟩
  | _ => exact iteF q

noncomputable abbrev s_are_rising_grades : Stmt := top 25
theorem sc_are_rising_grades : FnScope ["thing", "many"] ["thing", "many"] (defScope s_are_rising_grades) := ⟨rfl, rfl, rfl, by decide +kernel, rfl, by decide +kernel, by decide +kernel⟩
theorem ok_are_rising_grades {P : Program} {w : World} {K : PySem.W.Frag} {mg : Str → Option Value} {base : Heap} {f : Addr} {fd : FuncData} (F : Fun K "are_rising_grades" "are_rising_grades" s_are_rising_grades f fd) (gb : Gb mg) {c : Nat → Addr} (cl : Cl K mg c) (d_is_grade : Def P w K mg base 2 "is_grade" ["thing", "many"] spGradeT) : FnOk P w K mg base CX0 3 f fd ["thing", "many"] spRisingT := by
  refine F.ok sc_are_rising_grades (fun vs H Q E h => ?_) (fun cdv A outer s H vs Q E hr h => ?_)
  · obtain ⟨t, v, m, rfl, _⟩ := h
    rfl
  obtain ⟨t, v, m, rfl, h, q⟩ := h
  have nd0 : (["part", "many"] : List Str).Nodup := by decide +kernel
  have nd1 : (["one", "other"] : List Str).Nodup := by decide +kernel
  refine ⟨_, (@pss_cons _ _ _ _ _ (@ps_if _ _ _ _ _ _ _ _ (@PW.pt _ _ _ (@pw_or _ _ _ _ _ _ _ (@pt_not _ _ _ _ (@pt_val _ _ _ (@pe_callB _ _ _ _ _ _ _ _ _ (@kcall_isiT _ K (by rfl)) rfl gb.isinstance bt_isinstance (@pa_cons _ _ _ _ _ (@pv _ 0 _ _ (by rfl) (by first | exact Or.inl rfl | exact Or.inr (Or.inl rfl) | exact Or.inr (Or.inr rfl)) (by decide) (by decide)) (@pa_cons _ _ _ _ _ (@pe_bltn _ _ (.ty "tuple") _ _ rfl gb.tuple bt_tuple rfl (by decide) (by decide)) (@pa_nil _) (by rfl)) (by rfl)) (by decide) (by decide) (by rfl) (by rfl)) (by intro _; rfl))) (@pw_or1 _ _ _ _ (@pt_not _ _ _ _ (@pt_val _ _ _ (@pe_callB _ _ _ _ _ _ _ _ _ (@kcall_all _ K rfl (by rfl)) rfl gb.all bt_all (@pa_cons _ _ _ _ _ (@pe_comp _ ["part", "many"] [none, some 1] _ _ _ _ _ _ _ _ _ _ (by exact (show CompOk ["thing", "many"] (defScope s_are_rising_grades) ["part", "many"] [none, some 1] _ from ⟨rfl, by decide +kernel, by decide +kernel, by decide +kernel, by decide +kernel, rfl, by decide +kernel⟩)) rfl (@kpi_tup _ K _ _ _ (@pv _ 0 _ _ (by rfl) (by first | exact Or.inl rfl | exact Or.inr (Or.inl rfl) | exact Or.inr (Or.inr rfl)) (by decide) (by decide)) (by rfl)) (fun _ _ _ _ => (@pg_name _ _ 0 _ nd0 rfl (Or.inl rfl) (by first | exact .inl rfl | exact .inr rfl | assumption))) (fun _ _ _ _ => (@pf_nil _)) (fun _ _ _ _ => (@pe_def _ _ _ _ _ _ _ _ _ _ _ d_is_grade hr (by decide) rfl (@pa_cons _ _ _ _ _ (@pv _ 0 _ _ (by rfl) (by first | exact Or.inl rfl | exact Or.inr (Or.inl rfl) | exact Or.inr (Or.inr rfl)) (by decide) (by decide)) (@pa_cons _ _ _ _ _ (@pv _ 1 _ _ (by rfl) (by first | exact Or.inl rfl | exact Or.inr (Or.inl rfl) | exact Or.inr (Or.inr rfl)) (by decide) (by decide)) (@pa_nil _) (by rfl)) (by rfl)) (by decide) (by rfl) (by rfl))) (by intro _; rfl)) (@pa_nil _) (by rfl)) (by decide) (by decide) (by rfl) (by rfl)) (by intro _; rfl)))))) (@pss_one _ _ _ (@ps_ret _ _ _ _ (@pe_bl _ _ _ _))) (@pss_nil _)) (@pss_one _ _ _ (@ps_ret _ _ _ _ (@pe_callB _ _ _ _ _ _ _ _ _ (@kcall_all _ K rfl (by rfl)) rfl gb.all bt_all (@pa_cons _ _ _ _ _ (@pe_comp _ ["one", "other"] [none, none] _ _ _ _ _ _ _ _ _ _ (by exact (show CompOk ["thing", "many"] (defScope s_are_rising_grades) ["one", "other"] [none, none] _ from ⟨rfl, by decide +kernel, by decide +kernel, by decide +kernel, by decide +kernel, rfl, by decide +kernel⟩)) rfl (@kpi_zip _ K _ _ _ _ _ _ _ _ rfl gb.zip (@pa_cons _ _ _ _ _ (@pv _ 0 _ _ (by rfl) (by first | exact Or.inl rfl | exact Or.inr (Or.inl rfl) | exact Or.inr (Or.inr rfl)) (by decide) (by decide)) (@pa_cons _ _ _ _ _ (@pe_slice _ _ _ _ _ _ _ _ _ _ (@ksl_tupA _ K (by rfl)) (@pv _ 0 _ _ (by rfl) (by first | exact Or.inl rfl | exact Or.inr (Or.inl rfl) | exact Or.inr (Or.inr rfl)) (by decide) (by decide)) (@po_some _ _ _ (@pe_int _ _ _ _)) (@po_none _)) (@pa_nil _) (by rfl)) (by rfl)) (by rfl) (by rfl) (by rfl)) (fun _ _ _ _ => (@kpg_tup _ K _ _ _ _ 2 rfl (@pgs_cons _ _ _ _ _ (@pg_name _ _ 0 _ nd1 rfl (Or.inl rfl) (by first | exact .inl rfl | exact .inr rfl | assumption)) (@pgs_cons _ _ _ _ _ (@pg_name _ _ 1 _ nd1 rfl (Or.inl rfl) (by first | exact .inl rfl | exact .inr rfl | assumption)) (@pgs_nil _) (by rfl)) (by rfl)) (by rfl) (by rfl) (by rfl))) (fun _ _ _ _ => (@pf_nil _)) (fun _ _ _ _ => (@pe_cmpR _ _ _ _ _ _ _ _ (@op_lt _) (@pv _ 0 _ _ (by rfl) (by first | exact Or.inl rfl | exact Or.inr (Or.inl rfl) | exact Or.inr (Or.inr rfl)) (by decide) (by decide)) (@pv _ 1 _ _ (by rfl) (by first | exact Or.inl rfl | exact Or.inr (Or.inl rfl) | exact Or.inr (Or.inr rfl)) (by decide) (by decide)) (@nomark _ _ (by decide) (by decide)))) (by intro _; rfl)) (@pa_nil _) (by rfl)) (by decide) (by decide) (by rfl) (by rfl))))), ?_⟩
  refine ⟨_, rfl, _, _, _, isTupB t, rfl, h.ty, kit_tup t, _, rfl, ?_⟩
  cases t with
  | tup ts =>
    obtain ⟨a, xs, rfl, ha, hl, h8⟩ := zip_of_get h
    have hsn := zip_snd ts xs hl
    have hp : ∀ p ∈ ts.zip xs, IsTh H p.1 p.2 := fun p hp => zip_mem h ha hp
    have hzl : (ts.zip xs).length ≤ 1000 := by rw [List.length_zip]; walk_at "om"
    refine iteF ⟨_, rfl, a, rfl, ⟨_, SqT.of ha⟩, fun D hD => ?_⟩
    refine map_tup (ts.zip xs) Prod.snd (fun p => .bl (gradeB m p.1)) (by rw [hsn]; exact ha) hzl hD (fun z hz H' Q' s1 q' => ?_) (fun H' s1 hD' => ?_)
    · exact ⟨_, rfl, _, rfl, z.1, z.2, m, rfl, (hp z hz).same s1, q' _ Same.rfl'⟩
    have ez : (ts.zip xs).map (fun p => V.bl (gradeB m p.1)) = (ts.map (gradeB m)).map V.bl := by
      rw [List.map_map]
      exact zip_fst (fun t => V.bl (gradeB m t)) ts xs hl
    rw [ez] at hD'
    refine ⟨D, _, rfl, SqL.of hD', _, rfl, ?_⟩
    rw [all_map_id]
    have ha' := s1 _ _ ha
    cases hb : ts.all (gradeB m) with
    | false =>
      have := q _ s1
      rw [show risingB m (.tup ts) = (ts.all (gradeB m) && risB (ts.map intTh)) from rfl] at this
      rw [hb, Bool.false_and] at this
      exact iteT this
    | true =>
      have ex := all_ints hl hp hb
      generalize hws : ts.map intTh = ws at ex
      have hwl : ws.length ≤ 1000 := by rw [← hws, List.length_map]; walk_at "om"
      subst ex
      have q2 : ∀ H', Same H H' → Q (.bl (risB ws)) H' := fun H' s => by
        have := q H' s
        rw [show risingB m (.tup ts) = (ts.all (gradeB m) && risB (ts.map intTh)) from rfl] at this
        rw [hb, Bool.true_and, hws] at this
        exact this
      refine iteF ?_
      have key : ∀ (b : Addr) (H2 : Hp), Same H' H2 → H2 b = some (.tup ((ws.drop 1).map V.int)) → ∀ D2, H2 D2 = none → CompGo (Itz K a b) (gTup K 2 (gCons (gName 0) (gCons (gName 1) gNil))) tYes (tOp (rI0 fun i j => V.bl (decide (i < j))) (tVar 0) (tVar 1)) [none, none] H2 (fun v H3 => ∃ p bs, [v] = [V.ref p] ∧ SqL K H3 p (List.map V.bl bs) ∧ Q (V.bl (bs.all id)) H3) D2 := fun b H2 s2 hb2 D2 hD2 => by
        have ha2 := s2 _ _ ha'
        refine comp_zip (xs := ws.map V.int) (ys := (ws.drop 1).map V.int) (n := (ws.drop 1).length) (fun i zs H3 => Same H2 H3 ∧ zs = (((ws.zip (ws.drop 1)).take i).map fun p => decide (p.1 < p.2)).map V.bl) (by simp) ⟨same_new hD2 _, rfl⟩ (fun i zs H3 hh _ => ⟨SqT.of (hh.1 _ _ ha2), SqT.of (hh.1 _ _ hb2)⟩) ?_ ?_
        · rintro i zs H3 T x y hx hy hi ⟨s3, rfl⟩ hD3 hT
          rw [List.getElem?_map] at hx hy
          obtain ⟨u, hu, rfl⟩ := Option.map_eq_some_iff.mp hx
          obtain ⟨w', hw', rfl⟩ := Option.map_eq_some_iff.mp hy
          have hz : (ws.zip (ws.drop 1))[i]? = some (u, w') := List.getElem?_zip_eq_some.mpr ⟨hu, hw'⟩
          have hDT : D2 ≠ T := fun z => by
            rw [← z, hD3] at hT
            cases hT
          refine yes ⟨_, rfl, _, rfl, _, _, rfl, rfl, ?_⟩
          refine cyes hi rfl (by rw [upd_ne hDT]; exact hD3) (by rw [List.length_map, List.length_map, List.length_take, List.length_zip]; exact small1000 (by walk_at "om")) ⟨fun c o qc => ?_, ?_⟩
          · rw [upd_ne (ne_of_none qc hD2), upd_ne (ne_of_none (s3 _ _ qc) hT)]
            exact s3 _ _ qc
          · rw [take_snoc hz, List.map_append, List.map_append]
            rfl
        · rintro zs H3 ⟨s3, rfl⟩ hD3
          refine ⟨D2, _, rfl, SqL.of hD3, ?_⟩
          rw [List.take_of_length_le (by rw [List.length_zip, List.length_drop]; walk_at "om"), ris_zip]
          exact q2 _ (fun c o qc => s3 _ _ (s2 _ _ (s1 _ _ qc)))
      refine ⟨_, rfl, _, rfl, _, rfl, ?_⟩
      cases ws with
      | nil =>
        refine .inr ⟨a, [], rfl, SqT.of ha', ⟨rfl, rfl⟩, ?_⟩
        exact ⟨a, a, _, _, rfl, SqT.of ha', SqT.of ha', fun D2 hD2 => key a H' Same.rfl' ha' D2 hD2⟩
      | cons w0 ws =>
        refine .inl ⟨a, _, rfl, SqT.of ha', ?_, fun b hb' => ?_⟩
        · intro z
          have h1 := HT.sIx_nat ((w0 :: ws).map V.int).length 0 1
          have z1 := z.1
          rw [show ((1 : Nat) : Int) = 1 from rfl] at h1
          rw [h1, List.length_map, List.length_cons] at z1
          walk_at "om"
        · have ec : cutV ((w0 :: ws).map V.int) (some 1) none = ((w0 :: ws).drop 1).map V.int := by
            have h1 := HT.sIx_nat ((w0 :: ws).map V.int).length 0 1
            rw [show ((1 : Nat) : Int) = 1 from rfl] at h1
            unfold cutV
            rw [h1, HT.sIx_none, List.length_map, List.length_cons, show min 1 (ws.length + 1) = 1 by walk_at "om"]
            show (ws.map V.int).take _ = _
            rw [List.take_of_length_le (by rw [List.length_map]; walk_at "om")]
            rfl
          rw [ec]
          refine ⟨a, b, _, _, rfl, SqT.of (by rw [upd_ne (ne_of_none ha' hb')]; exact ha'), SqT.of upd_same, fun D2 hD2 => key b _ (same_new hb' _) upd_same D2 hD2⟩
  | _ => exact iteT (iteT (q _ Same.rfl'))

noncomputable abbrev s_are_cells : Stmt := top 28
theorem sc_are_cells : FnScope ["thing", "many", "length"] ["thing", "many", "length"] (defScope s_are_cells) := ⟨rfl, rfl, rfl, by decide +kernel, rfl, by decide +kernel, by decide +kernel⟩
theorem ok_are_cells {P : Program} {w : World} {K : PySem.W.Frag} {mg : Str → Option Value} {base : Heap} {f : Addr} {fd : FuncData} (F : Fun K "are_cells" "are_cells" s_are_cells f fd) (gb : Gb mg) {c : Nat → Addr} (cl : Cl K mg c) (d_is_grade : Def P w K mg base 2 "is_grade" ["thing", "many"] spGradeT) : FnOk P w K mg base CX0 3 f fd ["thing", "many", "length"] spCellsT := by
  refine F.ok sc_are_cells (fun vs H Q E h => ?_) (fun cdv A outer s H vs Q E hr h => ?_)
  · obtain ⟨t, v, m, n, rfl, _⟩ := h
    rfl
  obtain ⟨t, v, m, n, rfl, h, q⟩ := h
  have nd0 : (["cell", "many"] : List Str).Nodup := by decide +kernel
  refine ⟨_, (@pss_cons _ _ _ _ _ (@ps_if _ _ _ _ _ _ _ _ (@PW.pt _ _ _ (@pw_or _ _ _ _ _ _ _ (@pt_not _ _ _ _ (@pt_val _ _ _ (@pe_callB _ _ _ _ _ _ _ _ _ (@kcall_isiT _ K (by rfl)) rfl gb.isinstance bt_isinstance (@pa_cons _ _ _ _ _ (@pv _ 0 _ _ (by rfl) (by first | exact Or.inl rfl | exact Or.inr (Or.inl rfl) | exact Or.inr (Or.inr rfl)) (by decide) (by decide)) (@pa_cons _ _ _ _ _ (@pe_bltn _ _ (.ty "tuple") _ _ rfl gb.tuple bt_tuple rfl (by decide) (by decide)) (@pa_nil _) (by rfl)) (by rfl)) (by decide) (by decide) (by rfl) (by rfl)) (by intro _; rfl))) (@pw_or1 _ _ _ _ (@pt_cmpR _ _ _ _ _ _ _ _ (@op_ne _) (@pe_callB _ _ _ _ _ _ _ _ _ (@kcall_len _ K (by rfl)) rfl gb.len bt_len (@pa_cons _ _ _ _ _ (@pv _ 0 _ _ (by rfl) (by first | exact Or.inl rfl | exact Or.inr (Or.inl rfl) | exact Or.inr (Or.inr rfl)) (by decide) (by decide)) (@pa_nil _) (by rfl)) (by decide) (by decide) (by rfl) (by rfl)) (@pv _ 2 _ _ (by rfl) (by first | exact Or.inl rfl | exact Or.inr (Or.inl rfl) | exact Or.inr (Or.inr rfl)) (by decide) (by decide)) (@nomark _ _ (by decide) (by decide)))))) (@pss_one _ _ _ (@ps_ret _ _ _ _ (@pe_bl _ _ _ _))) (@pss_nil _)) (@pss_one _ _ _ (@ps_ret _ _ _ _ (@pe_callB _ _ _ _ _ _ _ _ _ (@kcall_all _ K rfl (by rfl)) rfl gb.all bt_all (@pa_cons _ _ _ _ _ (@pe_comp _ ["cell", "many"] [none, some 1] _ _ _ _ _ _ _ _ _ _ (by exact (show CompOk ["thing", "many", "length"] (defScope s_are_cells) ["cell", "many"] [none, some 1] _ from ⟨rfl, by decide +kernel, by decide +kernel, by decide +kernel, by decide +kernel, rfl, by decide +kernel⟩)) rfl (@kpi_tup _ K _ _ _ (@pv _ 0 _ _ (by rfl) (by first | exact Or.inl rfl | exact Or.inr (Or.inl rfl) | exact Or.inr (Or.inr rfl)) (by decide) (by decide)) (by rfl)) (fun _ _ _ _ => (@pg_name _ _ 0 _ nd0 rfl (Or.inl rfl) (by first | exact .inl rfl | exact .inr rfl | assumption))) (fun _ _ _ _ => (@pf_nil _)) (fun _ _ _ _ => (@pe_or _ _ _ _ _ _ _ (@pe_cmpR _ _ _ _ _ _ _ _ (@op_isN _) (@pv _ 0 _ _ (by rfl) (by first | exact Or.inl rfl | exact Or.inr (Or.inl rfl) | exact Or.inr (Or.inr rfl)) (by decide) (by decide)) (@pe_non _ _ _) (@nomark _ _ (by decide) (by decide))) (@pe_one _ _ _ _ _ (@pe_def _ _ _ _ _ _ _ _ _ _ _ d_is_grade hr (by decide) rfl (@pa_cons _ _ _ _ _ (@pv _ 0 _ _ (by rfl) (by first | exact Or.inl rfl | exact Or.inr (Or.inl rfl) | exact Or.inr (Or.inr rfl)) (by decide) (by decide)) (@pa_cons _ _ _ _ _ (@pv _ 1 _ _ (by rfl) (by first | exact Or.inl rfl | exact Or.inr (Or.inl rfl) | exact Or.inr (Or.inr rfl)) (by decide) (by decide)) (@pa_nil _) (by rfl)) (by rfl)) (by decide) (by rfl) (by rfl))))) (by intro _; rfl)) (@pa_nil _) (by rfl)) (by decide) (by decide) (by rfl) (by rfl))))), ?_⟩
  refine ⟨_, rfl, _, _, _, isTupB t, rfl, h.ty, kit_tup t, _, rfl, ?_⟩
  cases t with
  | tup ts =>
    obtain ⟨a, xs, rfl, ha, hl, h8⟩ := zip_of_get h
    have hsn := zip_snd ts xs hl
    have hp : ∀ p ∈ ts.zip xs, IsTh H p.1 p.2 := fun p hp => zip_mem h ha hp
    have hzl : (ts.zip xs).length ≤ 1000 := by rw [List.length_zip]; walk_at "om"
    refine iteF ⟨_, rfl, _, ts.length, rfl, .inr ⟨_, SqT.of ha, hl⟩, _, rfl, rfl, _, rfl, ?_⟩
    by_cases hn : (ts.length : Int) = n
    · refine iteNS (c := V.int (ts.length : Int) = V.int n) (by rw [hn]) ?_
      have q2 : ∀ H', Same H H' → Q (.bl (ts.all (cellB m))) H' := fun H' s => by
        have := q H' s
        rw [show cellsB m n (.tup ts) = (decide ((ts.length : Int) = n) && ts.all (cellB m)) from rfl] at this
        rw [decide_eq_true hn, Bool.true_and] at this
        exact this
      refine ⟨_, rfl, a, rfl, ⟨_, SqT.of ha⟩, fun D hD => ?_⟩
      refine map_tup (ts.zip xs) Prod.snd (fun p => .bl (cellB m p.1)) (by rw [hsn]; exact ha) hzl hD (fun z hz H' Q' s1 q' => ?_) (fun H' s1 hD' => ?_)
      · have hz' := (hp z hz).same s1
        obtain ⟨zt, zv⟩ := z
        refine ⟨_, rfl, rfl, _, rfl, ?_⟩
        have q3 := q' _ Same.rfl'
        cases zt with
        | non =>
          cases hz'
          exact ite2 (fun _ => q3) (fun c => absurd (decide_eq_true rfl) c)
        | _ =>
          refine ite2 (fun c => absurd (of_decide_eq_true c) (by cases hz' <;> (intro z; cases z))) (fun _ => ?_)
          exact ⟨_, rfl, _, rfl, _, _, m, rfl, hz', q3⟩
      · have ez : (ts.zip xs).map (fun p => V.bl (cellB m p.1)) = (ts.map (cellB m)).map V.bl := by
          rw [List.map_map]
          exact zip_fst (fun t => V.bl (cellB m t)) ts xs hl
        rw [ez] at hD'
        refine ⟨D, _, rfl, SqL.of hD', ?_⟩
        rw [all_map_id]
        exact q2 _ s1
    · refine ite2 (fun _ => ?_) (fun c => absurd (by simpa using c) (by simpa using hn))
      have := q _ Same.rfl'
      rw [show cellsB m n (.tup ts) = (decide ((ts.length : Int) = n) && ts.all (cellB m)) from rfl] at this
      rw [decide_eq_false hn, Bool.false_and] at this
      exact this
  | _ => exact iteT (iteT (q _ Same.rfl'))

noncomputable abbrev s_is_connective : Stmt := top 27
theorem sc_is_connective : FnScope ["thing", "many", "places"] ["thing", "many"] (defScope s_is_connective) := ⟨rfl, rfl, rfl, by decide +kernel, rfl, by decide +kernel, by decide +kernel⟩
theorem ok_is_connective {P : Program} {w : World} {K : PySem.W.Frag} {mg : Str → Option Value} {base : Heap} {f : Addr} {fd : FuncData} (F : Fun K "is_connective" "is_connective" s_is_connective f fd) (gb : Gb mg) {c : Nat → Addr} (cl : Cl K mg c) (d_is_name : Def P w K mg base 2 "is_name" ["thing"] spNameT) (d_is_whole : Def P w K mg base 1 "is_whole" ["thing"] spWholeT) (d_are_cells : Def P w K mg base 3 "are_cells" ["thing", "many", "length"] spCellsT) (d_power : Def P w K mg base 1 "power" ["base", "exponent"] spPower) : FnOk P w K mg base CX0 4 f fd ["thing", "many"] spConnT := by
  refine F.ok sc_is_connective (fun vs H Q E h => ?_) (fun cdv A outer s H vs Q E hr h => ?_)
  · obtain ⟨t, v, m, rfl, _⟩ := h
    rfl
  obtain ⟨t, v, m, rfl, h, m1, m9, q⟩ := h
  refine ⟨_, (@pss_cons _ _ _ _ _ (@ps_if _ _ _ _ _ _ _ _ (@PW.pt _ _ _ (@pw_or _ _ _ _ _ _ _ (@pt_not _ _ _ _ (@pt_val _ _ _ (@pe_callB _ _ _ _ _ _ _ _ _ (@kcall_isiT _ K (by rfl)) rfl gb.isinstance bt_isinstance (@pa_cons _ _ _ _ _ (@pv _ 0 _ _ (by rfl) (by first | exact Or.inl rfl | exact Or.inr (Or.inl rfl) | exact Or.inr (Or.inr rfl)) (by decide) (by decide)) (@pa_cons _ _ _ _ _ (@pe_bltn _ _ (.ty "tuple") _ _ rfl gb.tuple bt_tuple rfl (by decide) (by decide)) (@pa_nil _) (by rfl)) (by rfl)) (by decide) (by decide) (by rfl) (by rfl)) (by intro _; rfl))) (@pw_or1 _ _ _ _ (@pt_cmpR _ _ _ _ _ _ _ _ (@op_ne _) (@pe_callB _ _ _ _ _ _ _ _ _ (@kcall_len _ K (by rfl)) rfl gb.len bt_len (@pa_cons _ _ _ _ _ (@pv _ 0 _ _ (by rfl) (by first | exact Or.inl rfl | exact Or.inr (Or.inl rfl) | exact Or.inr (Or.inr rfl)) (by decide) (by decide)) (@pa_nil _) (by rfl)) (by decide) (by decide) (by rfl) (by rfl)) (@pe_int _ _ _ _) (@nomark _ _ (by decide) (by decide)))))) (@pss_one _ _ _ (@ps_ret _ _ _ _ (@pe_bl _ _ _ _))) (@pss_nil _)) (@pss_cons _ _ _ _ _ (@ps_set _ _ 2 _ _ _ _ sc_is_connective.nd rfl (Or.inl rfl) (@pe_ix _ _ _ _ _ _ _ (@kix_seq _ K (by rfl)) (@pv _ 0 _ _ (by rfl) (by first | exact Or.inl rfl | exact Or.inr (Or.inl rfl) | exact Or.inr (Or.inr rfl)) (by decide) (by decide)) (@pe_int _ _ _ _) (fun _ _ => rfl)) (by rfl) (by first | exact .inl rfl | exact .inr rfl | assumption)) (@pss_cons _ _ _ _ _ (@ps_if _ _ _ _ _ _ _ _ (@PW.pt _ _ _ (@pw_or _ _ _ _ _ _ _ (@pt_not _ _ _ _ (@pt_val _ _ _ (@pe_def _ _ _ _ _ _ _ _ _ _ _ d_is_name hr (by decide) rfl (@pa_cons _ _ _ _ _ (@pe_ix _ _ _ _ _ _ _ (@kix_seq _ K (by rfl)) (@pv _ 0 _ _ (by rfl) (by first | exact Or.inl rfl | exact Or.inr (Or.inl rfl) | exact Or.inr (Or.inr rfl)) (by decide) (by decide)) (@pe_int _ _ _ _) (fun _ _ => rfl)) (@pa_nil _) (by rfl)) (by decide) (by rfl) (by rfl)) (by intro _; rfl))) (@pw_or _ _ _ _ _ _ _ (@pt_not _ _ _ _ (@pt_val _ _ _ (@pe_def _ _ _ _ _ _ _ _ _ _ _ d_is_whole hr (by decide) rfl (@pa_cons _ _ _ _ _ (@pv _ 2 _ _ (by rfl) (by first | exact Or.inl rfl | exact Or.inr (Or.inl rfl) | exact Or.inr (Or.inr rfl)) (by decide) (by decide)) (@pa_nil _) (by rfl)) (by decide) (by rfl) (by rfl)) (by intro _; rfl))) (@pw_or1 _ _ _ _ (@pt_not _ _ _ _ (@pt_chain _ _ _ _ _ _ _ _ _ _ _ _ (@op_le _) (@op_le _) (@pe_int _ _ _ _) (@pv _ 2 _ _ (by rfl) (by first | exact Or.inl rfl | exact Or.inr (Or.inl rfl) | exact Or.inr (Or.inr rfl)) (by decide) (by decide)) (@pe_globR _ _ _ _ rfl gb.MOST_PLACES (by decide)) (by with_unfolding_all rfl))))))) (@pss_one _ _ _ (@ps_ret _ _ _ _ (@pe_bl _ _ _ _))) (@pss_nil _)) (@pss_one _ _ _ (@ps_ret _ _ _ _ (@pe_def _ _ _ _ _ _ _ _ _ _ _ d_are_cells hr (by decide) rfl (@pa_cons _ _ _ _ _ (@pe_ix _ _ _ _ _ _ _ (@kix_seq _ K (by rfl)) (@pv _ 0 _ _ (by rfl) (by first | exact Or.inl rfl | exact Or.inr (Or.inl rfl) | exact Or.inr (Or.inr rfl)) (by decide) (by decide)) (@pe_int _ _ _ _) (fun _ _ => rfl)) (@pa_cons _ _ _ _ _ (@pv _ 1 _ _ (by rfl) (by first | exact Or.inl rfl | exact Or.inr (Or.inl rfl) | exact Or.inr (Or.inr rfl)) (by decide) (by decide)) (@pa_cons _ _ _ _ _ (@pe_def _ _ _ _ _ _ _ _ _ _ _ d_power hr (by decide) rfl (@pa_cons _ _ _ _ _ (@pv _ 1 _ _ (by rfl) (by first | exact Or.inl rfl | exact Or.inr (Or.inl rfl) | exact Or.inr (Or.inr rfl)) (by decide) (by decide)) (@pa_cons _ _ _ _ _ (@pv _ 2 _ _ (by rfl) (by first | exact Or.inl rfl | exact Or.inr (Or.inl rfl) | exact Or.inr (Or.inr rfl)) (by decide) (by decide)) (@pa_nil _) (by rfl)) (by rfl)) (by decide) (by rfl) (by rfl)) (@pa_nil _) (by rfl)) (by rfl)) (by rfl)) (by decide) (by rfl) (by rfl))))))), ?_⟩
  refine ⟨_, rfl, _, _, _, isTupB t, rfl, h.ty, kit_tup t, _, rfl, ?_⟩
  cases t with
  | tup ts =>
    obtain ⟨a, xs, rfl, ha, hl, h8⟩ := zip_of_get h
    refine iteF ⟨_, rfl, _, ts.length, rfl, .inr ⟨_, SqT.of ha, hl⟩, rfl, _, rfl, ?_⟩
    by_cases h3 : ts.length = 3
    · refine iteNS (c := V.int (ts.length : Int) = V.int 3) (by rw [h3]; rfl) ?_
      obtain ⟨t0, t1, t2, rfl⟩ := three h3
      obtain ⟨x0, x1, x2, rfl⟩ := three (hl.symm.trans h3)
      have i0 := zip_mem h ha (p := (t0, x0)) (by simp)
      have i1 := zip_mem h ha (p := (t1, x1)) (by simp)
      have i2 := zip_mem h ha (p := (t2, x2)) (by simp)
      refine ⟨_, rfl, .inr (.inl ⟨a, _, 1, _, rfl, rfl, SqT.of ha, rfl, ?_⟩)⟩
      refine ⟨_, rfl, .inr (.inl ⟨a, _, 0, _, rfl, rfl, SqT.of ha, rfl, t0, x0, rfl, i0, fun H1 s1 => ⟨_, rfl, ?_⟩⟩)⟩
      have q1 : ∀ H', Same H H' → Q (.bl (nameB t0 && (wholeB t1 && (decide (0 ≤ intTh t1) && decide (intTh t1 ≤ 2)) && cellsB m (m ^ (intTh t1).toNat) t2))) H' := q
      cases hb0 : nameB t0 with
      | false =>
        rw [hb0] at q1
        exact iteT (iteT (q1 _ s1))
      | true =>
        rw [hb0] at q1
        refine iteF ⟨_, rfl, t1, x1, rfl, i1.same s1, _, rfl, ?_⟩
        cases t1 with
        | int p =>
          cases i1
          refine iteF ⟨_, rfl, _, _, rfl, rfl, _, rfl, ?_⟩
          have q2 : ∀ H', Same H H' → Q (.bl ((decide (0 ≤ p) && decide (p ≤ 2)) && cellsB m (m ^ p.toNat) t2)) H' := q1
          by_cases p0 : 0 ≤ p
          · rw [if_pos (decide_eq_true p0)]
            refine ⟨_, _, rfl, rfl, _, rfl, ?_⟩
            by_cases p2 : p ≤ 2
            · rw [decide_eq_true p2]
              have ha1 := s1 _ _ ha
              refine iteF ⟨_, rfl, .inr (.inl ⟨a, _, 2, _, rfl, rfl, SqT.of ha1, rfl, _, rfl, _, rfl, _, rfl, m, p.toNat, ?_, m1, m9, by walk_at "om", t2, x2, m, _, rfl, i2.same s1, fun H2 s2 => ?_⟩)⟩
              · rw [show ((p.toNat : Nat) : Int) = p by walk_at "om"]
                rfl
              · have := q2 _ (fun b o qb => s2 _ _ (s1 _ _ qb))
                rw [decide_eq_true p0, decide_eq_true p2] at this
                exact this
            · rw [decide_eq_false p2]
              have := q2 _ s1
              rw [decide_eq_false p2, Bool.and_false, Bool.false_and] at this
              exact iteT this
          · rw [if_neg (by simpa using p0)]
            have := q2 _ s1
            rw [decide_eq_false p0, Bool.false_and, Bool.false_and] at this
            exact ⟨false, rfl, iteT this⟩
        | _ => exact iteT (iteT (q1 _ s1))
    · refine ite2 (fun _ => ?_) (fun c => absurd (by simpa using c) (fun (z : (ts.length : Int) = 3) => h3 (by walk_at "om")))
      have := q _ Same.rfl'
      rw [show connB m (.tup ts) = conn3 m ts from rfl] at this
      have e : conn3 m ts = false := conn_false (m := m) h3
      rw [e] at this
      exact this
  | _ => exact iteT (iteT (q _ Same.rfl'))

noncomputable abbrev s_are_connectives : Stmt := top 26
theorem sc_are_connectives : FnScope ["thing", "many"] ["thing", "many"] (defScope s_are_connectives) := ⟨rfl, rfl, rfl, by decide +kernel, rfl, by decide +kernel, by decide +kernel⟩
theorem ok_are_connectives {P : Program} {w : World} {K : PySem.W.Frag} {mg : Str → Option Value} {base : Heap} {f : Addr} {fd : FuncData} (F : Fun K "are_connectives" "are_connectives" s_are_connectives f fd) (gb : Gb mg) {c : Nat → Addr} (cl : Cl K mg c) (d_is_connective : Def P w K mg base 4 "is_connective" ["thing", "many"] spConnT) : FnOk P w K mg base CX0 5 f fd ["thing", "many"] spConnsT := by
  refine F.ok sc_are_connectives (fun vs H Q E h => ?_) (fun cdv A outer s H vs Q E hr h => ?_)
  · obtain ⟨t, v, m, rfl, _⟩ := h
    rfl
  obtain ⟨t, v, m, rfl, h, m1, m9, q⟩ := h
  have nd0 : (["part", "many"] : List Str).Nodup := by decide +kernel
  have nd1 : (["part"] : List Str).Nodup := by decide +kernel
  refine ⟨_, (@pss_cons _ _ _ _ _ (@ps_if _ _ _ _ _ _ _ _ (@PW.pt _ _ _ (@pw_or _ _ _ _ _ _ _ (@pt_not _ _ _ _ (@pt_val _ _ _ (@pe_callB _ _ _ _ _ _ _ _ _ (@kcall_isiT _ K (by rfl)) rfl gb.isinstance bt_isinstance (@pa_cons _ _ _ _ _ (@pv _ 0 _ _ (by rfl) (by first | exact Or.inl rfl | exact Or.inr (Or.inl rfl) | exact Or.inr (Or.inr rfl)) (by decide) (by decide)) (@pa_cons _ _ _ _ _ (@pe_bltn _ _ (.ty "tuple") _ _ rfl gb.tuple bt_tuple rfl (by decide) (by decide)) (@pa_nil _) (by rfl)) (by rfl)) (by decide) (by decide) (by rfl) (by rfl)) (by intro _; rfl))) (@pw_or1 _ _ _ _ (@pt_cmpR _ _ _ _ _ _ _ _ (@op_gt _) (@pe_callB _ _ _ _ _ _ _ _ _ (@kcall_len _ K (by rfl)) rfl gb.len bt_len (@pa_cons _ _ _ _ _ (@pv _ 0 _ _ (by rfl) (by first | exact Or.inl rfl | exact Or.inr (Or.inl rfl) | exact Or.inr (Or.inr rfl)) (by decide) (by decide)) (@pa_nil _) (by rfl)) (by decide) (by decide) (by rfl) (by rfl)) (@pe_globR _ _ _ _ rfl gb.MOST_CONNECTIVES (by decide)) (@nomark _ _ (by decide) (by decide)))))) (@pss_one _ _ _ (@ps_ret _ _ _ _ (@pe_bl _ _ _ _))) (@pss_nil _)) (@pss_cons _ _ _ _ _ (@ps_if _ _ _ _ _ _ _ _ (@pt_not _ _ _ _ (@pt_val _ _ _ (@pe_callB _ _ _ _ _ _ _ _ _ (@kcall_all _ K rfl (by rfl)) rfl gb.all bt_all (@pa_cons _ _ _ _ _ (@pe_comp _ ["part", "many"] [none, some 1] _ _ _ _ _ _ _ _ _ _ (by exact (show CompOk ["thing", "many"] (defScope s_are_connectives) ["part", "many"] [none, some 1] _ from ⟨rfl, by decide +kernel, by decide +kernel, by decide +kernel, by decide +kernel, rfl, by decide +kernel⟩)) rfl (@kpi_tup _ K _ _ _ (@pv _ 0 _ _ (by rfl) (by first | exact Or.inl rfl | exact Or.inr (Or.inl rfl) | exact Or.inr (Or.inr rfl)) (by decide) (by decide)) (by rfl)) (fun _ _ _ _ => (@pg_name _ _ 0 _ nd0 rfl (Or.inl rfl) (by first | exact .inl rfl | exact .inr rfl | assumption))) (fun _ _ _ _ => (@pf_nil _)) (fun _ _ _ _ => (@pe_def _ _ _ _ _ _ _ _ _ _ _ d_is_connective hr (by decide) rfl (@pa_cons _ _ _ _ _ (@pv _ 0 _ _ (by rfl) (by first | exact Or.inl rfl | exact Or.inr (Or.inl rfl) | exact Or.inr (Or.inr rfl)) (by decide) (by decide)) (@pa_cons _ _ _ _ _ (@pv _ 1 _ _ (by rfl) (by first | exact Or.inl rfl | exact Or.inr (Or.inl rfl) | exact Or.inr (Or.inr rfl)) (by decide) (by decide)) (@pa_nil _) (by rfl)) (by rfl)) (by decide) (by rfl) (by rfl))) (by intro _; rfl)) (@pa_nil _) (by rfl)) (by decide) (by decide) (by rfl) (by rfl)) (by intro _; rfl))) (@pss_one _ _ _ (@ps_ret _ _ _ _ (@pe_bl _ _ _ _))) (@pss_nil _)) (@pss_one _ _ _ (@ps_ret _ _ _ _ (@pe_cmpR _ _ _ _ _ _ _ _ (@op_eq _) (@pe_callB _ _ _ _ _ _ _ _ _ (@call_lenS _) rfl gb.len bt_len (@pa_cons _ _ _ _ _ (@pe_callTy _ _ _ _ _ _ _ _ _ (@kcall_setS _ K rfl (by rfl)) rfl gb.set bt_set (@pa_cons _ _ _ _ _ (@pe_comp _ ["part"] [none] _ _ _ _ _ _ _ _ _ _ (by exact (show CompOk ["thing", "many"] (defScope s_are_connectives) ["part"] [none] _ from ⟨rfl, by decide +kernel, by decide +kernel, by decide +kernel, by decide +kernel, rfl, by decide +kernel⟩)) rfl (@kpi_tup _ K _ _ _ (@pv _ 0 _ _ (by rfl) (by first | exact Or.inl rfl | exact Or.inr (Or.inl rfl) | exact Or.inr (Or.inr rfl)) (by decide) (by decide)) (by rfl)) (fun _ _ _ _ => (@pg_name _ _ 0 _ nd1 rfl (Or.inl rfl) (by first | exact .inl rfl | exact .inr rfl | assumption))) (fun _ _ _ _ => (@pf_nil _)) (fun _ _ _ _ => (@pe_ix _ _ _ _ _ _ _ (@kix_seq _ K (by rfl)) (@pv _ 0 _ _ (by rfl) (by first | exact Or.inl rfl | exact Or.inr (Or.inl rfl) | exact Or.inr (Or.inr rfl)) (by decide) (by decide)) (@pe_int _ _ _ _) (fun _ _ => rfl))) (by intro _; rfl)) (@pa_nil _) (by rfl)) (by decide) (by decide) (by rfl) (by rfl)) (@pa_nil _) (by rfl)) (by decide) (by decide) (by rfl) (by rfl)) (@pe_callB _ _ _ _ _ _ _ _ _ (@kcall_len _ K (by rfl)) rfl gb.len bt_len (@pa_cons _ _ _ _ _ (@pv _ 0 _ _ (by rfl) (by first | exact Or.inl rfl | exact Or.inr (Or.inl rfl) | exact Or.inr (Or.inr rfl)) (by decide) (by decide)) (@pa_nil _) (by rfl)) (by decide) (by decide) (by rfl) (by rfl)) (@nomark _ _ (by decide) (by decide))))))), ?_⟩
  refine ⟨_, rfl, _, _, _, isTupB t, rfl, h.ty, kit_tup t, _, rfl, ?_⟩
  cases t with
  | tup ts =>
    obtain ⟨a, xs, rfl, ha, hl, h8⟩ := zip_of_get h
    have hsn := zip_snd ts xs hl
    have hp : ∀ p ∈ ts.zip xs, IsTh H p.1 p.2 := fun p hp => zip_mem h ha hp
    have hzl : (ts.zip xs).length ≤ 1000 := by rw [List.length_zip]; walk_at "om"
    have q0 : ∀ H', Same H H' → Q (.bl (decide (ts.length ≤ 8) && ts.all (connB m) && decide ((ts.map fun t => strTh (headTh t)).Nodup))) H' := q
    refine iteF ⟨_, rfl, _, ts.length, rfl, .inr ⟨_, SqT.of ha, hl⟩, _, _, rfl, rfl, _, rfl, ?_⟩
    by_cases hn : ts.length ≤ 8
    · refine ite2 (fun c => absurd (of_decide_eq_true c) (by walk_at "om")) (fun _ => ?_)
      refine ⟨_, rfl, a, rfl, ⟨_, SqT.of ha⟩, fun D hD => ?_⟩
      refine map_tup (ts.zip xs) Prod.snd (fun p => .bl (connB m p.1)) (by rw [hsn]; exact ha) hzl hD (fun z hz H' Q' s1 q' => ?_) (fun H' s1 hD' => ?_)
      · exact ⟨_, rfl, _, rfl, z.1, z.2, m, rfl, (hp z hz).same s1, m1, m9, q'⟩
      have ez : (ts.zip xs).map (fun p => V.bl (connB m p.1)) = (ts.map (connB m)).map V.bl := by
        rw [List.map_map]
        exact zip_fst (fun t => V.bl (connB m t)) ts xs hl
      rw [ez] at hD'
      refine ⟨D, _, rfl, SqL.of hD', _, rfl, ?_⟩
      rw [all_map_id]
      rw [decide_eq_true hn, Bool.true_and] at q0
      cases hb : ts.all (connB m) with
      | false =>
        have := q0 _ s1
        rw [hb, Bool.false_and] at this
        exact iteT this
      | true =>
        rw [hb, Bool.true_and] at q0
        have ha' := s1 _ _ ha
        refine iteF ⟨_, rfl, a, rfl, ⟨_, SqT.of ha'⟩, fun D2 hD2 => ?_⟩
        refine map_tup (ts.zip xs) Prod.snd (fun p => .str (strTh (headTh p.1))) (by rw [hsn]; exact ha') hzl hD2 (fun z hz H2 Q' s2 q' => ?_) (fun H2 s2 hD2' => ?_)
        · have hz1 : z.1 ∈ ts := (List.of_mem_zip hz).1
          obtain ⟨az, xz, rest, e1, e2, e3⟩ := conn_heads (hp z hz) (List.all_eq_true.mp hb _ hz1)
          obtain ⟨zt, zv⟩ := z
          subst e1
          refine ⟨_, rfl, .inr (.inl ⟨az, _, 0, _, rfl, rfl, SqT.of (s2 _ _ (s1 _ _ e2)), atI_nat (j := 0) rfl, ?_⟩)⟩
          rw [e3]
          exact q' _ Same.rfl'
        · have ez2 : (ts.zip xs).map (fun p => V.str (strTh (headTh p.1))) = (ts.map fun t => strTh (headTh t)).map V.str := by
            rw [List.map_map]
            exact zip_fst (fun t => V.str (strTh (headTh t))) ts xs hl
          rw [ez2] at hD2'
          refine ⟨D2, _, rfl, SqL.of hD2', by rw [List.length_map]; walk_at "om", fun S hS => ?_⟩
          refine ⟨S, _, rfl, upd_same, ?_⟩
          refine ⟨_, rfl, _, ts.length, rfl, .inr ⟨_, SqT.of (show _ = some (HO.tup xs) by rw [upd_ne (ne_of_none (s2 _ _ ha') hS)]; exact s2 _ _ ha'), hl⟩, rfl, ?_⟩
          have ed : decide (V.int ((dedK (ts.map fun t => strTh (headTh t))).length : Nat) = V.int (ts.length : Nat)) = decide ((ts.map fun t => strTh (headTh t)).Nodup) := by
            rw [Bool.eq_iff_iff, decide_eq_true_iff, decide_eq_true_iff, ← dedK_iff, List.length_map]
            constructor
            · intro z
              have := V.int.inj z
              walk_at "om"
            · intro z
              rw [z]
          rw [ed]
          refine q0 _ fun b o qb => ?_
          have h3 := s2 _ _ (s1 _ _ qb)
          rw [upd_ne (ne_of_none h3 hS)]
          exact h3
    · refine ite2 (fun _ => ?_) (fun c => absurd (decide_eq_true (show (8 : Int) < ts.length by walk_at "om")) c)
      have := q0 _ Same.rfl'
      rw [decide_eq_false hn, Bool.false_and, Bool.false_and] at this
      exact this
  | _ => exact iteT (iteT (q _ Same.rfl'))

noncomputable abbrev s_is_half : Stmt := top 20
theorem sc_is_half : FnScope ["thing", "many"] ["thing"] (defScope s_is_half) := ⟨rfl, rfl, rfl, by decide +kernel, rfl, by decide +kernel, by decide +kernel⟩
theorem ok_is_half {P : Program} {w : World} {K : PySem.W.Frag} {mg : Str → Option Value} {base : Heap} {f : Addr} {fd : FuncData} (F : Fun K "is_half" "is_half" s_is_half f fd) (gb : Gb mg) {c : Nat → Addr} (cl : Cl K mg c) (d_is_whole : Def P w K mg base 1 "is_whole" ["thing"] spWholeT) (d_are_rising_grades : Def P w K mg base 3 "are_rising_grades" ["thing", "many"] spRisingT) (d_are_connectives : Def P w K mg base 5 "are_connectives" ["thing", "many"] spConnsT) : FnOk P w K mg base CX0 6 f fd ["thing"] spHalfT := by
  refine F.ok sc_is_half (fun vs H Q E h => ?_) (fun cdv A outer s H vs Q E hr h => ?_)
  · obtain ⟨t, v, rfl, _⟩ := h
    rfl
  obtain ⟨t, v, rfl, h, q⟩ := h
  refine ⟨_, (@pss_cons _ _ _ _ _ (@ps_if _ _ _ _ _ _ _ _ (@PW.pt _ _ _ (@pw_or _ _ _ _ _ _ _ (@pt_not _ _ _ _ (@pt_val _ _ _ (@pe_callB _ _ _ _ _ _ _ _ _ (@kcall_isiT _ K (by rfl)) rfl gb.isinstance bt_isinstance (@pa_cons _ _ _ _ _ (@pv _ 0 _ _ (by rfl) (by first | exact Or.inl rfl | exact Or.inr (Or.inl rfl) | exact Or.inr (Or.inr rfl)) (by decide) (by decide)) (@pa_cons _ _ _ _ _ (@pe_bltn _ _ (.ty "tuple") _ _ rfl gb.tuple bt_tuple rfl (by decide) (by decide)) (@pa_nil _) (by rfl)) (by rfl)) (by decide) (by decide) (by rfl) (by rfl)) (by intro _; rfl))) (@pw_or1 _ _ _ _ (@pt_cmpR _ _ _ _ _ _ _ _ (@op_ne _) (@pe_callB _ _ _ _ _ _ _ _ _ (@kcall_len _ K (by rfl)) rfl gb.len bt_len (@pa_cons _ _ _ _ _ (@pv _ 0 _ _ (by rfl) (by first | exact Or.inl rfl | exact Or.inr (Or.inl rfl) | exact Or.inr (Or.inr rfl)) (by decide) (by decide)) (@pa_nil _) (by rfl)) (by decide) (by decide) (by rfl) (by rfl)) (@pe_int _ _ _ _) (@nomark _ _ (by decide) (by decide)))))) (@pss_one _ _ _ (@ps_ret _ _ _ _ (@pe_bl _ _ _ _))) (@pss_nil _)) (@pss_cons _ _ _ _ _ (@ps_set _ _ 1 _ _ _ _ sc_is_half.nd rfl (Or.inl rfl) (@pe_ix _ _ _ _ _ _ _ (@kix_seq _ K (by rfl)) (@pv _ 0 _ _ (by rfl) (by first | exact Or.inl rfl | exact Or.inr (Or.inl rfl) | exact Or.inr (Or.inr rfl)) (by decide) (by decide)) (@pe_int _ _ _ _) (fun _ _ => rfl)) (by rfl) (by first | exact .inl rfl | exact .inr rfl | assumption)) (@pss_cons _ _ _ _ _ (@ps_if _ _ _ _ _ _ _ _ (@PW.pt _ _ _ (@pw_or _ _ _ _ _ _ _ (@pt_not _ _ _ _ (@pt_val _ _ _ (@pe_def _ _ _ _ _ _ _ _ _ _ _ d_is_whole hr (by decide) rfl (@pa_cons _ _ _ _ _ (@pv _ 1 _ _ (by rfl) (by first | exact Or.inl rfl | exact Or.inr (Or.inl rfl) | exact Or.inr (Or.inr rfl)) (by decide) (by decide)) (@pa_nil _) (by rfl)) (by decide) (by rfl) (by rfl)) (by intro _; rfl))) (@pw_or1 _ _ _ _ (@pt_not _ _ _ _ (@pt_chain _ _ _ _ _ _ _ _ _ _ _ _ (@op_le _) (@op_le _) (@pe_int _ _ _ _) (@pv _ 1 _ _ (by rfl) (by first | exact Or.inl rfl | exact Or.inr (Or.inl rfl) | exact Or.inr (Or.inr rfl)) (by decide) (by decide)) (@pe_globR _ _ _ _ rfl gb.MOST_GRADES (by decide)) (by with_unfolding_all rfl)))))) (@pss_one _ _ _ (@ps_ret _ _ _ _ (@pe_bl _ _ _ _))) (@pss_nil _)) (@pss_one _ _ _ (@ps_ret _ _ _ _ (@pe_and _ _ _ _ _ _ _ (@pe_def _ _ _ _ _ _ _ _ _ _ _ d_are_rising_grades hr (by decide) rfl (@pa_cons _ _ _ _ _ (@pe_ix _ _ _ _ _ _ _ (@kix_seq _ K (by rfl)) (@pv _ 0 _ _ (by rfl) (by first | exact Or.inl rfl | exact Or.inr (Or.inl rfl) | exact Or.inr (Or.inr rfl)) (by decide) (by decide)) (@pe_int _ _ _ _) (fun _ _ => rfl)) (@pa_cons _ _ _ _ _ (@pv _ 1 _ _ (by rfl) (by first | exact Or.inl rfl | exact Or.inr (Or.inl rfl) | exact Or.inr (Or.inr rfl)) (by decide) (by decide)) (@pa_nil _) (by rfl)) (by rfl)) (by decide) (by rfl) (by rfl)) (@pe_one _ _ _ _ _ (@pe_def _ _ _ _ _ _ _ _ _ _ _ d_are_connectives hr (by decide) rfl (@pa_cons _ _ _ _ _ (@pe_ix _ _ _ _ _ _ _ (@kix_seq _ K (by rfl)) (@pv _ 0 _ _ (by rfl) (by first | exact Or.inl rfl | exact Or.inr (Or.inl rfl) | exact Or.inr (Or.inr rfl)) (by decide) (by decide)) (@pe_int _ _ _ _) (fun _ _ => rfl)) (@pa_cons _ _ _ _ _ (@pv _ 1 _ _ (by rfl) (by first | exact Or.inl rfl | exact Or.inr (Or.inl rfl) | exact Or.inr (Or.inr rfl)) (by decide) (by decide)) (@pa_nil _) (by rfl)) (by rfl)) (by decide) (by rfl) (by rfl))))))))), ?_⟩
  refine ⟨_, rfl, _, _, _, isTupB t, rfl, h.ty, kit_tup t, _, rfl, ?_⟩
  cases t with
  | tup ts =>
    obtain ⟨a, xs, rfl, ha, hl, h8⟩ := zip_of_get h
    refine iteF ⟨_, rfl, _, ts.length, rfl, .inr ⟨_, SqT.of ha, hl⟩, rfl, _, rfl, ?_⟩
    by_cases h3 : ts.length = 3
    · refine iteNS (c := V.int (ts.length : Int) = V.int 3) (by rw [h3]; rfl) ?_
      obtain ⟨t0, t1, t2, rfl⟩ := three h3
      obtain ⟨x0, x1, x2, rfl⟩ := three (hl.symm.trans h3)
      have i0 := zip_mem h ha (p := (t0, x0)) (by simp)
      have i1 := zip_mem h ha (p := (t1, x1)) (by simp)
      have i2 := zip_mem h ha (p := (t2, x2)) (by simp)
      refine ⟨_, rfl, .inr (.inl ⟨a, _, 0, _, rfl, rfl, SqT.of ha, rfl, ?_⟩)⟩
      refine ⟨_, rfl, t0, x0, rfl, i0, _, rfl, ?_⟩
      cases t0 with
      | int m =>
        cases i0
        have q1 : ∀ H', Same H H' → Q (.bl ((decide (1 ≤ m) && decide (m ≤ 9)) && (risingB m t1 && connsB m t2))) H' := q
        refine iteF ⟨_, rfl, _, _, rfl, rfl, _, rfl, ?_⟩
        by_cases p0 : 1 ≤ m
        · rw [if_pos (decide_eq_true p0)]
          refine ⟨_, _, rfl, rfl, _, rfl, ?_⟩
          by_cases p2 : m ≤ 9
          · rw [decide_eq_true p2]
            rw [decide_eq_true p0, decide_eq_true p2] at q1
            have q2 : ∀ H', Same H H' → Q (.bl (risingB m t1 && connsB m t2)) H' := q1
            refine iteF ⟨_, rfl, .inr (.inl ⟨a, _, 1, _, rfl, rfl, SqT.of ha, rfl, _, rfl, t1, x1, m, rfl, i1, fun H1 s1 => ⟨_, rfl, ?_⟩⟩)⟩
            cases hb : risingB m t1 with
            | false =>
              rw [hb] at q2
              exact iteF (q2 _ s1)
            | true =>
              rw [hb] at q2
              exact iteT ⟨_, rfl, .inr (.inl ⟨a, _, 2, _, rfl, rfl, SqT.of (s1 _ _ ha), rfl, _, rfl, t2, x2, m, rfl, i2.same s1, p0, p2, fun H2 s2 => q2 _ fun b o qb => s2 _ _ (s1 _ _ qb)⟩)⟩
          · rw [decide_eq_false p2]
            have := q1 _ Same.rfl'
            rw [decide_eq_false p2, Bool.and_false, Bool.false_and] at this
            exact iteT this
        · rw [if_neg (by simpa using p0)]
          have := q1 _ Same.rfl'
          rw [decide_eq_false p0, Bool.false_and, Bool.false_and] at this
          exact ⟨false, rfl, iteT this⟩
      | _ => exact iteT (iteT (q _ Same.rfl'))
    · refine ite2 (fun _ => ?_) (fun c => absurd (by simpa using c) (fun (z : (ts.length : Int) = 3) => h3 (by walk_at "om")))
      have := q _ Same.rfl'
      have e : half3 ts = false := half_false h3
      rw [show halfB (.tup ts) = half3 ts from rfl] at this
      rw [e] at this
      exact this
  | _ => exact iteT (iteT (q _ Same.rfl'))

noncomputable abbrev s_is_table : Stmt := top 21
theorem sc_is_table : FnScope ["thing"] ["thing"] (defScope s_is_table) := ⟨rfl, rfl, rfl, by decide +kernel, rfl, by decide +kernel, by decide +kernel⟩
theorem ok_is_table {P : Program} {w : World} {K : PySem.W.Frag} {mg : Str → Option Value} {base : Heap} {f : Addr} {fd : FuncData} (F : Fun K "is_table" "is_table" s_is_table f fd) (gb : Gb mg) {c : Nat → Addr} (cl : Cl K mg c) (d_is_half : Def P w K mg base 6 "is_half" ["thing"] spHalfT) (d_count_nones : Def P w K mg base 1 "count_nones" ["H"] spNones) : FnOk P w K mg base CX0 7 f fd ["thing"] spTableT := by
  refine F.ok sc_is_table (fun vs H Q E h => ?_) (fun cdv A outer s H vs Q E hr h => ?_)
  · obtain ⟨t, v, rfl, _⟩ := h
    rfl
  obtain ⟨t, v, rfl, h, q⟩ := h
  refine ⟨_, (@pss_one _ _ _ (@ps_ret _ _ _ _ (@pe_and _ _ _ _ _ _ _ (@pe_def _ _ _ _ _ _ _ _ _ _ _ d_is_half hr (by decide) rfl (@pa_cons _ _ _ _ _ (@pv _ 0 _ _ (by rfl) (by first | exact Or.inl rfl | exact Or.inr (Or.inl rfl) | exact Or.inr (Or.inr rfl)) (by decide) (by decide)) (@pa_nil _) (by rfl)) (by decide) (by rfl) (by rfl)) (@pe_one _ _ _ _ _ (@pe_cmpR _ _ _ _ _ _ _ _ (@op_eq _) (@pe_def _ _ _ _ _ _ _ _ _ _ _ d_count_nones hr (by decide) rfl (@pa_cons _ _ _ _ _ (@pv _ 0 _ _ (by rfl) (by first | exact Or.inl rfl | exact Or.inr (Or.inl rfl) | exact Or.inr (Or.inr rfl)) (by decide) (by decide)) (@pa_nil _) (by rfl)) (by decide) (by rfl) (by rfl)) (@pe_int _ _ _ _) (@nomark _ _ (by decide) (by decide))))))), ?_⟩
  refine ⟨_, rfl, t, v, rfl, h, fun H1 s1 => ⟨_, rfl, ?_⟩⟩
  have q1 : ∀ H', Same H H' → Q (.bl (halfB t && decide (nonesTh t = 0))) H' := q
  cases hb : halfB t with
  | false =>
    rw [hb] at q1
    exact iteF (q1 _ s1)
  | true =>
    rw [hb] at q1
    obtain ⟨T, ih, g, hn⟩ := half_of h hb
    refine iteT ⟨_, rfl, v, T, rfl, ih.same s1, good_fits g, fun H2 s2 => ⟨rfl, ?_⟩⟩
    have e : decide (V.int (nones T : Nat) = V.int 0) = decide (nonesTh t = 0) := by
      rw [Bool.eq_iff_iff, decide_eq_true_iff, decide_eq_true_iff, hn]
      constructor
      · intro z
        have := V.int.inj z
        walk_at "om"
      · intro z
        rw [z]
        rfl
    rw [e]
    exact q1 _ fun b o qb => s2 _ _ (s1 _ _ qb)

noncomputable abbrev s_number_of : Stmt := top 35
theorem sc_number_of : FnScope ["word"] ["word"] (defScope s_number_of) := ⟨rfl, rfl, rfl, by decide +kernel, rfl, by decide +kernel, by decide +kernel⟩
theorem ok_number_of {P : Program} {w : World} {K : PySem.W.Frag} {mg : Str → Option Value} {base : Heap} {f : Addr} {fd : FuncData} (F : Fun K "number_of" "number_of" s_number_of f fd) (gb : Gb mg) {c : Nat → Addr} (cl : Cl K mg c) : FnOk P w K mg base CX0 1 f fd ["word"] spNumW := by
  refine F.ok sc_number_of (fun vs H Q E h => ?_) (fun cdv A outer s H vs Q E hr h => ?_)
  · obtain ⟨x, rfl, _⟩ := h
    rfl
  obtain ⟨x, rfl, hx, q⟩ := h
  refine ⟨_, (@pss_one _ _ _ (@ps_ret _ _ _ _ (@pe_ifExp _ _ _ _ _ _ _ _ (@pt_cmpR _ _ _ _ _ _ _ _ (@op_eq _) (@pe_callB _ _ _ _ _ _ _ _ _ (@kcall_len _ K (by rfl)) rfl gb.len bt_len (@pa_cons _ _ _ _ _ (@pv _ 0 _ _ (by rfl) (by first | exact Or.inl rfl | exact Or.inr (Or.inl rfl) | exact Or.inr (Or.inr rfl)) (by decide) (by decide)) (@pa_nil _) (by rfl)) (by decide) (by decide) (by rfl) (by rfl)) (@pe_int _ _ _ _) (@nomark _ _ (by decide) (by decide))) (@kpe_bm _ K _ _ _ _ _ _ _ _ _ _ _ PySem.F.plainAttrs_str PySem.F.slot_str_find PySem.F.type_str_find (@mt_find _) (@pe_globR _ _ _ _ rfl gb.FIGURES (by decide)) (@pa_cons _ _ _ _ _ (@pv _ 0 _ _ (by rfl) (by first | exact Or.inl rfl | exact Or.inr (Or.inl rfl) | exact Or.inr (Or.inr rfl)) (by decide) (by decide)) (@pa_nil _) (by rfl)) (by rfl) (by rfl) (by rfl) (by rfl) (by rfl) (by rfl)) (@pe_un _ _ _ _ _ _ (@un_neg _) (@pe_int _ _ _ _))))), ?_⟩
  refine ⟨_, rfl, _, x.length, rfl, ⟨small9k hx, rfl⟩, rfl, _, rfl, ?_⟩
  refine ite2 (fun c => ?_) (fun c => ?_)
  · have h1 : x.length = 1 := by
      have := of_decide_eq_true c
      injection this with e
      walk_at "om"
    refine ⟨rfl, _, rfl, _, _, rfl, rfl, ?_⟩
    have e : numW x = PySem.Txt.find figures x := if_pos h1
    rw [← e]
    exact q
  · have h1 : ¬ x.length = 1 := fun z => c (decide_eq_true (by rw [z]; rfl))
    refine ⟨1, rfl, ?_⟩
    have e : numW x = -1 := if_neg h1
    rw [e] at q
    exact q

noncomputable abbrev s_numbers_of : Stmt := top 34
theorem sc_numbers_of : FnScope ["words"] ["words"] (defScope s_numbers_of) := ⟨rfl, rfl, rfl, by decide +kernel, rfl, by decide +kernel, by decide +kernel⟩
theorem ok_numbers_of {P : Program} {w : World} {K : PySem.W.Frag} {mg : Str → Option Value} {base : Heap} {f : Addr} {fd : FuncData} (F : Fun K "numbers_of" "numbers_of" s_numbers_of f fd) (gb : Gb mg) {c : Nat → Addr} (cl : Cl K mg c) (d_number_of : Def P w K mg base 1 "number_of" ["word"] spNumW) : FnOk P w K mg base CX0 2 f fd ["words"] spNumsW := by
  refine F.ok sc_numbers_of (fun vs H Q E h => ?_) (fun cdv A outer s H vs Q E hr h => ?_)
  · obtain ⟨l, ws, rfl, _⟩ := h
    rfl
  obtain ⟨l, ws, rfl, hl, hn, hw, q⟩ := h
  have nd0 : (["word"] : List Str).Nodup := by decide +kernel
  refine ⟨_, (@pss_one _ _ _ (@ps_ret _ _ _ _ (@pe_comp _ ["word"] [none] _ _ _ _ _ _ _ _ _ _ (by exact (show CompOk ["words"] (defScope s_numbers_of) ["word"] [none] _ from ⟨rfl, by decide +kernel, by decide +kernel, by decide +kernel, by decide +kernel, rfl, by decide +kernel⟩)) rfl (@kpi_list _ K _ _ _ (@pv _ 0 _ _ (by rfl) (by first | exact Or.inl rfl | exact Or.inr (Or.inl rfl) | exact Or.inr (Or.inr rfl)) (by decide) (by decide)) (by rfl)) (fun _ _ _ _ => (@pg_name _ _ 0 _ nd0 rfl (Or.inl rfl) (by first | exact .inl rfl | exact .inr rfl | assumption))) (fun _ _ _ _ => (@pf_nil _)) (fun _ _ _ _ => (@pe_def _ _ _ _ _ _ _ _ _ _ _ d_number_of hr (by decide) rfl (@pa_cons _ _ _ _ _ (@pv _ 0 _ _ (by rfl) (by first | exact Or.inl rfl | exact Or.inr (Or.inl rfl) | exact Or.inr (Or.inr rfl)) (by decide) (by decide)) (@pa_nil _) (by rfl)) (by decide) (by rfl) (by rfl))) (by intro _; rfl)))), ?_⟩
  refine ⟨_, rfl, l, rfl, ⟨_, SqL.of hl⟩, fun D hD => ?_⟩
  refine map_list ws V.str (fun w => V.int (numW w)) hl hn hD (fun z hz H' Q' s1 q' => ?_) (fun H' s1 hD' => q H' D s1 hD')
  exact ⟨_, rfl, z, rfl, hw z hz, q' _ Same.rfl'⟩

noncomputable abbrev s_connective_of : Stmt := top 33
theorem sc_connective_of : FnScope ["words"] ["words"] (defScope s_connective_of) := ⟨rfl, rfl, rfl, by decide +kernel, rfl, by decide +kernel, by decide +kernel⟩
theorem ok_connective_of {P : Program} {w : World} {K : PySem.W.Frag} {mg : Str → Option Value} {base : Heap} {f : Addr} {fd : FuncData} (F : Fun K "connective_of" "connective_of" s_connective_of f fd) (gb : Gb mg) {c : Nat → Addr} (cl : Cl K mg c) (d_number_of : Def P w K mg base 1 "number_of" ["word"] spNumW) (d_numbers_of : Def P w K mg base 2 "numbers_of" ["words"] spNumsW) : FnOk P w K mg base CX0 3 f fd ["words"] spConnW := by
  refine F.ok sc_connective_of (fun vs H Q E h => ?_) (fun cdv A outer s H vs Q E hr h => ?_)
  · obtain ⟨l, ws, rfl, _⟩ := h
    rfl
  obtain ⟨l, ws, rfl, hl, hn, hw, q⟩ := h
  refine ⟨_, (@pss_cons _ _ _ _ _ (@ps_if _ _ _ _ _ _ _ _ (@pt_cmpR _ _ _ _ _ _ _ _ (@op_lt _) (@pe_callB _ _ _ _ _ _ _ _ _ (@kcall_len _ K (by rfl)) rfl gb.len bt_len (@pa_cons _ _ _ _ _ (@pv _ 0 _ _ (by rfl) (by first | exact Or.inl rfl | exact Or.inr (Or.inl rfl) | exact Or.inr (Or.inr rfl)) (by decide) (by decide)) (@pa_nil _) (by rfl)) (by decide) (by decide) (by rfl) (by rfl)) (@pe_int _ _ _ _) (@nomark _ _ (by decide) (by decide))) (@pss_one _ _ _ (@ps_ret _ _ _ _ (@pe_non _ _ _))) (@pss_nil _)) (@pss_one _ _ _ (@ps_ret _ _ _ _ (@pe_tup _ _ _ _ _ (@pa_cons _ _ _ _ _ (@pe_ix _ _ _ _ _ _ _ (@kix_seq _ K (by rfl)) (@pv _ 0 _ _ (by rfl) (by first | exact Or.inl rfl | exact Or.inr (Or.inl rfl) | exact Or.inr (Or.inr rfl)) (by decide) (by decide)) (@pe_int _ _ _ _) (fun _ _ => rfl)) (@pa_cons _ _ _ _ _ (@pe_def _ _ _ _ _ _ _ _ _ _ _ d_number_of hr (by decide) rfl (@pa_cons _ _ _ _ _ (@pe_ix _ _ _ _ _ _ _ (@kix_seq _ K (by rfl)) (@pv _ 0 _ _ (by rfl) (by first | exact Or.inl rfl | exact Or.inr (Or.inl rfl) | exact Or.inr (Or.inr rfl)) (by decide) (by decide)) (@pe_int _ _ _ _) (fun _ _ => rfl)) (@pa_nil _) (by rfl)) (by decide) (by rfl) (by rfl)) (@pa_cons _ _ _ _ _ (@pe_callTy _ _ _ _ _ _ _ _ _ (@kcall_tuple_of _ K (by rfl)) rfl gb.tuple bt_tuple (@pa_cons _ _ _ _ _ (@pe_def _ _ _ _ _ _ _ _ _ _ _ d_numbers_of hr (by decide) rfl (@pa_cons _ _ _ _ _ (@pe_slice _ _ _ _ _ _ _ _ _ _ (@ksl_any _ K (by rfl)) (@pv _ 0 _ _ (by rfl) (by first | exact Or.inl rfl | exact Or.inr (Or.inl rfl) | exact Or.inr (Or.inr rfl)) (by decide) (by decide)) (@po_some _ _ _ (@pe_int _ _ _ _)) (@po_none _)) (@pa_nil _) (by rfl)) (by decide) (by rfl) (by rfl)) (@pa_nil _) (by rfl)) (by decide) (by decide) (by rfl) (by rfl)) (@pa_nil _) (by rfl)) (by rfl)) (by rfl)))))), ?_⟩
  refine ⟨_, rfl, _, _, rfl, .inl ⟨_, SqL.of hl, rfl⟩, _, _, rfl, rfl, _, rfl, ?_⟩
  match ws, hl, hn, hw, q with
  | [], hl, hn, hw, q => exact ite2 (fun _ => q _ _ Same.rfl' .non) (fun z => absurd (decide_eq_true (by decide)) z)
  | [w], hl, hn, hw, q => exact ite2 (fun _ => q _ _ Same.rfl' .non) (fun z => absurd (decide_eq_true (by show ((1 : Nat) : Int) < 2; decide)) z)
  | n :: p :: r, hl, hn, hw, q =>
  have hn' : r.length ≤ 998 := by rw [List.length_cons, List.length_cons] at hn; walk_at "om"
  refine ite2 (fun z => absurd (of_decide_eq_true z) (by rw [List.length_map, List.length_cons, List.length_cons]; walk_at "om")) (fun _ => ?_)
  refine ⟨_, rfl, .inl ⟨l, _, 0, _, rfl, rfl, SqL.of hl, atI_nat (j := 0) rfl, ?_⟩⟩
  refine ⟨_, rfl, .inl ⟨l, _, 1, _, rfl, rfl, SqL.of hl, atI_nat (j := 1) rfl, p, rfl, hw p (by simp), ?_⟩⟩
  refine ⟨_, rfl, 2, rfl, .inl ⟨l, _, rfl, SqL.of hl, fun k hk => ?_⟩⟩
  have ec : cutV ((n :: p :: r).map V.str) (some 2) none = r.map V.str := cut_from (xs := (n :: p :: r).map V.str) 2 (by rw [List.length_map, List.length_cons, List.length_cons]; walk_at "om")
  rw [ec]
  refine ⟨k, r, rfl, upd_same, by walk_at "om", fun w hw' => hw w (List.mem_cons_of_mem _ (List.mem_cons_of_mem _ hw')), fun H1 k1 s1 hk1 => ?_⟩
  refine ⟨k1, _, rfl, .inl ⟨SqL.of hk1, fun u hu => ?_⟩⟩
  refine ⟨small9 (by show 3 ≤ 1000; decide), fun t ht => ?_⟩
  have s12 : Same H1 (upd H1 u (.tup (r.map fun w => V.int (numW w)))) := same_new hu _
  have s23 : Same (upd H1 u (.tup (r.map fun w => V.int (numW w)))) (upd (upd H1 u (.tup (r.map fun w => V.int (numW w)))) t (.tup [.str n, .int (numW p), .ref u])) := same_new ht _
  refine q _ _ (fun b o qb => s23 _ _ (s12 _ _ (s1 _ _ (same_new hk _ _ _ qb)))) ?_
  refine Ths.tup (vs := [.str n, .int (numW p), .ref u]) (.cons (.str _ (hw n (by simp))) (.cons (.int _) (.cons ?_ .nil))) upd_same (by show 3 ≤ 1000; decide)
  exact Ths.tup (ths_map numT (fun w => V.int (numW w)) r fun w _ => .int _) (s23 _ _ upd_same) (by rw [List.length_map]; walk_at "om")

noncomputable abbrev s_table_of : Stmt := top 32
theorem sc_table_of : FnScope ["parts", "connectives"] ["parts"] (defScope s_table_of) := ⟨rfl, rfl, rfl, by decide +kernel, rfl, by decide +kernel, by decide +kernel⟩
theorem ok_table_of {P : Program} {w : World} {K : PySem.W.Frag} {mg : Str → Option Value} {base : Heap} {f : Addr} {fd : FuncData} (F : Fun K "table_of" "table_of" s_table_of f fd) (gb : Gb mg) {c : Nat → Addr} (cl : Cl K mg c) (d_number_of : Def P w K mg base 1 "number_of" ["word"] spNumW) (d_numbers_of : Def P w K mg base 2 "numbers_of" ["words"] spNumsW) (d_connective_of : Def P w K mg base 3 "connective_of" ["words"] spConnW) : FnOk P w K mg base CX0 4 f fd ["parts"] spTableW := by
  refine F.ok sc_table_of (fun vs H Q E h => ?_) (fun cdv A outer s H vs Q E hr h => ?_)
  · obtain ⟨l, xs, ps, rfl, _⟩ := h
    rfl
  obtain ⟨l, xs, ps, rfl, hl, hW, hn, hw, q⟩ := h
  have nd0 : (["words"] : List Str).Nodup := by decide +kernel
  refine ⟨_, (@pss_cons _ _ _ _ _ (@ps_if _ _ _ _ _ _ _ _ (@PW.pt _ _ _ (@pw_or _ _ _ _ _ _ _ (@pt_cmpR _ _ _ _ _ _ _ _ (@op_lt _) (@pe_callB _ _ _ _ _ _ _ _ _ (@kcall_len _ K (by rfl)) rfl gb.len bt_len (@pa_cons _ _ _ _ _ (@pv _ 0 _ _ (by rfl) (by first | exact Or.inl rfl | exact Or.inr (Or.inl rfl) | exact Or.inr (Or.inr rfl)) (by decide) (by decide)) (@pa_nil _) (by rfl)) (by decide) (by decide) (by rfl) (by rfl)) (@pe_int _ _ _ _) (@nomark _ _ (by decide) (by decide))) (@pw_or1 _ _ _ _ (@pt_cmpR _ _ _ _ _ _ _ _ (@op_ne _) (@pe_callB _ _ _ _ _ _ _ _ _ (@kcall_len _ K (by rfl)) rfl gb.len bt_len (@pa_cons _ _ _ _ _ (@pe_ix _ _ _ _ _ _ _ (@kix_seq _ K (by rfl)) (@pv _ 0 _ _ (by rfl) (by first | exact Or.inl rfl | exact Or.inr (Or.inl rfl) | exact Or.inr (Or.inr rfl)) (by decide) (by decide)) (@pe_int _ _ _ _) (fun _ _ => rfl)) (@pa_nil _) (by rfl)) (by decide) (by decide) (by rfl) (by rfl)) (@pe_int _ _ _ _) (@nomark _ _ (by decide) (by decide)))))) (@pss_one _ _ _ (@ps_ret _ _ _ _ (@pe_non _ _ _))) (@pss_nil _)) (@pss_cons _ _ _ _ _ (@ps_if _ _ _ _ _ _ _ _ (@PW.pt _ _ _ (@pw_or _ _ _ _ _ _ _ (@pt_cmpR _ _ _ _ _ _ _ _ (@op_ne _) (@pe_ix _ _ _ _ _ _ _ (@kix_seq _ K (by rfl)) (@pe_ix _ _ _ _ _ _ _ (@kix_seq _ K (by rfl)) (@pv _ 0 _ _ (by rfl) (by first | exact Or.inl rfl | exact Or.inr (Or.inl rfl) | exact Or.inr (Or.inr rfl)) (by decide) (by decide)) (@pe_int _ _ _ _) (fun _ _ => rfl)) (@pe_int _ _ _ _) (fun _ _ => rfl)) (@pe_str _ _ _ _) (@nomark _ _ (by decide) (by decide))) (@pw_or1 _ _ _ _ (@pt_cmpR _ _ _ _ _ _ _ _ (@op_ne _) (@pe_ix _ _ _ _ _ _ _ (@kix_seq _ K (by rfl)) (@pe_ix _ _ _ _ _ _ _ (@kix_seq _ K (by rfl)) (@pv _ 0 _ _ (by rfl) (by first | exact Or.inl rfl | exact Or.inr (Or.inl rfl) | exact Or.inr (Or.inr rfl)) (by decide) (by decide)) (@pe_int _ _ _ _) (fun _ _ => rfl)) (@pe_int _ _ _ _) (fun _ _ => rfl)) (@pe_str _ _ _ _) (@nomark _ _ (by decide) (by decide)))))) (@pss_one _ _ _ (@ps_ret _ _ _ _ (@pe_non _ _ _))) (@pss_nil _)) (@pss_cons _ _ _ _ _ (@ps_set _ _ 1 _ _ _ _ sc_table_of.nd rfl (Or.inl rfl) (@pe_callTy _ _ _ _ _ _ _ _ _ (@kcall_tuple_of _ K (by rfl)) rfl gb.tuple bt_tuple (@pa_cons _ _ _ _ _ (@pe_comp _ ["words"] [none] _ _ _ _ _ _ _ _ _ _ (by exact (show CompOk ["parts", "connectives"] (defScope s_table_of) ["words"] [none] _ from ⟨rfl, by decide +kernel, by decide +kernel, by decide +kernel, by decide +kernel, rfl, by decide +kernel⟩)) rfl (@kpi_list _ K _ _ _ (@pe_slice _ _ _ _ _ _ _ _ _ _ (@ksl_any _ K (by rfl)) (@pv _ 0 _ _ (by rfl) (by first | exact Or.inl rfl | exact Or.inr (Or.inl rfl) | exact Or.inr (Or.inr rfl)) (by decide) (by decide)) (@po_some _ _ _ (@pe_int _ _ _ _)) (@po_none _)) (by rfl)) (fun _ _ _ _ => (@pg_name _ _ 0 _ nd0 rfl (Or.inl rfl) (by first | exact .inl rfl | exact .inr rfl | assumption))) (fun _ _ _ _ => (@pf_nil _)) (fun _ _ _ _ => (@pe_def _ _ _ _ _ _ _ _ _ _ _ d_connective_of hr (by decide) rfl (@pa_cons _ _ _ _ _ (@pv _ 0 _ _ (by rfl) (by first | exact Or.inl rfl | exact Or.inr (Or.inl rfl) | exact Or.inr (Or.inr rfl)) (by decide) (by decide)) (@pa_nil _) (by rfl)) (by decide) (by rfl) (by rfl))) (by intro _; rfl)) (@pa_nil _) (by rfl)) (by decide) (by decide) (by rfl) (by rfl)) (by rfl) (by first | exact .inl rfl | exact .inr rfl | assumption)) (@pss_one _ _ _ (@ps_ret _ _ _ _ (@pe_tup _ _ _ _ _ (@pa_cons _ _ _ _ _ (@pe_def _ _ _ _ _ _ _ _ _ _ _ d_number_of hr (by decide) rfl (@pa_cons _ _ _ _ _ (@pe_ix _ _ _ _ _ _ _ (@kix_seq _ K (by rfl)) (@pe_ix _ _ _ _ _ _ _ (@kix_seq _ K (by rfl)) (@pv _ 0 _ _ (by rfl) (by first | exact Or.inl rfl | exact Or.inr (Or.inl rfl) | exact Or.inr (Or.inr rfl)) (by decide) (by decide)) (@pe_int _ _ _ _) (fun _ _ => rfl)) (@pe_int _ _ _ _) (fun _ _ => rfl)) (@pa_nil _) (by rfl)) (by decide) (by rfl) (by rfl)) (@pa_cons _ _ _ _ _ (@pe_callTy _ _ _ _ _ _ _ _ _ (@kcall_tuple_of _ K (by rfl)) rfl gb.tuple bt_tuple (@pa_cons _ _ _ _ _ (@pe_def _ _ _ _ _ _ _ _ _ _ _ d_numbers_of hr (by decide) rfl (@pa_cons _ _ _ _ _ (@pe_slice _ _ _ _ _ _ _ _ _ _ (@ksl_any _ K (by rfl)) (@pe_ix _ _ _ _ _ _ _ (@kix_seq _ K (by rfl)) (@pv _ 0 _ _ (by rfl) (by first | exact Or.inl rfl | exact Or.inr (Or.inl rfl) | exact Or.inr (Or.inr rfl)) (by decide) (by decide)) (@pe_int _ _ _ _) (fun _ _ => rfl)) (@po_some _ _ _ (@pe_int _ _ _ _)) (@po_none _)) (@pa_nil _) (by rfl)) (by decide) (by rfl) (by rfl)) (@pa_nil _) (by rfl)) (by decide) (by decide) (by rfl) (by rfl)) (@pa_cons _ _ _ _ _ (@pv _ 1 _ _ (by rfl) (by first | exact Or.inl rfl | exact Or.inr (Or.inl rfl) | exact Or.inr (Or.inr rfl)) (by decide) (by decide)) (@pa_nil _) (by rfl)) (by rfl)) (by rfl)))))))), ?_⟩
  refine ⟨_, rfl, _, _, rfl, .inl ⟨_, SqL.of hl, rfl⟩, _, _, rfl, rfl, _, rfl, ?_⟩
  have hlen := hW.len
  match ps, hW, hn, hw, q, hlen with
  | [], hW, hn, hw, q, hlen => exact ite2 (fun _ => q _ _ Same.rfl' .non) (fun z => absurd (decide_eq_true (by rw [hlen]; decide)) z)
  | [p], hW, hn, hw, q, hlen => exact ite2 (fun _ => q _ _ Same.rfl' (by rw [tbl_bad (fun _ _ _ _ _ e => by cases e)]; exact .non)) (fun z => absurd (decide_eq_true (by rw [hlen]; show ((1 : Nat) : Int) < 2; decide)) z)
  | p :: p' :: cs, hW, hn, hw, q, hlen =>
  have hcl : cs.length ≤ 998 := by rw [List.length_cons, List.length_cons] at hn; walk_at "om"
  refine ite2 (fun z => absurd (of_decide_eq_true z) (by rw [hlen, List.length_cons, List.length_cons]; walk_at "om")) (fun _ => ?_)
  obtain ⟨a0, x0, h0⟩ := wds_get hW (i := 0) rfl
  obtain ⟨a1, x1, h1⟩ := wds_get hW (i := 1) rfl
  refine ⟨_, rfl, .inl ⟨l, _, 0, _, rfl, rfl, SqL.of hl, atI_nat (j := 0) x0, _, p.length, rfl, .inl ⟨_, SqL.of h0, by rw [List.length_map]⟩, rfl, _, rfl, ?_⟩⟩
  by_cases hp2 : p.length = 2
  · obtain ⟨gg, nn, rfl⟩ : ∃ gg nn, p = [gg, nn] := by
      match p, hp2 with
      | [gg, nn], _ => exact ⟨gg, nn, rfl⟩
    refine iteNS (c := V.int 2 = V.int 2) rfl ?_
    obtain ⟨w, ws, rfl⟩ : ∃ w ws, p' = w :: ws := by
      match p', (hw p' (by simp)).1 with
      | w :: ws, _ => exact ⟨w, ws, rfl⟩
      | [], z => exact absurd rfl z
    have hw0 := hw [gg, nn] (by simp)
    have hw1 := hw (w :: ws) (by simp)
    refine ⟨_, rfl, .inl ⟨l, _, 0, _, rfl, rfl, SqL.of hl, atI_nat (j := 0) x0, .inl ⟨a0, _, 0, _, rfl, rfl, SqL.of h0, atI_nat (j := 0) rfl, rfl, _, rfl, ?_⟩⟩⟩
    by_cases hg : gg = wGr
    · subst hg
      refine iteNS (c := V.str wGr = V.str wGr) rfl ?_
      refine ⟨_, rfl, .inl ⟨l, _, 1, _, rfl, rfl, SqL.of hl, atI_nat (j := 1) x1, .inl ⟨a1, _, 0, _, rfl, rfl, SqL.of h1, atI_nat (j := 0) rfl, rfl, _, rfl, ?_⟩⟩⟩
      by_cases hwi : w = wWi
      · subst hwi
        refine iteNS (c := V.str wWi = V.str wWi) rfl ?_
        rw [tbl_of] at q
        refine ⟨_, rfl, 2, rfl, .inl ⟨l, _, rfl, SqL.of hl, fun k hk => ?_⟩⟩
        have ec : cutV xs (some 2) none = xs.drop 2 := cut_from (xs := xs) 2 (by rw [hlen, List.length_cons, List.length_cons]; walk_at "om")
        rw [ec]
        have sk : Same H (upd H k (.lst (xs.drop 2))) := same_new hk _
        refine ⟨k, rfl, ⟨_, SqL.of upd_same⟩, fun D hD => ?_⟩
        have hrl : (xs.drop 2).length = cs.length := by rw [List.length_drop, hlen, List.length_cons, List.length_cons]; walk_at "om"
        refine comp_list (xs := xs.drop 2) (fun i ys H' => Same (upd H k (.lst (xs.drop 2))) H' ∧ Ths H' ((cs.take i).map connTh) ys) ⟨same_new hD _, .nil⟩ (fun i ys H' hh _ => SqL.of (hh.1 _ _ upd_same)) ?_ ?_
        · rintro i ys H' x hx ⟨s1, hT⟩ hD'
          have hi : i < (xs.drop 2).length := (List.getElem?_eq_some_iff.mp hx).1
          have hci : cs[i]? = some (cs.getD i []) := by simp [List.getD, show i < cs.length by walk_at "om"]
          obtain ⟨ac, xc, hc⟩ := wds_get hW (i := i + 2) (ws := cs.getD i []) (by rw [← hci]; rfl)
          rw [List.getElem?_drop, show 2 + i = i + 2 by walk_at "om", xc] at hx
          cases hx
          have hwc := hw (cs.getD i []) (List.mem_cons_of_mem _ (List.mem_cons_of_mem _ (List.mem_of_getElem? hci)))
          have hyl := hT.len
          rw [List.length_map, List.length_take] at hyl
          refine yes ⟨_, rfl, ac, cs.getD i [], rfl, s1 _ _ (sk _ _ hc), hwc.2.1, hwc.2.2, fun H2 v s2 hv => ?_⟩
          have hD2 := s2 _ _ hD'
          have tk2 : Tk H2 (upd H2 D (.lst (ys ++ [v]))) := Tk.put hD2
          refine cyes hi rset1 hD2 (small1000 (by walk_at "om")) ⟨fun b o qb => ?_, ?_⟩
          · rw [upd_ne (ne_of_none qb hD)]
            exact s2 _ _ (s1 _ _ qb)
          · rw [take_snoc hci, List.map_append]
            exact ths_snoc (ths_tk tk2 (hT.same s2)) (conn_tk tk2 hv)
        · rintro ys H' ⟨s1, hT⟩ hD'
          rw [hrl, List.take_length] at hT
          have hyl := hT.len
          rw [List.length_map] at hyl
          have s01 : Same H H' := fun b o qb => s1 _ _ (sk _ _ qb)
          refine ⟨D, _, rfl, .inl ⟨SqL.of hD', fun ct hct => ?_⟩⟩
          have s02 : Same H (upd H' ct (.tup ys)) := fun b o qb => same_new hct _ _ _ (s01 _ _ qb)
          refine ⟨_, rfl, .inl ⟨l, _, 0, _, rfl, rfl, SqL.of (s02 _ _ hl), atI_nat (j := 0) x0, .inl ⟨a0, _, 1, _, rfl, rfl, SqL.of (s02 _ _ h0), atI_nat (j := 1) rfl, nn, rfl, hw0.2.2 nn (by simp), ?_⟩⟩⟩
          refine ⟨_, rfl, .inl ⟨l, _, 1, _, rfl, rfl, SqL.of (s02 _ _ hl), atI_nat (j := 1) x1, 1, rfl, .inl ⟨a1, _, rfl, SqL.of (s02 _ _ h1), fun k2 hk2 => ?_⟩⟩⟩
          have ec2 : cutV ((wWi :: ws).map V.str) (some 1) none = ws.map V.str := cut_from (xs := (wWi :: ws).map V.str) 1 (by rw [List.length_map, List.length_cons]; walk_at "om")
          rw [ec2]
          have hwl : ws.length ≤ 999 := by have := hw1.2.1; rw [List.length_cons] at this; walk_at "om"
          refine ⟨k2, ws, rfl, upd_same, by walk_at "om", fun w hw' => hw1.2.2 w (List.mem_cons_of_mem _ hw'), fun H3 k3 s3 hk3 => ?_⟩
          have s13 : Same (upd H' ct (.tup ys)) H3 := fun b o qb => s3 _ _ (same_new hk2 _ _ _ qb)
          refine ⟨k3, _, rfl, .inl ⟨SqL.of hk3, fun wt hwt => ?_⟩⟩
          refine ⟨_, rfl, small9 (by show 3 ≤ 1000; decide), fun tt htt => ?_⟩
          have s34 : Same H3 (upd H3 wt (.tup (ws.map fun w => V.int (numW w)))) := same_new hwt _
          have s45 : Same (upd H3 wt (.tup (ws.map fun w => V.int (numW w)))) (upd (upd H3 wt (.tup (ws.map fun w => V.int (numW w)))) tt (.tup [.int (numW nn), .ref wt, .ref ct])) := same_new htt _
          refine q _ _ (fun b o qb => s45 _ _ (s34 _ _ (s13 _ _ (s02 _ _ qb)))) ?_
          refine Ths.tup (vs := [.int (numW nn), .ref wt, .ref ct]) (.cons (.int _) (.cons ?_ (.cons ?_ .nil))) upd_same (by show 3 ≤ 1000; decide)
          · exact Ths.tup (ths_map numT (fun w => V.int (numW w)) ws fun w _ => .int _) (s45 _ _ upd_same) (by rw [List.length_map]; walk_at "om")
          · exact Ths.tup ((hT.same (same_new hct _)).same fun b o qb => s45 _ _ (s34 _ _ (s13 _ _ qb))) (s45 _ _ (s34 _ _ (s13 _ _ upd_same))) (by rw [List.length_map]; walk_at "om")
      · refine ite2 (fun _ => ?_) (fun z => absurd (by rw [decide_eq_false (fun e => by cases e; exact hwi rfl)]; rfl) z)
        rw [tbl_bad (fun _ _ _ _ _ e z => by cases e; exact hwi z.2)] at q
        exact q _ _ Same.rfl' .non
    · refine ite2 (fun z => ?_) (fun z => ?_)
      · rw [tbl_bad (fun _ _ _ _ _ e z => by cases e; exact hg z.1)] at q
        exact q _ _ Same.rfl' .non
      · exact absurd (by rw [decide_eq_false (fun e => by cases e; exact hg rfl)]; rfl) z
  · refine ite2 (fun z => ?_) (fun z => ?_)
    · rw [tbl_bad (fun _ _ _ _ _ e z => by cases e; exact hp2 rfl)] at q
      exact q _ _ Same.rfl' .non
    · exact absurd (by rw [decide_eq_false (fun e => by injection e with e; walk_at "om")]; rfl) z

noncomputable abbrev s_read_table : Stmt := top 31
theorem sc_read_table : FnScope ["text", "table"] ["text"] (defScope s_read_table) := ⟨rfl, rfl, rfl, by decide +kernel, rfl, by decide +kernel, by decide +kernel⟩
theorem ok_read_table {P : Program} {w : World} {K : PySem.W.Frag} {mg : Str → Option Value} {base : Heap} {f : Addr} {fd : FuncData} (F : Fun K "read_table" "read_table" s_read_table f fd) (gb : Gb mg) {c : Nat → Addr} (cl : Cl K mg c) (d_table_of : Def P w K mg base 4 "table_of" ["parts"] spTableW) (d_is_table : Def P w K mg base 7 "is_table" ["thing"] spTableT) : FnOk P w K mg base (CX1 P w) 8 f fd ["text"] (spReadW (c 2)) := by
  refine F.ok1 sc_read_table (fun vs H Q E h => ?_) (fun cdv A outer s H vs Q E hr h => ?_)
  · obtain ⟨t, v, rfl, _⟩ := h
    rfl
  obtain ⟨t, v, rfl, ht, h9, q0, q1⟩ := h
  have nd0 : (["part"] : List Str).Nodup := by decide +kernel
  refine ⟨_, (@pss_cons _ _ _ _ _ (@ps_if _ _ _ _ _ _ _ _ (@pt_not _ _ _ _ (@pt_val _ _ _ (@pe_callB _ _ _ _ _ _ _ _ _ (@kcall_isiT _ K (by rfl)) rfl gb.isinstance bt_isinstance (@pa_cons _ _ _ _ _ (@pv _ 0 _ _ (by rfl) (by first | exact Or.inl rfl | exact Or.inr (Or.inl rfl) | exact Or.inr (Or.inr rfl)) (by decide) (by decide)) (@pa_cons _ _ _ _ _ (@pe_bltn _ _ (.ty "str") _ _ rfl gb.str bt_str rfl (by decide) (by decide)) (@pa_nil _) (by rfl)) (by rfl)) (by decide) (by decide) (by rfl) (by rfl)) (by intro _; rfl))) (@pss_one _ _ _ (@ps_raise _ _ _ _ _ _ _ _ _ _ _ _ _ _ _ _ _ _ rfl cl.g_NoTable cl.x_NoTable PySem.F.excBase_ValueError rfl PySem.F.excBase_ValueError rfl (@thrown1 _ _ _ _ _ _ _ _ _ _ _ _ _ _ _) (@pa_cons _ _ _ _ _ (@pe_str _ _ _ _) (@pa_nil _) (by rfl)) (by decide) (by rfl) (by rfl))) (@pss_nil _)) (@pss_cons _ _ _ _ _ (@ps_set _ _ 1 _ _ _ _ sc_read_table.nd rfl (Or.inl rfl) (@pe_def _ _ _ _ _ _ _ _ _ _ _ d_table_of hr (by decide) rfl (@pa_cons _ _ _ _ _ (@pe_comp _ ["part"] [none] _ _ _ _ _ _ _ _ _ _ (by exact (show CompOk ["text", "table"] (defScope s_read_table) ["part"] [none] _ from ⟨rfl, by decide +kernel, by decide +kernel, by decide +kernel, by decide +kernel, rfl, by decide +kernel⟩)) rfl (@kpi_list _ K _ _ _ (@kpe_bm _ K _ _ _ _ _ _ _ _ _ _ _ PySem.F.plainAttrs_str PySem.F.slot_str_split PySem.F.type_str_split (@mt_split _) (@pv _ 0 _ _ (by rfl) (by first | exact Or.inl rfl | exact Or.inr (Or.inl rfl) | exact Or.inr (Or.inr rfl)) (by decide) (by decide)) (@pa_cons _ _ _ _ _ (@pe_str _ _ _ _) (@pa_nil _) (by rfl)) (by rfl) (by rfl) (by rfl) (by rfl) (by rfl) (by rfl)) (by rfl)) (fun _ _ _ _ => (@pg_name _ _ 0 _ nd0 rfl (Or.inl rfl) (by first | exact .inl rfl | exact .inr rfl | assumption))) (fun _ _ _ _ => (@pf_nil _)) (fun _ _ _ _ => (@kpe_bm _ K _ _ _ _ _ _ _ _ _ _ _ PySem.F.plainAttrs_str PySem.F.slot_str_split PySem.F.type_str_split (@mt_split _) (@pv _ 0 _ _ (by rfl) (by first | exact Or.inl rfl | exact Or.inr (Or.inl rfl) | exact Or.inr (Or.inr rfl)) (by decide) (by decide)) (@pa_cons _ _ _ _ _ (@pe_str _ _ _ _) (@pa_nil _) (by rfl)) (by rfl) (by rfl) (by rfl) (by rfl) (by rfl) (by rfl))) (by intro _; rfl)) (@pa_nil _) (by rfl)) (by decide) (by rfl) (by rfl)) (by rfl) (by first | exact .inl rfl | exact .inr rfl | assumption)) (@pss_cons _ _ _ _ _ (@ps_if _ _ _ _ _ _ _ _ (@pt_not _ _ _ _ (@pt_val _ _ _ (@pe_def _ _ _ _ _ _ _ _ _ _ _ d_is_table hr (by decide) rfl (@pa_cons _ _ _ _ _ (@pv _ 1 _ _ (by rfl) (by first | exact Or.inl rfl | exact Or.inr (Or.inl rfl) | exact Or.inr (Or.inr rfl)) (by decide) (by decide)) (@pa_nil _) (by rfl)) (by decide) (by rfl) (by rfl)) (by intro _; rfl))) (@pss_one _ _ _ (@ps_raise _ _ _ _ _ _ _ _ _ _ _ _ _ _ _ _ _ _ rfl cl.g_NoTable cl.x_NoTable PySem.F.excBase_ValueError rfl PySem.F.excBase_ValueError rfl (@thrown1 _ _ _ _ _ _ _ _ _ _ _ _ _ _ _) (@pa_cons _ _ _ _ _ (@pe_str _ _ _ _) (@pa_nil _) (by rfl)) (by decide) (by rfl) (by rfl))) (@pss_nil _)) (@pss_one _ _ _ (@ps_ret _ _ _ _ (@pv _ 1 _ _ (by rfl) (by first | exact Or.inl rfl | exact Or.inr (Or.inl rfl) | exact Or.inr (Or.inr rfl)) (by decide) (by decide))))))), ?_⟩
  refine ⟨_, rfl, _, _, _, isStrB t, rfl, ht.ty, kit_str t, _, rfl, ?_⟩
  cases t with
  | str x =>
    cases ht with
    | str _ hx =>
    have x9 := h9 x rfl
    have big : ∀ n, n ≤ 2102 → n ≤ sizeLine := fun n h => Nat.le_trans h (by decide +kernel)
    obtain ⟨pn, pw⟩ := parse_bounds x9
    have sb := split_bounds (x := x) (y := sp2) (by decide +kernel)
    refine ⟨_, rfl, rfl, x, sp2, rfl, rfl, by decide +kernel, big _ (by walk_at "om"), fun l hl => ?_⟩
    refine ⟨l, rfl, ⟨_, SqL.of upd_same⟩, fun D hD => ?_⟩
    have sk : Same H (upd H l (.lst ((PySem.Txt.split x sp2).map V.str))) := same_new hl _
    have hpl : (parse x).length = (PySem.Txt.split x sp2).length := by unfold parse; rw [List.length_map]
    refine comp_list (xs := (PySem.Txt.split x sp2).map V.str) (fun i ys H' => ∃ G : Hp, Same (upd H l (.lst ((PySem.Txt.split x sp2).map V.str))) G ∧ Same G H' ∧ G D = none ∧ Wds G ((parse x).take i) ys) ⟨_, Same.rfl', same_new hD _, hD, .nil⟩ (fun i ys H' hh _ => SqL.of (hh.elim fun G k => k.2.1 _ _ (k.1 _ _ upd_same))) ?_ ?_
    · rintro i ys H' z hz ⟨G, g1, g2, gD, hW⟩ hD'
      have hi : i < ((PySem.Txt.split x sp2).map V.str).length := (List.getElem?_eq_some_iff.mp hz).1
      have hi' := hi
      rw [List.length_map] at hi'
      rw [List.getElem?_map] at hz
      obtain ⟨pt, hpt, rfl⟩ := Option.map_eq_some_iff.mp hz
      have hws : (parse x)[i]? = some (PySem.Txt.split pt sp1) := by unfold parse; rw [List.getElem?_map, hpt]; rfl
      have hlp := sb.1 _ (List.mem_of_getElem? hpt)
      have hyl := hW.len
      rw [List.length_take] at hyl
      refine yes ⟨_, rfl, rfl, _, sp1, rfl, rfl, by decide +kernel, big _ (by walk_at "om"), fun k hk => ?_⟩
      have hD2 := same_new hk (.lst ((PySem.Txt.split pt sp1).map V.str)) _ _ hD'
      have hkD : k ≠ D := fun z => by rw [z, hD'] at hk; cases hk
      have hGk : G k = none := by
        cases e : G k with
        | none => rfl
        | some o => rw [g2 _ _ e] at hk; cases hk
      refine cyes hi rset1 hD2 (small1000 (by walk_at "om")) ⟨upd G k (.lst ((PySem.Txt.split pt sp1).map V.str)), fun b o qb => same_new hGk _ _ _ (g1 _ _ qb), fun b o qb => ?_, by rw [upd_ne (Ne.symm hkD)]; exact gD, ?_⟩
      · have hbD : b ≠ D := fun z => by
          rw [z, upd_ne (Ne.symm hkD), gD] at qb
          cases qb
        rw [upd_ne hbD]
        by_cases hb : b = k
        · rw [hb] at qb ⊢
          rw [upd_same] at qb ⊢
          exact qb
        · rw [upd_ne hb] at qb ⊢
          exact g2 _ _ qb
      · rw [take_snoc hws]
        exact (hW.same (same_new hGk _)).snoc upd_same
    · rintro ys H' ⟨G, g1, g2, gD, hWG⟩ hD'
      have hW := hWG.same g2
      have s1 : Same (upd H l (.lst ((PySem.Txt.split x sp2).map V.str))) H' := fun b o qb => g2 _ _ (g1 _ _ qb)
      rw [List.length_map, ← hpl, List.take_length] at hW
      refine ⟨D, ys, parse x, rfl, hD', hW, pn, pw, fun H3 v s3 ih => ?_⟩
      refine ⟨_, rfl, _, v, rfl, ih, fun H4 s4 => ⟨_, rfl, ?_⟩⟩
      have sH : Same H H4 := fun b o qb => s4 _ _ (s3 _ _ (s1 _ _ (sk _ _ qb)))
      cases hb : tableB (tableTh (parse x)) with
      | false => exact ⟨small9 (by show 1 ≤ 1000; decide), q0 hb H4 sH⟩
      | true => exact ⟨_, rfl, q1 hb H4 v sH (ih.same s4)⟩
  | _ => exact ⟨small9 (by show 1 ≤ 1000; decide), q0 rfl H Same.rfl'⟩

noncomputable abbrev s_law_text : Stmt := top 42
theorem sc_law_text : FnScope ["_law_table", "_law_parts", "_law_name_here", "_law_places", "_law_cells_here"] ["_law_table"] (defScope s_law_text) := ⟨rfl, rfl, rfl, by decide +kernel, rfl, by decide +kernel, by decide +kernel⟩
theorem ok_law_text {P : Program} {w : World} {K : PySem.W.Frag} {mg : Str → Option Value} {base : Heap} {f : Addr} {fd : FuncData} (F : Fun K "_law_text" "_law_text" s_law_text f fd) (gb : Gb mg) {c : Nat → Addr} (cl : Cl K mg c) : FnOk P w K mg base CX0 2 f fd ["_law_table"] spShow := by
  refine F.ok sc_law_text (fun vs H Q E h => ?_) (fun cdv A outer s H vs Q E hr h => ?_)
  · obtain ⟨v, T, rfl, _⟩ := h
    rfl
  obtain ⟨v, T, rfl, ⟨a, w1, c, xs, rfl, h1, h2, h3, h4⟩, g, fu, q⟩ := h
  have nd0 : (["_law_one"] : List Str).Nodup := by decide +kernel
  have nd1 : (["_law_one"] : List Str).Nodup := by decide +kernel
  refine ⟨_, (@pss_cons _ _ _ _ _ (@ps_set _ _ 1 _ _ _ _ sc_law_text.nd rfl (Or.inl rfl) (@pe_lst _ _ _ _ (@pa_cons _ _ _ _ _ (@pe_op _ _ _ _ _ _ _ _ (@op_add_str _) (@pe_str _ _ _ _) (@pe_callTy _ _ _ _ _ _ _ _ _ (@call_str_int _) rfl gb.str bt_str (@pa_cons _ _ _ _ _ (@pe_ix _ _ _ _ _ _ _ (@kix_seq _ K (by rfl)) (@pv _ 0 _ _ (by rfl) (by first | exact Or.inl rfl | exact Or.inr (Or.inl rfl) | exact Or.inr (Or.inr rfl)) (by decide) (by decide)) (@pe_int _ _ _ _) (fun _ _ => rfl)) (@pa_nil _) (by rfl)) (by decide) (by decide) (by rfl) (by rfl))) (@pa_cons _ _ _ _ _ (@kpe_bm _ K _ _ _ _ _ _ _ _ _ _ _ PySem.F.plainAttrs_str PySem.F.slot_str_join PySem.F.type_str_join (@kmt_join _ K (by rfl)) (@pe_str _ _ _ _) (@pa_cons _ _ _ _ _ (@pe_op _ _ _ _ _ _ _ _ (@op_cat _) (@pe_lst _ _ _ _ (@pa_cons _ _ _ _ _ (@pe_str _ _ _ _) (@pa_nil _) (by rfl))) (@pe_comp _ ["_law_one"] [none] _ _ _ _ _ _ _ _ _ _ (by exact (show CompOk ["_law_table", "_law_parts", "_law_name_here", "_law_places", "_law_cells_here"] (defScope s_law_text) ["_law_one"] [none] _ from ⟨rfl, by decide +kernel, by decide +kernel, by decide +kernel, by decide +kernel, rfl, by decide +kernel⟩)) rfl (@kpi_tup _ K _ _ _ (@pe_ix _ _ _ _ _ _ _ (@kix_seq _ K (by rfl)) (@pv _ 0 _ _ (by rfl) (by first | exact Or.inl rfl | exact Or.inr (Or.inl rfl) | exact Or.inr (Or.inr rfl)) (by decide) (by decide)) (@pe_int _ _ _ _) (fun _ _ => rfl)) (by rfl)) (fun _ _ _ _ => (@pg_name _ _ 0 _ nd0 rfl (Or.inl rfl) (by first | exact .inl rfl | exact .inr rfl | assumption))) (fun _ _ _ _ => (@pf_nil _)) (fun _ _ _ _ => (@pe_callTy _ _ _ _ _ _ _ _ _ (@call_str_int _) rfl gb.str bt_str (@pa_cons _ _ _ _ _ (@pv _ 0 _ _ (by rfl) (by first | exact Or.inl rfl | exact Or.inr (Or.inl rfl) | exact Or.inr (Or.inr rfl)) (by decide) (by decide)) (@pa_nil _) (by rfl)) (by decide) (by decide) (by rfl) (by rfl))) (by intro _; rfl))) (@pa_nil _) (by rfl)) (by rfl) (by rfl) (by rfl) (by rfl) (by rfl) (by rfl)) (@pa_nil _) (by rfl)) (by rfl))) (by rfl) (by first | exact .inl rfl | exact .inr rfl | assumption)) (@pss_cons _ _ _ _ _ (@ps_for _ _ _ _ _ _ _ _ PassesOwn.never rfl (@kpi_tup _ K _ _ _ (@pe_ix _ _ _ _ _ _ _ (@kix_seq _ K (by rfl)) (@pv _ 0 _ _ (by rfl) (by first | exact Or.inl rfl | exact Or.inr (Or.inl rfl) | exact Or.inr (Or.inr rfl)) (by decide) (by decide)) (@pe_int _ _ _ _) (fun _ _ => rfl)) (by rfl)) (@kpg_tup _ K _ _ _ _ 3 rfl (@pgs_cons _ _ _ _ _ (@pg_name _ _ 2 _ sc_law_text.nd rfl (Or.inl rfl) (by first | exact .inl rfl | exact .inr rfl | assumption)) (@pgs_cons _ _ _ _ _ (@pg_name _ _ 3 _ sc_law_text.nd rfl (Or.inl rfl) (by first | exact .inl rfl | exact .inr rfl | assumption)) (@pgs_cons _ _ _ _ _ (@pg_name _ _ 4 _ sc_law_text.nd rfl (Or.inl rfl) (by first | exact .inl rfl | exact .inr rfl | assumption)) (@pgs_nil _) (by rfl)) (by rfl)) (by rfl)) (by rfl) (by rfl) (by rfl)) (@pss_one _ _ _ (@ps_expr _ _ _ _ (@kpe_bm _ K _ _ _ _ _ _ _ _ _ _ _ PySem.F.plainAttrs_list PySem.F.slot_list_append PySem.F.type_list_append (@mt_append _) (@pv _ 1 _ _ (by rfl) (by first | exact Or.inl rfl | exact Or.inr (Or.inl rfl) | exact Or.inr (Or.inr rfl)) (by decide) (by decide)) (@pa_cons _ _ _ _ _ (@kpe_bm _ K _ _ _ _ _ _ _ _ _ _ _ PySem.F.plainAttrs_str PySem.F.slot_str_join PySem.F.type_str_join (@kmt_join _ K (by rfl)) (@pe_str _ _ _ _) (@pa_cons _ _ _ _ _ (@pe_op _ _ _ _ _ _ _ _ (@op_cat _) (@pe_lst _ _ _ _ (@pa_cons _ _ _ _ _ (@pv _ 2 _ _ (by rfl) (by first | exact Or.inl rfl | exact Or.inr (Or.inl rfl) | exact Or.inr (Or.inr rfl)) (by decide) (by decide)) (@pa_cons _ _ _ _ _ (@pe_callTy _ _ _ _ _ _ _ _ _ (@call_str_int _) rfl gb.str bt_str (@pa_cons _ _ _ _ _ (@pv _ 3 _ _ (by rfl) (by first | exact Or.inl rfl | exact Or.inr (Or.inl rfl) | exact Or.inr (Or.inr rfl)) (by decide) (by decide)) (@pa_nil _) (by rfl)) (by decide) (by decide) (by rfl) (by rfl)) (@pa_nil _) (by rfl)) (by rfl))) (@pe_comp _ ["_law_one"] [none] _ _ _ _ _ _ _ _ _ _ (by exact (show CompOk ["_law_table", "_law_parts", "_law_name_here", "_law_places", "_law_cells_here"] (defScope s_law_text) ["_law_one"] [none] _ from ⟨rfl, by decide +kernel, by decide +kernel, by decide +kernel, by decide +kernel, rfl, by decide +kernel⟩)) rfl (@kpi_tup _ K _ _ _ (@pv _ 4 _ _ (by rfl) (by first | exact Or.inl rfl | exact Or.inr (Or.inl rfl) | exact Or.inr (Or.inr rfl)) (by decide) (by decide)) (by rfl)) (fun _ _ _ _ => (@pg_name _ _ 0 _ nd1 rfl (Or.inl rfl) (by first | exact .inl rfl | exact .inr rfl | assumption))) (fun _ _ _ _ => (@pf_nil _)) (fun _ _ _ _ => (@pe_callTy _ _ _ _ _ _ _ _ _ (@call_str_int _) rfl gb.str bt_str (@pa_cons _ _ _ _ _ (@pv _ 0 _ _ (by rfl) (by first | exact Or.inl rfl | exact Or.inr (Or.inl rfl) | exact Or.inr (Or.inr rfl)) (by decide) (by decide)) (@pa_nil _) (by rfl)) (by decide) (by decide) (by rfl) (by rfl))) (by intro _; rfl))) (@pa_nil _) (by rfl)) (by rfl) (by rfl) (by rfl) (by rfl) (by rfl) (by rfl)) (@pa_nil _) (by rfl)) (by rfl) (by rfl) (by rfl) (by rfl) (by rfl) (by rfl)) (by rfl))) (by intro _; rfl)) (@pss_one _ _ _ (@ps_ret _ _ _ _ (@kpe_bm _ K _ _ _ _ _ _ _ _ _ _ _ PySem.F.plainAttrs_str PySem.F.slot_str_join PySem.F.type_str_join (@kmt_join _ K (by rfl)) (@pe_str _ _ _ _) (@pa_cons _ _ _ _ _ (@pv _ 1 _ _ (by rfl) (by first | exact Or.inl rfl | exact Or.inr (Or.inl rfl) | exact Or.inr (Or.inr rfl)) (by decide) (by decide)) (@pa_nil _) (by rfl)) (by rfl) (by rfl) (by rfl) (by rfl) (by rfl) (by rfl)))))), ?_⟩
  have fm : Fig T.m := ⟨by have := g.m1; walk_at "om", g.m9⟩
  have fw : ∀ i ∈ T.ws, Fig i := fun i hi => by
    have k1 := g.ws i hi
    have k2 := g.m9
    exact ⟨k1.1, by walk_at "om"⟩
  have hlen := h4.len
  refine ⟨_, rfl, .inr (.inl ⟨a, _, 0, _, rfl, rfl, SqT.of h1, rfl, T.m, rfl, log_fig fm, _, _, rfl, rfl, ?_, ?_⟩)⟩
  · have k1 := (fig_is fm.1 fm.2).1
    have k2 : (Str.ofString "grades ").length = 7 := by decide +kernel
    show (Str.ofString "grades ").length + (fig T.m).length ≤ _
    exact small9 (by walk_at "om")
  show tCons _ _ _ _ _
  have eg : Str.ofString "grades " ++ Str.ofString (toString T.m) = partOf (Str.ofString "grades") [T.m] := grades_text g.m1 g.m9
  rw [eg]
  refine ⟨rfl, small9 (by show 1 ≤ 1000; decide), fun gg hgg => ?_⟩
  have s1 : Same H (upd H gg (.lst [.str (Str.ofString "wished")])) := same_new hgg _
  refine ⟨_, rfl, .inr (.inl ⟨a, _, 1, _, rfl, rfl, SqT.of (s1 _ _ h1), rfl, w1, rfl, ⟨_, SqT.of (s1 _ _ h2)⟩, fun D hD => ?_⟩)⟩
  refine figs_comp (s1 _ _ h2) fw (by have := g.wl; walk_at "om") hD fun H1 s2 hD1 => ?_
  have hwl := g.wl
  refine ⟨gg, D, _, _, rfl, rfl, s2 _ _ upd_same, hD1, by rw [List.length_map, List.length_map]; exact small9 (by show 1 + T.ws.length ≤ 1000; walk_at "om"), fun e he => ?_⟩
  have s02 : Same H (upd H1 e (.lst ([V.str (Str.ofString "wished")] ++ (T.ws.map fig).map V.str))) := fun b o qb => same_new he _ _ _ (s2 _ _ (s1 _ _ qb))
  refine ⟨sp1, e, L4.wordsOf (Str.ofString "wished") T.ws, rfl, rfl, SqL.of upd_same, by have := (part_len name_words.2 fw (by walk_at "om")).1; walk_at "om", ?_⟩
  refine ⟨small9 (by show 2 ≤ 1000; decide), fun l hl => ?_⟩
  have s03 : Same H (upd (upd H1 e (.lst ([V.str (Str.ofString "wished")] ++ (T.ws.map fig).map V.str))) l (.lst [.str (partOf (Str.ofString "grades") [T.m]), .str (partOf (Str.ofString "wished") T.ws)])) := fun b o qb => same_new hl _ _ _ (s02 _ _ qb)
  have hl0 : H l = none := by
    cases e : H l with
    | none => rfl
    | some o => rw [s02 _ _ e] at hl; cases hl
  refine ⟨_, rfl, .inr (.inl ⟨a, _, 2, _, rfl, rfl, SqT.of (s03 _ _ h1), rfl, c, rfl, ⟨_, SqT.of (s03 _ _ h3)⟩, ?_⟩)⟩
  refine for_tup (xs := xs) (fun j σ H' => ∃ x2 x3 x4 : Option V, σ = [some (.ref a), some (.ref l), x2, x3, x4] ∧ Same H H' ∧ H' l = some (.lst ((partOf (Str.ofString "grades") [T.m] :: partOf (Str.ofString "wished") T.ws :: (T.cs.take j).map partC).map V.str))) ⟨none, none, none, rfl, s03, upd_same⟩ (fun j σ H' _ hh => by obtain ⟨_, _, _, _, ss, _⟩ := hh; exact SqT.of (ss _ _ h3)) ?_ ?_
  · rintro j x σ H' hxj ⟨x2, x3, x4, rfl, ss, hl'⟩
    have hj : j < xs.length := (List.getElem?_eq_some_iff.mp hxj).1
    have hcj : T.cs[j]? = some (T.cs.getD j ⟨"", 0, []⟩) := by simp [List.getD, show j < T.cs.length by walk_at "om"]
    generalize hcn : T.cs.getD j ⟨"", 0, []⟩ = cn at hcj
    obtain ⟨t, uu, e1, e2, e3⟩ := h4.get hcj
    rw [hxj] at e1
    cases e1
    have gc := g.each cn (List.mem_of_getElem? hcj)
    have fu' := fu cn (List.mem_of_getElem? hcj)
    obtain ⟨fg, gl⟩ := conn_figs g.m1 g.m9 gc
    have fpl : Fig cn.pl := ⟨gc.p0, by have := gc.p2; walk_at "om"⟩
    have fall : ∀ i ∈ cn.pl :: gsOf cn, Fig i := fun i hi => by
      rcases List.mem_cons.mp hi with rfl | hi
      · exact fpl
      · exact fg i hi
    have ef : (gsOf cn).map V.int = cn.cs.map cellV := (full_cells fu').symm
    refine ⟨t, _, rfl, SqT.of (ss _ _ e2), rfl, _, _, rfl, _, _, rfl, _, _, rfl, rfl, ?_⟩
    refine ⟨_, rfl, .inl ⟨rfl, _, SqL.of hl'⟩, rfl, _, rfl, _, rfl, cn.pl, rfl, log_fig fpl, small9 (by show 2 ≤ 1000; decide), fun g2 hg2 => ?_⟩
    have s4 : Same H' (upd H' g2 (.lst [.str cn.nm, .str (fig cn.pl)])) := same_new hg2 _
    have hu4 : (upd H' g2 (.lst [.str cn.nm, .str (fig cn.pl)])) uu = some (.tup ((gsOf cn).map V.int)) := by rw [ef]; exact s4 _ _ (ss _ _ e3)
    refine ⟨_, rfl, uu, rfl, ⟨_, SqT.of hu4⟩, fun D2 hD2 => ?_⟩
    refine figs_comp hu4 fg (by walk_at "om") hD2 fun H5 s5 hD5 => ?_
    refine ⟨g2, D2, _, _, rfl, rfl, s5 _ _ upd_same, hD5, by rw [List.length_map, List.length_map]; exact small9 (by show 2 + (gsOf cn).length ≤ 1000; walk_at "om"), fun e' he' => ?_⟩
    have hl5 := s5 _ _ (s4 _ _ hl')
    refine ⟨sp1, e', L4.wordsOf cn.nm (cn.pl :: gsOf cn), rfl, rfl, SqL.of upd_same, by have := (part_len gc.nm fall (by rw [List.length_cons]; walk_at "om")).1; walk_at "om", ?_⟩
    refine ⟨l, _, _, rfl, rfl, same_new he' _ _ _ hl5, ?_, _, _, _, rfl, fun b o qb => ?_, ?_⟩
    · rw [List.length_map, List.length_cons, List.length_cons, List.length_map, List.length_take]
      exact small1000 (by have := g.few; walk_at "om")
    · rw [upd_ne (ne_of_none qb hl0)]
      exact same_new he' _ _ _ (s5 _ _ (s4 _ _ (ss _ _ qb)))
    · rw [upd_same, take_snoc hcj]
      simp [partC, partOf]
  · rintro σ H' ⟨x2, x3, x4, rfl, ss, hl'⟩
    rw [hlen, List.take_length, ← parts_eq] at hl'
    refine ⟨rfl, _, rfl, sp2, l, partsT T, rfl, rfl, SqL.of hl', ?_, q _ ss⟩
    have := (text_len g).1
    walk_at "om"

noncomputable abbrev s_law_alone : Stmt := top 43
theorem sc_law_alone : FnScope ["_law_e", "_law_sort", "_law_sorts"] ["_law_e", "_law_sort"] (defScope s_law_alone) := ⟨rfl, rfl, rfl, by decide +kernel, rfl, by decide +kernel, by decide +kernel⟩
theorem ok_law_alone {P : Program} {w : World} {K : PySem.W.Frag} {mg : Str → Option Value} {base : Heap} {f : Addr} {fd : FuncData} (F : Fun K "_law_alone" "_law_alone" s_law_alone f fd) (gb : Gb mg) {c : Nat → Addr} (cl : Cl K mg c) : FnOk P w K mg base CX0 1 f fd ["_law_e", "_law_sort"] (spAlone (c 2)) := by
  refine F.ok sc_law_alone (fun vs H Q E h => ?_) (fun cdv A outer s H vs Q E hr h => ?_)
  · obtain ⟨e, rfl, _⟩ := h
    rfl
  obtain ⟨e, rfl, he, q⟩ := h
  have nd0 : (["_law_k", "_law_sort"] : List Str).Nodup := by decide +kernel
  refine ⟨_, (@pss_cons _ _ _ _ _ (@ps_set _ _ 2 _ _ _ _ sc_law_alone.nd rfl (Or.inl rfl) (@pe_lst _ _ _ _ (@pa_cons _ _ _ _ _ (@pe_callB _ _ _ _ _ _ _ _ _ (@kcall_isiX _ K _ cl.h_NoTable (by rfl)) rfl gb.isinstance bt_isinstance (@pa_cons _ _ _ _ _ (@pv _ 0 _ _ (by rfl) (by first | exact Or.inl rfl | exact Or.inr (Or.inl rfl) | exact Or.inr (Or.inr rfl)) (by decide) (by decide)) (@pa_cons _ _ _ _ _ (@pe_glob _ _ (.ref _) _ _ rfl cl.g_NoFraction rfl (by decide)) (@pa_nil _) (by rfl)) (by rfl)) (by decide) (by decide) (by rfl) (by rfl)) (@pa_cons _ _ _ _ _ (@pe_callB _ _ _ _ _ _ _ _ _ (@kcall_isiX _ K _ cl.h_NoTable (by rfl)) rfl gb.isinstance bt_isinstance (@pa_cons _ _ _ _ _ (@pv _ 0 _ _ (by rfl) (by first | exact Or.inl rfl | exact Or.inr (Or.inl rfl) | exact Or.inr (Or.inr rfl)) (by decide) (by decide)) (@pa_cons _ _ _ _ _ (@pe_glob _ _ (.ref _) _ _ rfl cl.g_NoTable rfl (by decide)) (@pa_nil _) (by rfl)) (by rfl)) (by decide) (by decide) (by rfl) (by rfl)) (@pa_cons _ _ _ _ _ (@pe_callB _ _ _ _ _ _ _ _ _ (@kcall_isiX _ K _ cl.h_NoTable (by rfl)) rfl gb.isinstance bt_isinstance (@pa_cons _ _ _ _ _ (@pv _ 0 _ _ (by rfl) (by first | exact Or.inl rfl | exact Or.inr (Or.inl rfl) | exact Or.inr (Or.inr rfl)) (by decide) (by decide)) (@pa_cons _ _ _ _ _ (@pe_glob _ _ (.ref _) _ _ rfl cl.g_NoName rfl (by decide)) (@pa_nil _) (by rfl)) (by rfl)) (by decide) (by decide) (by rfl) (by rfl)) (@pa_cons _ _ _ _ _ (@pe_callB _ _ _ _ _ _ _ _ _ (@kcall_isiX _ K _ cl.h_NoTable (by rfl)) rfl gb.isinstance bt_isinstance (@pa_cons _ _ _ _ _ (@pv _ 0 _ _ (by rfl) (by first | exact Or.inl rfl | exact Or.inr (Or.inl rfl) | exact Or.inr (Or.inr rfl)) (by decide) (by decide)) (@pa_cons _ _ _ _ _ (@pe_glob _ _ (.ref _) _ _ rfl cl.g_NoSaying rfl (by decide)) (@pa_nil _) (by rfl)) (by rfl)) (by decide) (by decide) (by rfl) (by rfl)) (@pa_nil _) (by rfl)) (by rfl)) (by rfl)) (by rfl))) (by rfl) (by first | exact .inl rfl | exact .inr rfl | assumption)) (@pss_cons _ _ _ _ _ (@ps_set _ _ 2 _ _ _ _ sc_law_alone.nd rfl (Or.inl rfl) (@pe_op _ _ _ _ _ _ _ _ (@op_cat _) (@pv _ 2 _ _ (by rfl) (by first | exact Or.inl rfl | exact Or.inr (Or.inl rfl) | exact Or.inr (Or.inr rfl)) (by decide) (by decide)) (@pe_lst _ _ _ _ (@pa_cons _ _ _ _ _ (@pe_callB _ _ _ _ _ _ _ _ _ (@kcall_isiX _ K _ cl.h_NoTable (by rfl)) rfl gb.isinstance bt_isinstance (@pa_cons _ _ _ _ _ (@pv _ 0 _ _ (by rfl) (by first | exact Or.inl rfl | exact Or.inr (Or.inl rfl) | exact Or.inr (Or.inr rfl)) (by decide) (by decide)) (@pa_cons _ _ _ _ _ (@pe_glob _ _ (.ref _) _ _ rfl cl.g_NoLetter rfl (by decide)) (@pa_nil _) (by rfl)) (by rfl)) (by decide) (by decide) (by rfl) (by rfl)) (@pa_cons _ _ _ _ _ (@pe_callB _ _ _ _ _ _ _ _ _ (@kcall_isiX _ K _ cl.h_NoTable (by rfl)) rfl gb.isinstance bt_isinstance (@pa_cons _ _ _ _ _ (@pv _ 0 _ _ (by rfl) (by first | exact Or.inl rfl | exact Or.inr (Or.inl rfl) | exact Or.inr (Or.inr rfl)) (by decide) (by decide)) (@pa_cons _ _ _ _ _ (@pe_glob _ _ (.ref _) _ _ rfl cl.g_TooMany rfl (by decide)) (@pa_nil _) (by rfl)) (by rfl)) (by decide) (by decide) (by rfl) (by rfl)) (@pa_cons _ _ _ _ _ (@pe_callB _ _ _ _ _ _ _ _ _ (@kcall_isiX _ K _ cl.h_NoTable (by rfl)) rfl gb.isinstance bt_isinstance (@pa_cons _ _ _ _ _ (@pv _ 0 _ _ (by rfl) (by first | exact Or.inl rfl | exact Or.inr (Or.inl rfl) | exact Or.inr (Or.inr rfl)) (by decide) (by decide)) (@pa_cons _ _ _ _ _ (@pe_glob _ _ (.ref _) _ _ rfl cl.g_NoKind rfl (by decide)) (@pa_nil _) (by rfl)) (by rfl)) (by decide) (by decide) (by rfl) (by rfl)) (@pa_cons _ _ _ _ _ (@pe_callB _ _ _ _ _ _ _ _ _ (@kcall_isiX _ K _ cl.h_NoTable (by rfl)) rfl gb.isinstance bt_isinstance (@pa_cons _ _ _ _ _ (@pv _ 0 _ _ (by rfl) (by first | exact Or.inl rfl | exact Or.inr (Or.inl rfl) | exact Or.inr (Or.inr rfl)) (by decide) (by decide)) (@pa_cons _ _ _ _ _ (@pe_glob _ _ (.ref _) _ _ rfl cl.g_NoCount rfl (by decide)) (@pa_nil _) (by rfl)) (by rfl)) (by decide) (by decide) (by rfl) (by rfl)) (@pa_nil _) (by rfl)) (by rfl)) (by rfl)) (by rfl)))) (by rfl) (by first | exact .inl rfl | exact .inr rfl | assumption)) (@pss_cons _ _ _ _ _ (@ps_set _ _ 2 _ _ _ _ sc_law_alone.nd rfl (Or.inl rfl) (@pe_op _ _ _ _ _ _ _ _ (@op_cat _) (@pv _ 2 _ _ (by rfl) (by first | exact Or.inl rfl | exact Or.inr (Or.inl rfl) | exact Or.inr (Or.inr rfl)) (by decide) (by decide)) (@pe_lst _ _ _ _ (@pa_cons _ _ _ _ _ (@pe_callB _ _ _ _ _ _ _ _ _ (@kcall_isiX _ K _ cl.h_NoTable (by rfl)) rfl gb.isinstance bt_isinstance (@pa_cons _ _ _ _ _ (@pv _ 0 _ _ (by rfl) (by first | exact Or.inl rfl | exact Or.inr (Or.inl rfl) | exact Or.inr (Or.inr rfl)) (by decide) (by decide)) (@pa_cons _ _ _ _ _ (@pe_glob _ _ (.ref _) _ _ rfl cl.g_NoRow rfl (by decide)) (@pa_nil _) (by rfl)) (by rfl)) (by decide) (by decide) (by rfl) (by rfl)) (@pa_cons _ _ _ _ _ (@pe_callB _ _ _ _ _ _ _ _ _ (@kcall_isiX _ K _ cl.h_NoTable (by rfl)) rfl gb.isinstance bt_isinstance (@pa_cons _ _ _ _ _ (@pv _ 0 _ _ (by rfl) (by first | exact Or.inl rfl | exact Or.inr (Or.inl rfl) | exact Or.inr (Or.inr rfl)) (by decide) (by decide)) (@pa_cons _ _ _ _ _ (@pe_glob _ _ (.ref _) _ _ rfl cl.g_NoKept rfl (by decide)) (@pa_nil _) (by rfl)) (by rfl)) (by decide) (by decide) (by rfl) (by rfl)) (@pa_nil _) (by rfl)) (by rfl)))) (by rfl) (by first | exact .inl rfl | exact .inr rfl | assumption)) (@pss_one _ _ _ (@ps_ret _ _ _ _ (@pe_and _ _ _ _ _ _ _ (@pe_callB _ _ _ _ _ _ _ _ _ (@kcall_isiXT _ K _ cl.h_NoTable (by rfl)) rfl gb.isinstance bt_isinstance (@pa_cons _ _ _ _ _ (@pv _ 0 _ _ (by rfl) (by first | exact Or.inl rfl | exact Or.inr (Or.inl rfl) | exact Or.inr (Or.inr rfl)) (by decide) (by decide)) (@pa_cons _ _ _ _ _ (@pe_bltn _ _ (.ty "ValueError") _ _ rfl gb.ValueError bt_ValueError rfl (by decide) (by decide)) (@pa_nil _) (by rfl)) (by rfl)) (by decide) (by decide) (by rfl) (by rfl)) (@pe_one _ _ _ _ _ (@pe_cmpR _ _ _ _ _ _ _ _ (@op_eqL _ K _ hr (by rfl)) (@pv _ 2 _ _ (by rfl) (by first | exact Or.inl rfl | exact Or.inr (Or.inl rfl) | exact Or.inr (Or.inr rfl)) (by decide) (by decide)) (@pe_comp _ ["_law_k", "_law_sort"] [none, some 1] _ _ _ _ _ _ _ _ _ _ (by exact (show CompOk ["_law_e", "_law_sort", "_law_sorts"] (defScope s_law_alone) ["_law_k", "_law_sort"] [none, some 1] _ from ⟨rfl, by decide +kernel, by decide +kernel, by decide +kernel, by decide +kernel, rfl, by decide +kernel⟩)) rfl (@pi_range1 _ _ _ _ _ _ rfl gb.range (@pa_cons _ _ _ _ _ (@pe_int _ _ _ _) (@pa_nil _) (by rfl)) (by rfl)) (fun _ _ _ _ => (@pg_name _ _ 0 _ nd0 rfl (Or.inl rfl) (by first | exact .inl rfl | exact .inr rfl | assumption))) (fun _ _ _ _ => (@pf_nil _)) (fun _ _ _ _ => (@pe_cmpR _ _ _ _ _ _ _ _ (@op_eq _) (@pv _ 0 _ _ (by rfl) (by first | exact Or.inl rfl | exact Or.inr (Or.inl rfl) | exact Or.inr (Or.inr rfl)) (by decide) (by decide)) (@pv _ 1 _ _ (by rfl) (by first | exact Or.inl rfl | exact Or.inr (Or.inl rfl) | exact Or.inr (Or.inr rfl)) (by decide) (by decide)) (@nomark _ _ (by decide) (by decide)))) (by intro _; rfl)) (@nomark _ _ (by decide) (by decide)))))))))), ?_⟩
  refine ⟨_, rfl, e, _, _, rfl, he, cl.k_NoFraction, _, rfl, e, _, _, rfl, he, cl.k_NoTable, _, rfl, e, _, _, rfl, he, cl.k_NoName, _, rfl, e, _, _, rfl, he, cl.k_NoSaying, small9 (by show 4 ≤ 1000; decide), fun l1 h1 => ?_⟩
  have t1 : Same H _ := same_new h1 (.lst [.bl false, .bl true, .bl false, .bl false])
  have he1 := t1 _ _ he
  refine ⟨_, rfl, _, rfl, e, _, _, rfl, he1, cl.k_NoLetter, _, rfl, e, _, _, rfl, he1, cl.k_TooMany, _, rfl, e, _, _, rfl, he1, cl.k_NoKind, _, rfl, e, _, _, rfl, he1, cl.k_NoCount, small9 (by show 4 ≤ 1000; decide), fun l2 h2 => ?_⟩
  have t2 := t1.trans (same_new h2 (.lst [.bl false, .bl false, .bl false, .bl false]))
  refine ⟨l1, l2, _, _, rfl, rfl, same_new h2 _ _ _ upd_same, upd_same, small9 (by show 4 + 4 ≤ 1000; decide), fun l3 h3 => ?_⟩
  have t3 := t2.trans (same_new h3 (.lst ([.bl false, .bl true, .bl false, .bl false] ++ [.bl false, .bl false, .bl false, .bl false])))
  have he3 := t3 _ _ he
  refine ⟨_, rfl, _, rfl, e, _, _, rfl, he3, cl.k_NoRow, _, rfl, e, _, _, rfl, he3, cl.k_NoKept, small9 (by show 2 ≤ 1000; decide), fun l4 h4 => ?_⟩
  have t4 := t3.trans (same_new h4 (.lst [.bl false, .bl false]))
  refine ⟨l3, l4, _, _, rfl, rfl, same_new h4 _ _ _ upd_same, upd_same, small9 (by show 8 + 2 ≤ 1000; decide), fun l5 h5 => ?_⟩
  have t5 := t4.trans (same_new h5 (.lst (([.bl false, .bl true, .bl false, .bl false] ++ [.bl false, .bl false, .bl false, .bl false]) ++ [.bl false, .bl false])))
  have he5 := t5 _ _ he
  refine ⟨_, rfl, e, _, _, rfl, he5, cl.k_ValueError, true, rfl, iteT ?_⟩
  refine ⟨_, rfl, 10, rfl, by decide, by decide, fun D hD => ?_⟩
  refine comp_range (fun i ys H' => Same _ H' ∧ ys = (List.range i).map fun k => V.bl (decide (V.int (0 + ((k : Nat) : Int)) = V.int 1))) ⟨same_new hD _, rfl⟩ ?_ ?_
  · rintro i ys H' hi ⟨s1, rfl⟩ hD'
    refine yes ?_
    refine ⟨_, rfl, _, rfl, rfl, ?_⟩
    refine cyes hi rset1 hD' (by rw [List.length_map, List.length_range]; exact small1000 (by walk_at "om")) ⟨fun b o qb => ?_, ?_⟩
    · rw [upd_ne (ne_of_none qb hD)]
      exact s1 b o qb
    · rw [List.range_succ, List.map_append]
      rfl
  · rintro ys H' ⟨s1, rfl⟩ hD'
    refine ⟨l5, D, _, _, rfl, rfl, SqL.of (s1 _ _ upd_same), SqL.of hD', by rfl, by rfl, ?_⟩
    exact q _ (t5.trans s1)

noncomputable abbrev s_law_odd : Stmt := top 44
theorem sc_law_odd : FnScope ["_law_table", "_law_text_here", "_law_many", "_law_wished", "_law_connectives", "_law_parts", "_law_found"] ["_law_table"] (defScope s_law_odd) := ⟨rfl, rfl, rfl, by decide +kernel, rfl, by decide +kernel, by decide +kernel⟩
theorem ok_law_odd {P : Program} {w : World} {K : PySem.W.Frag} {mg : Str → Option Value} {base : Heap} {f : Addr} {fd : FuncData} (F : Fun K "_law_odd" "_law_odd" s_law_odd f fd) (gb : Gb mg) {c : Nat → Addr} (cl : Cl K mg c) (d_law_text : Def P w K mg base 2 "_law_text" ["_law_table"] spShow) : FnOk P w K mg base CX0 3 f fd ["_law_table"] spOdd := by
  refine F.ok sc_law_odd (fun vs H Q E h => ?_) (fun cdv A outer s H vs Q E hr h => ?_)
  · obtain ⟨v, T, rfl, _⟩ := h
    rfl
  obtain ⟨v, T, rfl, ih, g, fu, m4, c4, q⟩ := h
  have nd0 : (["_law_sign"] : List Str).Nodup := by decide +kernel
  refine ⟨_, (@pss_cons _ _ _ _ _ (@ps_set _ _ 1 _ _ _ _ sc_law_odd.nd rfl (Or.inl rfl) (@pe_def _ _ _ _ _ _ _ _ _ _ _ d_law_text hr (by decide) rfl (@pa_cons _ _ _ _ _ (@pv _ 0 _ _ (by rfl) (by first | exact Or.inl rfl | exact Or.inr (Or.inl rfl) | exact Or.inr (Or.inr rfl)) (by decide) (by decide)) (@pa_nil _) (by rfl)) (by decide) (by rfl) (by rfl)) (by rfl) (by first | exact .inl rfl | exact .inr rfl | assumption)) (@pss_cons _ _ _ _ _ (@ps_asg _ _ _ _ _ _ (@pv _ 0 _ _ (by rfl) (by first | exact Or.inl rfl | exact Or.inr (Or.inl rfl) | exact Or.inr (Or.inr rfl)) (by decide) (by decide)) (@kpg_tup _ K _ _ _ _ 3 rfl (@pgs_cons _ _ _ _ _ (@pg_name _ _ 2 _ sc_law_odd.nd rfl (Or.inl rfl) (by first | exact .inl rfl | exact .inr rfl | assumption)) (@pgs_cons _ _ _ _ _ (@pg_name _ _ 3 _ sc_law_odd.nd rfl (Or.inl rfl) (by first | exact .inl rfl | exact .inr rfl | assumption)) (@pgs_cons _ _ _ _ _ (@pg_name _ _ 4 _ sc_law_odd.nd rfl (Or.inl rfl) (by first | exact .inl rfl | exact .inr rfl | assumption)) (@pgs_nil _) (by rfl)) (by rfl)) (by rfl)) (by rfl) (by rfl) (by rfl)) (by rfl) (by rfl) (by rfl)) (@pss_cons _ _ _ _ _ (@ps_set _ _ 5 _ _ _ _ sc_law_odd.nd rfl (Or.inl rfl) (@kpe_bm _ K _ _ _ _ _ _ _ _ _ _ _ PySem.F.plainAttrs_str PySem.F.slot_str_split PySem.F.type_str_split (@mt_split _) (@pv _ 1 _ _ (by rfl) (by first | exact Or.inl rfl | exact Or.inr (Or.inl rfl) | exact Or.inr (Or.inr rfl)) (by decide) (by decide)) (@pa_cons _ _ _ _ _ (@pe_str _ _ _ _) (@pa_nil _) (by rfl)) (by rfl) (by rfl) (by rfl) (by rfl) (by rfl) (by rfl)) (by rfl) (by first | exact .inl rfl | exact .inr rfl | assumption)) (@pss_cons _ _ _ _ _ (@ps_set _ _ 6 _ _ _ _ sc_law_odd.nd rfl (Or.inl rfl) (@pe_lst _ _ _ _ (@pa_cons _ _ _ _ _ (@pe_non _ _ _) (@pa_cons _ _ _ _ _ (@pe_int _ _ _ _) (@pa_cons _ _ _ _ _ (@pe_bl _ _ _ _) (@pa_cons _ _ _ _ _ (@pe_lst _ _ _ _ (@pa_cons _ _ _ _ _ (@pe_str _ _ _ _) (@pa_cons _ _ _ _ _ (@pe_str _ _ _ _) (@pa_nil _) (by rfl)) (by rfl))) (@pa_cons _ _ _ _ _ (@pv _ 0 _ _ (by rfl) (by first | exact Or.inl rfl | exact Or.inr (Or.inl rfl) | exact Or.inr (Or.inr rfl)) (by decide) (by decide)) (@pa_cons _ _ _ _ _ (@pe_str _ _ _ _) (@pa_cons _ _ _ _ _ (@pe_str _ _ _ _) (@pa_cons _ _ _ _ _ (@pe_str _ _ _ _) (@pa_cons _ _ _ _ _ (@pe_str _ _ _ _) (@pa_cons _ _ _ _ _ (@pe_str _ _ _ _) (@pa_cons _ _ _ _ _ (@pe_str _ _ _ _) (@pa_cons _ _ _ _ _ (@pe_str _ _ _ _) (@pa_nil _) (by rfl)) (by rfl)) (by rfl)) (by rfl)) (by rfl)) (by rfl)) (by rfl)) (by rfl)) (by rfl)) (by rfl)) (by rfl)) (by rfl))) (by rfl) (by first | exact .inl rfl | exact .inr rfl | assumption)) (@pss_app _ _ _ _ _ _ _ _ _ _ _ _ _ _ _ K PySem.F.plainAttrs_list PySem.F.slot_list_append PySem.F.type_list_append (@mt_append _) (@pv _ 6 _ _ (by rfl) (by first | exact Or.inl rfl | exact Or.inr (Or.inl rfl) | exact Or.inr (Or.inr rfl)) (by decide) (by decide)) (@pssp_cons _ _ _ _ _ (@pps _ _ _ (@ps_set _ _ 6 _ _ _ _ sc_law_odd.nd rfl (Or.inl rfl) (@pe_op _ _ _ _ _ _ _ _ (@op_cat _) (@pv _ 6 _ _ (by rfl) (by first | exact Or.inl rfl | exact Or.inr (Or.inl rfl) | exact Or.inr (Or.inr rfl)) (by decide) (by decide)) (@pe_lst _ _ _ _ (@pa_cons _ _ _ _ _ (@pe_op _ _ _ _ _ _ _ _ (@op_add_str _) (@pv _ 1 _ _ (by rfl) (by first | exact Or.inl rfl | exact Or.inr (Or.inl rfl) | exact Or.inr (Or.inr rfl)) (by decide) (by decide)) (@pe_str _ _ _ _)) (@pa_cons _ _ _ _ _ (@pe_op _ _ _ _ _ _ _ _ (@op_add_str _) (@pv _ 1 _ _ (by rfl) (by first | exact Or.inl rfl | exact Or.inr (Or.inl rfl) | exact Or.inr (Or.inr rfl)) (by decide) (by decide)) (@pe_str _ _ _ _)) (@pa_cons _ _ _ _ _ (@pe_op _ _ _ _ _ _ _ _ (@op_add_str _) (@pv _ 1 _ _ (by rfl) (by first | exact Or.inl rfl | exact Or.inr (Or.inl rfl) | exact Or.inr (Or.inr rfl)) (by decide) (by decide)) (@pe_str _ _ _ _)) (@pa_cons _ _ _ _ _ (@pe_op _ _ _ _ _ _ _ _ (@op_add_str _) (@pe_str _ _ _ _) (@pv _ 1 _ _ (by rfl) (by first | exact Or.inl rfl | exact Or.inr (Or.inl rfl) | exact Or.inr (Or.inr rfl)) (by decide) (by decide))) (@pa_cons _ _ _ _ _ (@pe_op _ _ _ _ _ _ _ _ (@op_add_str _) (@pv _ 1 _ _ (by rfl) (by first | exact Or.inl rfl | exact Or.inr (Or.inl rfl) | exact Or.inr (Or.inr rfl)) (by decide) (by decide)) (@pe_str _ _ _ _)) (@pa_cons _ _ _ _ _ (@pe_op _ _ _ _ _ _ _ _ (@op_add_str _) (@pv _ 1 _ _ (by rfl) (by first | exact Or.inl rfl | exact Or.inr (Or.inl rfl) | exact Or.inr (Or.inr rfl)) (by decide) (by decide)) (@pe_str _ _ _ _)) (@pa_cons _ _ _ _ _ (@pe_op _ _ _ _ _ _ _ _ (@op_add_str _) (@pv _ 1 _ _ (by rfl) (by first | exact Or.inl rfl | exact Or.inr (Or.inl rfl) | exact Or.inr (Or.inr rfl)) (by decide) (by decide)) (@pe_str _ _ _ _)) (@pa_nil _) (by rfl)) (by rfl)) (by rfl)) (by rfl)) (by rfl)) (by rfl)) (by rfl)))) (by rfl) (by first | exact .inl rfl | exact .inr rfl | assumption))) (@pssp_cons _ _ _ _ _ (@psp_set _ _ _ _ 6 _ _ sc_law_odd.nd rfl (Or.inl rfl) (@pep_op _ _ _ _ _ _ _ _ (@op_cat _) (@ppe _ _ _ (@pv _ 6 _ _ (by rfl) (by first | exact Or.inl rfl | exact Or.inr (Or.inl rfl) | exact Or.inr (Or.inr rfl)) (by decide) (by decide))) (@pep_lst _ _ _ _ (@pap_cons _ _ _ _ _ (@pep_replace _ _ _ _ _ _ _ _ _ _ _ _ _ (@pv _ 1 _ _ (by rfl) (by first | exact Or.inl rfl | exact Or.inr (Or.inl rfl) | exact Or.inr (Or.inr rfl)) (by decide) (by decide)) (by decide +kernel) (by decide +kernel) (by rfl) (by rfl) (by rfl) (by rfl)) (@pap_cons _ _ _ _ _ (@pep_replace _ _ _ _ _ _ _ _ _ _ _ _ _ (@pv _ 1 _ _ (by rfl) (by first | exact Or.inl rfl | exact Or.inr (Or.inl rfl) | exact Or.inr (Or.inr rfl)) (by decide) (by decide)) (by decide +kernel) (by decide +kernel) (by rfl) (by rfl) (by rfl) (by rfl)) (@pap_cons _ _ _ _ _ (@pep_replace _ _ _ _ _ _ _ _ _ _ _ _ _ (@pv _ 1 _ _ (by rfl) (by first | exact Or.inl rfl | exact Or.inr (Or.inl rfl) | exact Or.inr (Or.inr rfl)) (by decide) (by decide)) (by decide +kernel) (by decide +kernel) (by rfl) (by rfl) (by rfl) (by rfl)) (@pap_nil _) (by rfl)) (by rfl)) (by rfl)))) (by rfl) (by first | exact .inl rfl | exact .inr rfl | assumption)) (@pssp_cons _ _ _ _ _ (@psp_set _ _ _ _ 6 _ _ sc_law_odd.nd rfl (Or.inl rfl) (@pep_op _ _ _ _ _ _ _ _ (@op_cat _) (@ppe _ _ _ (@pv _ 6 _ _ (by rfl) (by first | exact Or.inl rfl | exact Or.inr (Or.inl rfl) | exact Or.inr (Or.inr rfl)) (by decide) (by decide))) (@pep_lst _ _ _ _ (@pap_cons _ _ _ _ _ (@pep_replace _ _ _ _ _ _ _ _ _ _ _ _ _ (@pv _ 1 _ _ (by rfl) (by first | exact Or.inl rfl | exact Or.inr (Or.inl rfl) | exact Or.inr (Or.inr rfl)) (by decide) (by decide)) (by decide +kernel) (by decide +kernel) (by rfl) (by rfl) (by rfl) (by rfl)) (@pap_cons _ _ _ _ _ (@pep_replace _ _ _ _ _ _ _ _ _ _ _ _ _ (@pv _ 1 _ _ (by rfl) (by first | exact Or.inl rfl | exact Or.inr (Or.inl rfl) | exact Or.inr (Or.inr rfl)) (by decide) (by decide)) (by decide +kernel) (by decide +kernel) (by rfl) (by rfl) (by rfl) (by rfl)) (@pap_cons _ _ _ _ _ (@pep_replace _ _ _ _ _ _ _ _ _ _ _ _ _ (@pv _ 1 _ _ (by rfl) (by first | exact Or.inl rfl | exact Or.inr (Or.inl rfl) | exact Or.inr (Or.inr rfl)) (by decide) (by decide)) (by decide +kernel) (by decide +kernel) (by rfl) (by rfl) (by rfl) (by rfl)) (@pap_nil _) (by rfl)) (by rfl)) (by rfl)))) (by rfl) (by first | exact .inl rfl | exact .inr rfl | assumption)) (@pssp_cons _ _ _ _ _ (@psp_set _ _ _ _ 6 _ _ sc_law_odd.nd rfl (Or.inl rfl) (@pep_op _ _ _ _ _ _ _ _ (@op_cat _) (@ppe _ _ _ (@pv _ 6 _ _ (by rfl) (by first | exact Or.inl rfl | exact Or.inr (Or.inl rfl) | exact Or.inr (Or.inr rfl)) (by decide) (by decide))) (@pep_lst _ _ _ _ (@pap_cons _ _ _ _ _ (@pep_replace _ _ _ _ _ _ _ _ _ _ _ _ _ (@pv _ 1 _ _ (by rfl) (by first | exact Or.inl rfl | exact Or.inr (Or.inl rfl) | exact Or.inr (Or.inr rfl)) (by decide) (by decide)) (by decide +kernel) (by decide +kernel) (by rfl) (by rfl) (by rfl) (by rfl)) (@pap_cons _ _ _ _ _ (@pep_replace _ _ _ _ _ _ _ _ _ _ _ _ _ (@pv _ 1 _ _ (by rfl) (by first | exact Or.inl rfl | exact Or.inr (Or.inl rfl) | exact Or.inr (Or.inr rfl)) (by decide) (by decide)) (by decide +kernel) (by decide +kernel) (by rfl) (by rfl) (by rfl) (by rfl)) (@pap_nil _) (by rfl)) (by rfl)))) (by rfl) (by first | exact .inl rfl | exact .inr rfl | assumption)) (@pssp_cons _ _ _ _ _ (@psp_set _ _ _ _ 6 _ _ sc_law_odd.nd rfl (Or.inl rfl) (@pep_op _ _ _ _ _ _ _ _ (@op_cat _) (@ppe _ _ _ (@pv _ 6 _ _ (by rfl) (by first | exact Or.inl rfl | exact Or.inr (Or.inl rfl) | exact Or.inr (Or.inr rfl)) (by decide) (by decide))) (@pep_lst _ _ _ _ (@pap_cons _ _ _ _ _ (@pep_replace _ _ _ _ _ _ _ _ _ _ _ _ _ (@pv _ 1 _ _ (by rfl) (by first | exact Or.inl rfl | exact Or.inr (Or.inl rfl) | exact Or.inr (Or.inr rfl)) (by decide) (by decide)) (by decide +kernel) (by decide +kernel) (by rfl) (by rfl) (by rfl) (by rfl)) (@pap_cons _ _ _ _ _ (@pep_replace _ _ _ _ _ _ _ _ _ _ _ _ _ (@pv _ 1 _ _ (by rfl) (by first | exact Or.inl rfl | exact Or.inr (Or.inl rfl) | exact Or.inr (Or.inr rfl)) (by decide) (by decide)) (by decide +kernel) (by decide +kernel) (by rfl) (by rfl) (by rfl) (by rfl)) (@pap_nil _) (by rfl)) (by rfl)))) (by rfl) (by first | exact .inl rfl | exact .inr rfl | assumption)) (@pssp_cons _ _ _ _ _ (@psp_set _ _ _ _ 6 _ _ sc_law_odd.nd rfl (Or.inl rfl) (@pep_op _ _ _ _ _ _ _ _ (@op_cat _) (@ppe _ _ _ (@pv _ 6 _ _ (by rfl) (by first | exact Or.inl rfl | exact Or.inr (Or.inl rfl) | exact Or.inr (Or.inr rfl)) (by decide) (by decide))) (@pep_lst _ _ _ _ (@pap_cons _ _ _ _ _ (@pep_replace _ _ _ _ _ _ _ _ _ _ _ _ _ (@pv _ 1 _ _ (by rfl) (by first | exact Or.inl rfl | exact Or.inr (Or.inl rfl) | exact Or.inr (Or.inr rfl)) (by decide) (by decide)) (by decide +kernel) (by decide +kernel) (by rfl) (by rfl) (by rfl) (by rfl)) (@pap_cons _ _ _ _ _ (@pep_replace _ _ _ _ _ _ _ _ _ _ _ _ _ (@pv _ 1 _ _ (by rfl) (by first | exact Or.inl rfl | exact Or.inr (Or.inl rfl) | exact Or.inr (Or.inr rfl)) (by decide) (by decide)) (by decide +kernel) (by decide +kernel) (by rfl) (by rfl) (by rfl) (by rfl)) (@pap_nil _) (by rfl)) (by rfl)))) (by rfl) (by first | exact .inl rfl | exact .inr rfl | assumption)) (@ppss _ _ _ (@pss_cons _ _ _ _ _ (@ps_set _ _ 6 _ _ _ _ sc_law_odd.nd rfl (Or.inl rfl) (@pe_op _ _ _ _ _ _ _ _ (@op_cat _) (@pv _ 6 _ _ (by rfl) (by first | exact Or.inl rfl | exact Or.inr (Or.inl rfl) | exact Or.inr (Or.inr rfl)) (by decide) (by decide)) (@pe_lst _ _ _ _ (@pa_cons _ _ _ _ _ (@kpe_bm _ K _ _ _ _ _ _ _ _ _ _ _ PySem.F.plainAttrs_str PySem.F.slot_str_join PySem.F.type_str_join (@kmt_join _ K (by rfl)) (@pe_str _ _ _ _) (@pa_cons _ _ _ _ _ (@pe_slice _ _ _ _ _ _ _ _ _ _ (@ksl_any _ K (by rfl)) (@pv _ 5 _ _ (by rfl) (by first | exact Or.inl rfl | exact Or.inr (Or.inl rfl) | exact Or.inr (Or.inr rfl)) (by decide) (by decide)) (@po_some _ _ _ (@pe_int _ _ _ _)) (@po_none _)) (@pa_nil _) (by rfl)) (by rfl) (by rfl) (by rfl) (by rfl) (by rfl) (by rfl)) (@pa_cons _ _ _ _ _ (@kpe_bm _ K _ _ _ _ _ _ _ _ _ _ _ PySem.F.plainAttrs_str PySem.F.slot_str_join PySem.F.type_str_join (@kmt_join _ K (by rfl)) (@pe_str _ _ _ _) (@pa_cons _ _ _ _ _ (@pe_op _ _ _ _ _ _ _ _ (@op_cat _) (@pe_lst _ _ _ _ (@pa_cons _ _ _ _ _ (@pe_ix _ _ _ _ _ _ _ (@kix_seq _ K (by rfl)) (@pv _ 5 _ _ (by rfl) (by first | exact Or.inl rfl | exact Or.inr (Or.inl rfl) | exact Or.inr (Or.inr rfl)) (by decide) (by decide)) (@pe_int _ _ _ _) (fun _ _ => rfl)) (@pa_cons _ _ _ _ _ (@pe_ix _ _ _ _ _ _ _ (@kix_seq _ K (by rfl)) (@pv _ 5 _ _ (by rfl) (by first | exact Or.inl rfl | exact Or.inr (Or.inl rfl) | exact Or.inr (Or.inr rfl)) (by decide) (by decide)) (@pe_int _ _ _ _) (fun _ _ => rfl)) (@pa_nil _) (by rfl)) (by rfl))) (@pe_slice _ _ _ _ _ _ _ _ _ _ (@ksl_any _ K (by rfl)) (@pv _ 5 _ _ (by rfl) (by first | exact Or.inl rfl | exact Or.inr (Or.inl rfl) | exact Or.inr (Or.inr rfl)) (by decide) (by decide)) (@po_some _ _ _ (@pe_int _ _ _ _)) (@po_none _))) (@pa_nil _) (by rfl)) (by rfl) (by rfl) (by rfl) (by rfl) (by rfl) (by rfl)) (@pa_cons _ _ _ _ _ (@kpe_bm _ K _ _ _ _ _ _ _ _ _ _ _ PySem.F.plainAttrs_str PySem.F.slot_str_join PySem.F.type_str_join (@kmt_join _ K (by rfl)) (@pe_str _ _ _ _) (@pa_cons _ _ _ _ _ (@pe_op _ _ _ _ _ _ _ _ (@op_cat _) (@pe_slice _ _ _ _ _ _ _ _ _ _ (@ksl_any _ K (by rfl)) (@pv _ 5 _ _ (by rfl) (by first | exact Or.inl rfl | exact Or.inr (Or.inl rfl) | exact Or.inr (Or.inr rfl)) (by decide) (by decide)) (@po_none _) (@po_some _ _ _ (@pe_int _ _ _ _))) (@pv _ 5 _ _ (by rfl) (by first | exact Or.inl rfl | exact Or.inr (Or.inl rfl) | exact Or.inr (Or.inr rfl)) (by decide) (by decide))) (@pa_nil _) (by rfl)) (by rfl) (by rfl) (by rfl) (by rfl) (by rfl) (by rfl)) (@pa_nil _) (by rfl)) (by rfl)) (by rfl)))) (by rfl) (by first | exact .inl rfl | exact .inr rfl | assumption)) (@pss_cons _ _ _ _ _ (@ps_set _ _ 6 _ _ _ _ sc_law_odd.nd rfl (Or.inl rfl) (@pe_op _ _ _ _ _ _ _ _ (@op_cat _) (@pv _ 6 _ _ (by rfl) (by first | exact Or.inl rfl | exact Or.inr (Or.inl rfl) | exact Or.inr (Or.inr rfl)) (by decide) (by decide)) (@pe_lst _ _ _ _ (@pa_cons _ _ _ _ _ (@kpe_bm _ K _ _ _ _ _ _ _ _ _ _ _ PySem.F.plainAttrs_str PySem.F.slot_str_join PySem.F.type_str_join (@kmt_join _ K (by rfl)) (@pe_str _ _ _ _) (@pa_cons _ _ _ _ _ (@pe_op _ _ _ _ _ _ _ _ (@op_cat _) (@pe_lst _ _ _ _ (@pa_cons _ _ _ _ _ (@pe_str _ _ _ _) (@pa_nil _) (by rfl))) (@pe_slice _ _ _ _ _ _ _ _ _ _ (@ksl_any _ K (by rfl)) (@pv _ 5 _ _ (by rfl) (by first | exact Or.inl rfl | exact Or.inr (Or.inl rfl) | exact Or.inr (Or.inr rfl)) (by decide) (by decide)) (@po_some _ _ _ (@pe_int _ _ _ _)) (@po_some _ _ _ (@pe_int _ _ _ _)))) (@pa_nil _) (by rfl)) (by rfl) (by rfl) (by rfl) (by rfl) (by rfl) (by rfl)) (@pa_cons _ _ _ _ _ (@kpe_bm _ K _ _ _ _ _ _ _ _ _ _ _ PySem.F.plainAttrs_str PySem.F.slot_str_join PySem.F.type_str_join (@kmt_join _ K (by rfl)) (@pe_str _ _ _ _) (@pa_cons _ _ _ _ _ (@pe_op _ _ _ _ _ _ _ _ (@op_cat _) (@pe_lst _ _ _ _ (@pa_cons _ _ _ _ _ (@pe_str _ _ _ _) (@pa_nil _) (by rfl))) (@pe_slice _ _ _ _ _ _ _ _ _ _ (@ksl_any _ K (by rfl)) (@pv _ 5 _ _ (by rfl) (by first | exact Or.inl rfl | exact Or.inr (Or.inl rfl) | exact Or.inr (Or.inr rfl)) (by decide) (by decide)) (@po_some _ _ _ (@pe_int _ _ _ _)) (@po_some _ _ _ (@pe_int _ _ _ _)))) (@pa_nil _) (by rfl)) (by rfl) (by rfl) (by rfl) (by rfl) (by rfl) (by rfl)) (@pa_cons _ _ _ _ _ (@pe_ix _ _ _ _ _ _ _ (@kix_seq _ K (by rfl)) (@pv _ 5 _ _ (by rfl) (by first | exact Or.inl rfl | exact Or.inr (Or.inl rfl) | exact Or.inr (Or.inr rfl)) (by decide) (by decide)) (@pe_int _ _ _ _) (fun _ _ => rfl)) (@pa_nil _) (by rfl)) (by rfl)) (by rfl)))) (by rfl) (by first | exact .inl rfl | exact .inr rfl | assumption)) (@pss_cons _ _ _ _ _ (@ps_set _ _ 6 _ _ _ _ sc_law_odd.nd rfl (Or.inl rfl) (@pe_op _ _ _ _ _ _ _ _ (@op_cat _) (@pv _ 6 _ _ (by rfl) (by first | exact Or.inl rfl | exact Or.inr (Or.inl rfl) | exact Or.inr (Or.inr rfl)) (by decide) (by decide)) (@pe_lst _ _ _ _ (@pa_cons _ _ _ _ _ (@pe_op _ _ _ _ _ _ _ _ (@op_add_str _) (@pv _ 1 _ _ (by rfl) (by first | exact Or.inl rfl | exact Or.inr (Or.inl rfl) | exact Or.inr (Or.inr rfl)) (by decide) (by decide)) (@pe_str _ _ _ _)) (@pa_cons _ _ _ _ _ (@pe_op _ _ _ _ _ _ _ _ (@op_add_str _) (@pv _ 1 _ _ (by rfl) (by first | exact Or.inl rfl | exact Or.inr (Or.inl rfl) | exact Or.inr (Or.inr rfl)) (by decide) (by decide)) (@pe_str _ _ _ _)) (@pa_cons _ _ _ _ _ (@pe_op _ _ _ _ _ _ _ _ (@op_add_str _) (@pv _ 1 _ _ (by rfl) (by first | exact Or.inl rfl | exact Or.inr (Or.inl rfl) | exact Or.inr (Or.inr rfl)) (by decide) (by decide)) (@pe_str _ _ _ _)) (@pa_cons _ _ _ _ _ (@pe_op _ _ _ _ _ _ _ _ (@op_add_str _) (@pv _ 1 _ _ (by rfl) (by first | exact Or.inl rfl | exact Or.inr (Or.inl rfl) | exact Or.inr (Or.inr rfl)) (by decide) (by decide)) (@pe_str _ _ _ _)) (@pa_cons _ _ _ _ _ (@pe_op _ _ _ _ _ _ _ _ (@op_add_str _) (@pv _ 1 _ _ (by rfl) (by first | exact Or.inl rfl | exact Or.inr (Or.inl rfl) | exact Or.inr (Or.inr rfl)) (by decide) (by decide)) (@pe_str _ _ _ _)) (@pa_nil _) (by rfl)) (by rfl)) (by rfl)) (by rfl)) (by rfl)))) (by rfl) (by first | exact .inl rfl | exact .inr rfl | assumption)) (@pss_cons _ _ _ _ _ (@ps_set _ _ 6 _ _ _ _ sc_law_odd.nd rfl (Or.inl rfl) (@pe_op _ _ _ _ _ _ _ _ (@op_cat _) (@pv _ 6 _ _ (by rfl) (by first | exact Or.inl rfl | exact Or.inr (Or.inl rfl) | exact Or.inr (Or.inr rfl)) (by decide) (by decide)) (@pe_lst _ _ _ _ (@pa_cons _ _ _ _ _ (@pe_op _ _ _ _ _ _ _ _ (@op_add_str _) (@pe_op _ _ _ _ _ _ _ _ (@op_add_str _) (@pv _ 1 _ _ (by rfl) (by first | exact Or.inl rfl | exact Or.inr (Or.inl rfl) | exact Or.inr (Or.inr rfl)) (by decide) (by decide)) (@pe_str _ _ _ _)) (@pe_callTy _ _ _ _ _ _ _ _ _ (@call_str_int _) rfl gb.str bt_str (@pa_cons _ _ _ _ _ (@pv _ 2 _ _ (by rfl) (by first | exact Or.inl rfl | exact Or.inr (Or.inl rfl) | exact Or.inr (Or.inr rfl)) (by decide) (by decide)) (@pa_nil _) (by rfl)) (by decide) (by decide) (by rfl) (by rfl))) (@pa_cons _ _ _ _ _ (@pe_op _ _ _ _ _ _ _ _ (@op_add_str _) (@pv _ 1 _ _ (by rfl) (by first | exact Or.inl rfl | exact Or.inr (Or.inl rfl) | exact Or.inr (Or.inr rfl)) (by decide) (by decide)) (@pe_str _ _ _ _)) (@pa_cons _ _ _ _ _ (@pe_op _ _ _ _ _ _ _ _ (@op_add_str _) (@pv _ 1 _ _ (by rfl) (by first | exact Or.inl rfl | exact Or.inr (Or.inl rfl) | exact Or.inr (Or.inr rfl)) (by decide) (by decide)) (@pe_str _ _ _ _)) (@pa_cons _ _ _ _ _ (@pe_op _ _ _ _ _ _ _ _ (@op_add_str _) (@pv _ 1 _ _ (by rfl) (by first | exact Or.inl rfl | exact Or.inr (Or.inl rfl) | exact Or.inr (Or.inr rfl)) (by decide) (by decide)) (@pe_str _ _ _ _)) (@pa_nil _) (by rfl)) (by rfl)) (by rfl)) (by rfl)))) (by rfl) (by first | exact .inl rfl | exact .inr rfl | assumption)) (@pss_cons _ _ _ _ _ (@ps_set _ _ 6 _ _ _ _ sc_law_odd.nd rfl (Or.inl rfl) (@pe_op _ _ _ _ _ _ _ _ (@op_cat _) (@pv _ 6 _ _ (by rfl) (by first | exact Or.inl rfl | exact Or.inr (Or.inl rfl) | exact Or.inr (Or.inr rfl)) (by decide) (by decide)) (@pe_lst _ _ _ _ (@pa_cons _ _ _ _ _ (@pe_op _ _ _ _ _ _ _ _ (@op_add_str _) (@pe_op _ _ _ _ _ _ _ _ (@op_add_str _) (@pv _ 1 _ _ (by rfl) (by first | exact Or.inl rfl | exact Or.inr (Or.inl rfl) | exact Or.inr (Or.inr rfl)) (by decide) (by decide)) (@pe_str _ _ _ _)) (@pe_op _ _ _ _ _ _ _ _ (@op_mulS _) (@pe_str _ _ _ _) (@pe_op _ _ _ _ _ _ _ _ (@op_add _) (@pv _ 2 _ _ (by rfl) (by first | exact Or.inl rfl | exact Or.inr (Or.inl rfl) | exact Or.inr (Or.inr rfl)) (by decide) (by decide)) (@pe_int _ _ _ _)))) (@pa_cons _ _ _ _ _ (@pe_op _ _ _ _ _ _ _ _ (@op_add_str _) (@pe_op _ _ _ _ _ _ _ _ (@op_add_str _) (@pv _ 1 _ _ (by rfl) (by first | exact Or.inl rfl | exact Or.inr (Or.inl rfl) | exact Or.inr (Or.inr rfl)) (by decide) (by decide)) (@pe_str _ _ _ _)) (@pe_op _ _ _ _ _ _ _ _ (@op_mulS _) (@pe_str _ _ _ _) (@pe_op _ _ _ _ _ _ _ _ (@op_sub _) (@pe_op _ _ _ _ _ _ _ _ (@op_mul _) (@pv _ 2 _ _ (by rfl) (by first | exact Or.inl rfl | exact Or.inr (Or.inl rfl) | exact Or.inr (Or.inr rfl)) (by decide) (by decide)) (@pv _ 2 _ _ (by rfl) (by first | exact Or.inl rfl | exact Or.inr (Or.inl rfl) | exact Or.inr (Or.inr rfl)) (by decide) (by decide))) (@pe_int _ _ _ _)))) (@pa_cons _ _ _ _ _ (@pe_op _ _ _ _ _ _ _ _ (@op_add_str _) (@pv _ 1 _ _ (by rfl) (by first | exact Or.inl rfl | exact Or.inr (Or.inl rfl) | exact Or.inr (Or.inr rfl)) (by decide) (by decide)) (@pe_str _ _ _ _)) (@pa_nil _) (by rfl)) (by rfl)) (by rfl)))) (by rfl) (by first | exact .inl rfl | exact .inr rfl | assumption)) (@pss_cons _ _ _ _ _ (@ps_expr _ _ _ _ (@kpe_bm _ K _ _ _ _ _ _ _ _ _ _ _ PySem.F.plainAttrs_list PySem.F.slot_list_append PySem.F.type_list_append (@mt_append _) (@pv _ 6 _ _ (by rfl) (by first | exact Or.inl rfl | exact Or.inr (Or.inl rfl) | exact Or.inr (Or.inr rfl)) (by decide) (by decide)) (@pa_cons _ _ _ _ _ (@kpe_bm _ K _ _ _ _ _ _ _ _ _ _ _ PySem.F.plainAttrs_str PySem.F.slot_str_join PySem.F.type_str_join (@kmt_join _ K (by rfl)) (@pe_str _ _ _ _) (@pa_cons _ _ _ _ _ (@pe_op _ _ _ _ _ _ _ _ (@op_cat _) (@pe_slice _ _ _ _ _ _ _ _ _ _ (@ksl_any _ K (by rfl)) (@pv _ 5 _ _ (by rfl) (by first | exact Or.inl rfl | exact Or.inr (Or.inl rfl) | exact Or.inr (Or.inr rfl)) (by decide) (by decide)) (@po_none _) (@po_some _ _ _ (@pe_int _ _ _ _))) (@pe_comp _ ["_law_sign"] [none] _ _ _ _ _ _ _ _ _ _ (by exact (show CompOk ["_law_table", "_law_text_here", "_law_many", "_law_wished", "_law_connectives", "_law_parts", "_law_found"] (defScope s_law_odd) ["_law_sign"] [none] _ from ⟨rfl, by decide +kernel, by decide +kernel, by decide +kernel, by decide +kernel, rfl, by decide +kernel⟩)) rfl (@pi_str _ _ _ _ (@pe_str _ _ _ _)) (fun _ _ _ _ => (@pg_name _ _ 0 _ nd0 rfl (Or.inl rfl) (by first | exact .inl rfl | exact .inr rfl | assumption))) (fun _ _ _ _ => (@pf_nil _)) (fun _ _ _ _ => (@pe_op _ _ _ _ _ _ _ _ (@op_add_str _) (@pe_op _ _ _ _ _ _ _ _ (@op_add_str _) (@pe_str _ _ _ _) (@pv _ 0 _ _ (by rfl) (by first | exact Or.inl rfl | exact Or.inr (Or.inl rfl) | exact Or.inr (Or.inr rfl)) (by decide) (by decide))) (@pe_str _ _ _ _))) (by intro _; rfl))) (@pa_nil _) (by rfl)) (by rfl) (by rfl) (by rfl) (by rfl) (by rfl) (by rfl)) (@pa_nil _) (by rfl)) (by rfl) (by rfl) (by rfl) (by rfl) (by rfl) (by rfl)) (by rfl)) (@pss_cons _ _ _ _ _ (@ps_if _ _ _ _ _ _ _ _ (@pt_cmpR _ _ _ _ _ _ _ _ (@op_neE _ _ hr) (@pv _ 4 _ _ (by rfl) (by first | exact Or.inl rfl | exact Or.inr (Or.inl rfl) | exact Or.inr (Or.inr rfl)) (by decide) (by decide)) (@pe_tup _ _ _ _ _ (@pa_nil _)) (@nomark _ _ (by decide) (by decide))) (@pss_cons _ _ _ _ _ (@ps_set _ _ 6 _ _ _ _ sc_law_odd.nd rfl (Or.inl rfl) (@pe_op _ _ _ _ _ _ _ _ (@op_cat _) (@pv _ 6 _ _ (by rfl) (by first | exact Or.inl rfl | exact Or.inr (Or.inl rfl) | exact Or.inr (Or.inr rfl)) (by decide) (by decide)) (@pe_lst _ _ _ _ (@pa_cons _ _ _ _ _ (@pe_op _ _ _ _ _ _ _ _ (@op_add_str _) (@pe_op _ _ _ _ _ _ _ _ (@op_add_str _) (@pv _ 1 _ _ (by rfl) (by first | exact Or.inl rfl | exact Or.inr (Or.inl rfl) | exact Or.inr (Or.inr rfl)) (by decide) (by decide)) (@pe_str _ _ _ _)) (@pe_ix _ _ _ _ _ _ _ (@kix_seq _ K (by rfl)) (@pv _ 5 _ _ (by rfl) (by first | exact Or.inl rfl | exact Or.inr (Or.inl rfl) | exact Or.inr (Or.inr rfl)) (by decide) (by decide)) (@pe_int _ _ _ _) (fun _ _ => rfl))) (@pa_cons _ _ _ _ _ (@kpe_bm _ K _ _ _ _ _ _ _ _ _ _ _ PySem.F.plainAttrs_str PySem.F.slot_str_join PySem.F.type_str_join (@kmt_join _ K (by rfl)) (@pe_str _ _ _ _) (@pa_cons _ _ _ _ _ (@pe_op _ _ _ _ _ _ _ _ (@op_cat _) (@pe_op _ _ _ _ _ _ _ _ (@op_cat _) (@pe_slice _ _ _ _ _ _ _ _ _ _ (@ksl_any _ K (by rfl)) (@pv _ 5 _ _ (by rfl) (by first | exact Or.inl rfl | exact Or.inr (Or.inl rfl) | exact Or.inr (Or.inr rfl)) (by decide) (by decide)) (@po_none _) (@po_some _ _ _ (@pe_int _ _ _ _))) (@pe_lst _ _ _ _ (@pa_cons _ _ _ _ _ (@pe_op _ _ _ _ _ _ _ _ (@op_add_str _) (@pe_ix _ _ _ _ _ _ _ (@kix_seq _ K (by rfl)) (@pv _ 5 _ _ (by rfl) (by first | exact Or.inl rfl | exact Or.inr (Or.inl rfl) | exact Or.inr (Or.inr rfl)) (by decide) (by decide)) (@pe_int _ _ _ _) (fun _ _ => rfl)) (@pe_str _ _ _ _)) (@pa_nil _) (by rfl)))) (@pe_slice _ _ _ _ _ _ _ _ _ _ (@ksl_any _ K (by rfl)) (@pv _ 5 _ _ (by rfl) (by first | exact Or.inl rfl | exact Or.inr (Or.inl rfl) | exact Or.inr (Or.inr rfl)) (by decide) (by decide)) (@po_some _ _ _ (@pe_int _ _ _ _)) (@po_none _))) (@pa_nil _) (by rfl)) (by rfl) (by rfl) (by rfl) (by rfl) (by rfl) (by rfl)) (@pa_nil _) (by rfl)) (by rfl)))) (by rfl) (by first | exact .inl rfl | exact .inr rfl | assumption)) (@pss_one _ _ _ (@ps_expr _ _ _ _ (@kpe_bm _ K _ _ _ _ _ _ _ _ _ _ _ PySem.F.plainAttrs_list PySem.F.slot_list_append PySem.F.type_list_append (@mt_append _) (@pv _ 6 _ _ (by rfl) (by first | exact Or.inl rfl | exact Or.inr (Or.inl rfl) | exact Or.inr (Or.inr rfl)) (by decide) (by decide)) (@pa_cons _ _ _ _ _ (@kpe_bm _ K _ _ _ _ _ _ _ _ _ _ _ PySem.F.plainAttrs_str PySem.F.slot_str_join PySem.F.type_str_join (@kmt_join _ K (by rfl)) (@pe_str _ _ _ _) (@pa_cons _ _ _ _ _ (@pe_op _ _ _ _ _ _ _ _ (@op_cat _) (@pe_op _ _ _ _ _ _ _ _ (@op_cat _) (@pe_slice _ _ _ _ _ _ _ _ _ _ (@ksl_any _ K (by rfl)) (@pv _ 5 _ _ (by rfl) (by first | exact Or.inl rfl | exact Or.inr (Or.inl rfl) | exact Or.inr (Or.inr rfl)) (by decide) (by decide)) (@po_none _) (@po_some _ _ _ (@pe_int _ _ _ _))) (@pe_lst _ _ _ _ (@pa_cons _ _ _ _ _ (@pe_op _ _ _ _ _ _ _ _ (@op_add_str _) (@kpe_bm0 _ K _ _ _ _ _ _ _ _ PySem.F.plainAttrs_str PySem.F.slot_str_upper PySem.F.type_str_upper (@mt_upper _) (@pe_ix _ _ _ _ _ _ _ (@kix_seq _ K (by rfl)) (@pe_ix _ _ _ _ _ _ _ (@kix_seq _ K (by rfl)) (@pv _ 5 _ _ (by rfl) (by first | exact Or.inl rfl | exact Or.inr (Or.inl rfl) | exact Or.inr (Or.inr rfl)) (by decide) (by decide)) (@pe_int _ _ _ _) (fun _ _ => rfl)) (@pe_int _ _ _ _) (fun _ _ => rfl)) (by rfl) (by rfl) (by rfl)) (@pe_slice _ _ _ _ _ _ _ _ _ _ (@ksl_any _ K (by rfl)) (@pe_ix _ _ _ _ _ _ _ (@kix_seq _ K (by rfl)) (@pv _ 5 _ _ (by rfl) (by first | exact Or.inl rfl | exact Or.inr (Or.inl rfl) | exact Or.inr (Or.inr rfl)) (by decide) (by decide)) (@pe_int _ _ _ _) (fun _ _ => rfl)) (@po_some _ _ _ (@pe_int _ _ _ _)) (@po_none _))) (@pa_nil _) (by rfl)))) (@pe_slice _ _ _ _ _ _ _ _ _ _ (@ksl_any _ K (by rfl)) (@pv _ 5 _ _ (by rfl) (by first | exact Or.inl rfl | exact Or.inr (Or.inl rfl) | exact Or.inr (Or.inr rfl)) (by decide) (by decide)) (@po_some _ _ _ (@pe_int _ _ _ _)) (@po_none _))) (@pa_nil _) (by rfl)) (by rfl) (by rfl) (by rfl) (by rfl) (by rfl) (by rfl)) (@pa_nil _) (by rfl)) (by rfl) (by rfl) (by rfl) (by rfl) (by rfl) (by rfl)) (by rfl)))) (@pss_nil _)) (@pss_one _ _ _ (@ps_ret _ _ _ _ (@pv _ 6 _ _ (by rfl) (by first | exact Or.inl rfl | exact Or.inr (Or.inl rfl) | exact Or.inr (Or.inr rfl)) (by decide) (by decide)))))))))))))))))) (by rfl) (by rfl) (by rfl) (by rfl) (by rfl) (by rfl) (by rfl)))))), ?_⟩
  obtain ⟨a, w1, c', xs, rfl, h1, h2, h3, h4⟩ := id ih
  obtain ⟨tl, pn⟩ := text4 g m4 c4
  have h7 : (textT T).length ≤ 700 := by walk_at "om"
  refine ⟨_, rfl, _, T, rfl, ih, g, fu, fun H1 s1 => ?_⟩
  refine ⟨_, rfl, a, _, rfl, SqT.of (s1 _ _ h1), rfl, _, _, rfl, _, _, rfl, _, _, rfl, rfl, ?_⟩
  refine ⟨_, rfl, rfl, textT T, sp2, rfl, rfl, by decide +kernel, small9k (by walk_at "om"), fun pl hpl => ?_⟩
  rw [text_split g]
  have s02 : Same H (upd H1 pl (.lst ((partsT T).map V.str))) := fun b o z => same_new hpl _ _ _ (s1 _ _ z)
  have e5 : (upd H1 pl (.lst ((partsT T).map V.str))) pl = some (.lst ((partsT T).map V.str)) := upd_same
  generalize upd H1 pl (.lst ((partsT T).map V.str)) = H2 at s02 e5
  obtain ⟨tw, tc, tt⟩ := half_th g (s02 _ _ h1) (s02 _ _ h2) (s02 _ _ h3) (h4.same s02)
  try dsimp only [gName]
  change tSeq _ _ _ (sg T a w1 c' pl none) H2
  have tv : ∀ {X : Addr → Prop} {s6 : Option V}, MkE X H2 (sg T a w1 c' pl s6) (tVar 1) (.str (textT T)) := fun {X s6} => mk_var rfl (.str _ (by walk_at "om"))
  have q1s : (Str.ofString " ").length = 1 := by decide +kernel
  have tm : ∀ {X : Addr → Prop} {s6 : Option V}, MkE X H2 (sg T a w1 c' pl s6) (tVar 2) (.int T.m) := fun {X s6} => mk_var rfl (.int _)
  have hp := parts4 g m4
  have hpw : ∀ ws ∈ wordsT T, (PySem.Txt.join sp1 ws).length ≤ 50 := fun ws h => by have := part_w g m4 ws h; walk_at "om"
  have hcl : (cwT T).length ≤ 4 := by unfold cwT; rw [List.length_map]; exact c4
  have hpc : ∀ y ∈ pj (cwT T), y.length ≤ 50 := fun y hy => hp y (List.mem_cons_of_mem _ (List.mem_cons_of_mem _ hy))
  have hp0 : (PySem.Txt.join sp1 [wGr, nT T]).length ≤ 50 := hpw _ List.mem_cons_self
  have hp1 : (PySem.Txt.join sp1 (wWi :: wsT T)).length ≤ 50 := hpw _ (List.mem_cons_of_mem _ List.mem_cons_self)
  have hpl' : ((partsT T).map V.str).length = (cwT T).length + 2 := by rw [List.length_map, parts_pj, words_T]; unfold pj; rw [List.length_map, List.length_cons, List.length_cons]
  have vl : ∀ {X : Addr → Prop} {s6 : Option V}, MkL X H2 (sg T a w1 c' pl s6) (tVar 5) (partsT T) := fun {X s6} => mkl_var rfl e5
  have i0 : ∀ {X : Addr → Prop} {s6 : Option V}, MkE X H2 (sg T a w1 c' pl s6) (tOp (rIx K) (tVar 5) (tC (.int 0))) (.str (PySem.Txt.join sp1 [wGr, nT T])) := fun {X s6} => mk_ixL (k := 0) rfl e5 rfl (by walk_at "om")
  have i1 : ∀ {X : Addr → Prop} {s6 : Option V}, MkE X H2 (sg T a w1 c' pl s6) (tOp (rIx K) (tVar 5) (tC (.int 1))) (.str (PySem.Txt.join sp1 (wWi :: wsT T))) := fun {X s6} => mk_ixL (k := 1) rfl e5 rfl (by walk_at "om")
  have f1 : ∀ {X : Addr → Prop} {s6 : Option V}, MkL X H2 (sg T a w1 c' pl s6) (tSl (fun x lo hi H Q => rSlL K x lo hi H Q ∨ rSlT K x lo hi H Q ∨ rSlS x lo hi H Q) (tVar 5) (tPart (tC (.int 1))) tNoPart) (pj (restT T)) := fun {X s6} => mkl_sl (lo := some 1) (hi := none) (fun H Q h => ⟨_, rfl, h⟩) (fun H Q h => h) (cut_fr (xs := (partsT T).map V.str) 1 (by walk_at "om")) vl
  have f2 : ∀ {X : Addr → Prop} {s6 : Option V}, MkL X H2 (sg T a w1 c' pl s6) (tSl (fun x lo hi H Q => rSlL K x lo hi H Q ∨ rSlT K x lo hi H Q ∨ rSlS x lo hi H Q) (tVar 5) (tPart (tC (.int 2))) tNoPart) (pj (cwT T)) := fun {X s6} => mkl_sl (lo := some 2) (hi := none) (fun H Q h => ⟨_, rfl, h⟩) (fun H Q h => h) (cut_fr (xs := (partsT T).map V.str) 2 (by walk_at "om")) vl
  have t1 : ∀ {X : Addr → Prop} {s6 : Option V}, MkL X H2 (sg T a w1 c' pl s6) (tSl (fun x lo hi H Q => rSlL K x lo hi H Q ∨ rSlT K x lo hi H Q ∨ rSlS x lo hi H Q) (tVar 5) tNoPart (tPart (tC (.int 1)))) [PySem.Txt.join sp1 [wGr, nT T]] := fun {X s6} => mkl_sl (lo := none) (hi := some 1) (fun H Q h => h) (fun H Q h => ⟨_, rfl, h⟩) (cut_upto (xs := (partsT T).map V.str) 1 (by walk_at "om")) vl
  have t2 : ∀ {X : Addr → Prop} {s6 : Option V}, MkL X H2 (sg T a w1 c' pl s6) (tSl (fun x lo hi H Q => rSlL K x lo hi H Q ∨ rSlT K x lo hi H Q ∨ rSlS x lo hi H Q) (tVar 5) tNoPart (tPart (tC (.int 2)))) [PySem.Txt.join sp1 [wGr, nT T], PySem.Txt.join sp1 (wWi :: wsT T)] := fun {X s6} => mkl_sl (lo := none) (hi := some 2) (fun H Q h => h) (fun H Q h => ⟨_, rfl, h⟩) (cut_upto (xs := (partsT T).map V.str) 2 (by walk_at "om")) vl
  have t12 : ∀ {X : Addr → Prop} {s6 : Option V}, MkL X H2 (sg T a w1 c' pl s6) (tSl (fun x lo hi H Q => rSlL K x lo hi H Q ∨ rSlT K x lo hi H Q ∨ rSlS x lo hi H Q) (tVar 5) (tPart (tC (.int 1))) (tPart (tC (.int 2)))) [PySem.Txt.join sp1 (wWi :: wsT T)] := fun {X s6} => mkl_sl (lo := some 1) (hi := some 2) (fun H Q h => ⟨_, rfl, h⟩) (fun H Q h => ⟨_, rfl, h⟩) (cut_nat (xs := (partsT T).map V.str) 1 2 (by walk_at "om") (by walk_at "om")) vl
  refine seq_of ?_
  refine asg_of ?_
  refine lstO (k := 12) (od_cons mk_non rfl (od_cons mk_int rfl (od_cons mk_bl rfl (od_cons (mk_lst (mk_cons (mk_str (by decide +kernel)) (mk_cons (mk_str (by decide +kernel)) mk_nil)) (Nat.le_of_ble_eq_true rfl)) rfl (od_cons (mk_var rfl tt) rfl (od_cons (mk_str (by decide +kernel)) (by decide +kernel) (od_cons (mk_str (by decide +kernel)) (by decide +kernel) (od_cons (mk_str (by decide +kernel)) (by decide +kernel) (od_cons (mk_str (by decide +kernel)) (by decide +kernel) (od_cons (mk_str (by decide +kernel)) (by decide +kernel) (od_cons (mk_str (by decide +kernel)) (by decide +kernel) (od_cons (mk_str (by decide +kernel)) (by decide +kernel) od_nil)))))))))))) (by decide) (fun l3 H3 f3 => ?_)
  try dsimp only [gName]
  change tSeq _ _ _ (sg T a w1 c' pl (some (.ref l3))) H3
  refine seq_of ?_
  refine appB (t := .str (Str.ofString "grades 1;wished")) f3 rfl (mk_str (by decide +kernel)) (by decide +kernel) (by decide) (fun H4 f4 => ?_)
  try dsimp only [gName]
  change tSeq _ _ _ (sg T a w1 c' pl (some (.ref l3))) H4
  refine seq_of ?_
  refine asg_of ?_
  refine catO (k := 7) f4 rfl (od_cons (mk_addC tv h7 (by decide +kernel)) (odd_ad (bad_ex g m4 (cw := [Str.ofString ""]) (by decide +kernel) (by decide +kernel) (by decide +kernel)) h7 (by decide +kernel)) (od_cons (mk_addC tv h7 (by decide +kernel)) (odd_ad (bad_sign g (z := Str.ofString ";") (by decide +kernel) (by unfold Wd; decide +kernel) (by decide +kernel)) h7 (by decide +kernel)) (od_cons (mk_addC tv h7 (by decide +kernel)) (odd_ad (bad_blank g) h7 (by decide +kernel)) (od_cons (mk_addS (mk_str (by decide +kernel)) tv (by have := lens.2.2.1; show sp1.length + _ ≤ 3000; walk_at "om")) (odd_str (bad_lead g) (by rw [Str.length_append]; walk_at "om")) (od_cons (mk_addC tv h7 (by decide +kernel)) (odd_ad (bad_sign g (z := Str.ofString "\n") (by decide +kernel) (by unfold Wd; decide +kernel) (by decide +kernel)) h7 (by decide +kernel)) (od_cons (mk_addC tv h7 (by decide +kernel)) (odd_ad (bad_ex g m4 (cw := [Str.ofString "not"]) (by decide +kernel) (by decide +kernel) (by decide +kernel)) h7 (by decide +kernel)) (od_cons (mk_addC tv h7 (by decide +kernel)) (odd_ad (bad_ex g m4 (cw := [Str.ofString "not", Str.ofString "3", Str.ofString "0"]) (by decide +kernel) (by decide +kernel) (by decide +kernel)) h7 (by decide +kernel)) od_nil))))))) (by decide) (fun l5 H5 f5 => ?_)
  try dsimp only [gName]
  change tSeq _ _ _ (sg T a w1 c' pl (some (.ref l5))) H5
  refine seq_of ?_
  refine asg_of ?_
  refine catO (k := 3) f5 rfl (od_cons (mk_rp tv h7 (by decide +kernel) (len_sep g _)) (odd_rp (bad_c1 g m4) h7 (by decide +kernel) (len_sep g _)) (od_cons (mk_rp tv h7 (by decide +kernel) (len_sep g _)) (odd_rp (bad_c2 g) h7 (by decide +kernel) (len_sep g _)) (od_cons (mk_rp tv h7 (by decide +kernel) (len_sep g _)) (odd_rp (bad_c3 g) h7 (by decide +kernel) (len_sep g _)) od_nil))) (by decide) (fun l6 H6 f6 => ?_)
  try dsimp only [gName]
  change tSeq _ _ _ (sg T a w1 c' pl (some (.ref l6))) H6
  refine seq_of ?_
  refine asg_of ?_
  refine catO (k := 3) f6 rfl (od_cons (mk_rp tv h7 (by decide +kernel) (len_blank g _)) (odd_rp (bad_c4 g) h7 (by decide +kernel) (len_blank g _)) (od_cons (mk_rp tv h7 (by decide +kernel) (len_sep g _)) (odd_rp (bad_c5 g m4) h7 (by decide +kernel) (len_sep g _)) (od_cons (mk_rp tv h7 (by decide +kernel) (len_gr g _)) (odd_rp (bad_c6 g) h7 (by decide +kernel) (len_gr g _)) od_nil))) (by decide) (fun l7 H7 f7 => ?_)
  try dsimp only [gName]
  change tSeq _ _ _ (sg T a w1 c' pl (some (.ref l7))) H7
  refine seq_of ?_
  refine asg_of ?_
  refine catO (k := 2) f7 rfl (od_cons (mk_rp tv h7 (by decide +kernel) (len_gr1 g _)) (odd_rp (by rw [show Str.ofString "grades 0" = wGr ++ (sp1 ++ Str.ofString "0") by decide +kernel]; exact bad_c7 g m4 (.inl rfl)) h7 (by decide +kernel) (len_gr1 g _)) (od_cons (mk_rp tv h7 (by decide +kernel) (len_gr1 g _)) (odd_rp (by rw [show Str.ofString "grades +" = wGr ++ (sp1 ++ Str.ofString "+") by decide +kernel]; exact bad_c7 g m4 (.inr rfl)) h7 (by decide +kernel) (len_gr1 g _)) od_nil)) (by decide) (fun l8 H8 f8 => ?_)
  try dsimp only [gName]
  change tSeq _ _ _ (sg T a w1 c' pl (some (.ref l8))) H8
  refine seq_of ?_
  refine asg_of ?_
  refine catO (k := 2) f8 rfl (od_cons (mk_rp tv h7 (by decide +kernel) (len_wi g m4 _)) (odd_rp (bad_c9 g m4) h7 (by decide +kernel) (len_wi g m4 _)) (od_cons (mk_rp tv h7 (by decide +kernel) (len_wi g m4 _)) (odd_rp (by rw [show Str.ofString "wished 4" = wWi ++ (sp1 ++ Str.ofString "4") by decide +kernel]; exact bad_c10 g m4 (.inl rfl)) h7 (by decide +kernel) (len_wi g m4 _)) od_nil)) (by decide) (fun l9 H9 f9 => ?_)
  try dsimp only [gName]
  change tSeq _ _ _ (sg T a w1 c' pl (some (.ref l9))) H9
  refine seq_of ?_
  refine asg_of ?_
  refine catO (k := 2) f9 rfl (od_cons (mk_rp tv h7 (by decide +kernel) (len_wi g m4 _)) (odd_rp (by rw [show Str.ofString "wished 00" = wWi ++ (sp1 ++ Str.ofString "00") by decide +kernel]; exact bad_c10 g m4 (.inr (.inl rfl))) h7 (by decide +kernel) (len_wi g m4 _)) (od_cons (mk_rp tv h7 (by decide +kernel) (len_wi g m4 _)) (odd_rp (by rw [show Str.ofString "wished -0" = wWi ++ (sp1 ++ Str.ofString "-0") by decide +kernel]; exact bad_c10 g m4 (.inr (.inr rfl))) h7 (by decide +kernel) (len_wi g m4 _)) od_nil)) (by decide) (fun l10 H10 f10 => ?_)
  try dsimp only [gName]
  change tSeq _ _ _ (sg T a w1 c' pl (some (.ref l10))) H10
  refine seq_of ?_
  refine asg_of ?_
  refine catO (k := 3) f10 rfl (od_cons (mk_join (ys := pj (restT T)) f1 (join_b (fun y hy => hp y (List.mem_cons_of_mem _ hy)) (by show (cwT T).length + 1 ≤ 12; walk_at "om"))) (odd_join (bad_d1 g) (fun y hy => hp y (List.mem_cons_of_mem _ hy)) (by show (cwT T).length + 1 ≤ 12; walk_at "om")) (od_cons (mk_join (ys := pj ((wWi :: wsT T) :: [wGr, nT T] :: cwT T)) (mkl_cat (mkl_lst (ys := [PySem.Txt.join sp1 (wWi :: wsT T), PySem.Txt.join sp1 [wGr, nT T]]) (mk_cons i1 (mk_cons i0 mk_nil)) (by show 2 ≤ 1000; decide)) f2 (by show 2 + (pj (cwT T)).length ≤ 1000; unfold pj; rw [List.length_map]; walk_at "om")) (join_b (fun y hy => by rcases List.mem_cons.mp hy with rfl | hy; exact hp1; rcases List.mem_cons.mp hy with rfl | hy; exact hp0; exact hpc y hy) (by show (cwT T).length + 1 + 1 ≤ 12; walk_at "om"))) (odd_join (bad_d2 g) (fun y hy => by rcases List.mem_cons.mp hy with rfl | hy; exact hp1; rcases List.mem_cons.mp hy with rfl | hy; exact hp0; exact hpc y hy) (by show (cwT T).length + 1 + 1 ≤ 12; walk_at "om")) (od_cons (mk_join (ys := pj ([wGr, nT T] :: wordsT T)) (mkl_cat t1 vl (by show 1 + (partsT T).length ≤ 1000; walk_at "om")) (join_b (fun y hy => by rcases List.mem_cons.mp hy with rfl | hy; exact hp0; exact hp y hy) (by show (cwT T).length + 1 + 1 + 1 ≤ 12; walk_at "om"))) (odd_join (bad_d3 g) (fun y hy => by rcases List.mem_cons.mp hy with rfl | hy; exact hp0; exact hp y hy) (by show (cwT T).length + 1 + 1 + 1 ≤ 12; walk_at "om")) od_nil))) (by decide) (fun l11 H11 f11 => ?_)
  try dsimp only [gName]
  change tSeq _ _ _ (sg T a w1 c' pl (some (.ref l11))) H11
  refine seq_of ?_
  refine asg_of ?_
  refine catO (k := 3) f11 rfl (od_cons (mk_join (ys := [Str.ofString "grades 0", PySem.Txt.join sp1 (wWi :: wsT T)]) (mkl_cat (mkl_lst (ys := [Str.ofString "grades 0"]) (mk_cons (mk_str (by decide +kernel)) mk_nil) (by show 1 ≤ 1000; decide)) t12 (by show 1 + 1 ≤ 1000; decide)) (by rw [show Str.ofString "grades 0" = PySem.Txt.join sp1 [wGr, Str.ofString "0"] by decide +kernel]; exact join_b (ps := [[wGr, Str.ofString "0"], wWi :: wsT T]) (fun y hy => by rcases List.mem_cons.mp hy with rfl | hy; (first | decide +kernel | (show (PySem.Txt.join sp1 [wGr, Str.ofString "0"]).length ≤ 50; decide +kernel)); rcases List.mem_cons.mp hy with rfl | hy; exact hp1; cases hy) (by show 2 ≤ 12; decide))) (by rw [show Str.ofString "grades 0" = PySem.Txt.join sp1 [wGr, Str.ofString "0"] by decide +kernel]; exact odd_join (ps := [[wGr, Str.ofString "0"], wWi :: wsT T]) (bad_d4 g (.inl rfl)) (fun y hy => by rcases List.mem_cons.mp hy with rfl | hy; (first | decide +kernel | (show (PySem.Txt.join sp1 [wGr, Str.ofString "0"]).length ≤ 50; decide +kernel)); rcases List.mem_cons.mp hy with rfl | hy; exact hp1; cases hy) (by show 2 ≤ 12; decide)) (od_cons (mk_join (ys := [Str.ofString "grades 10", PySem.Txt.join sp1 (wWi :: wsT T)]) (mkl_cat (mkl_lst (ys := [Str.ofString "grades 10"]) (mk_cons (mk_str (by decide +kernel)) mk_nil) (by show 1 ≤ 1000; decide)) t12 (by show 1 + 1 ≤ 1000; decide)) (by rw [show Str.ofString "grades 10" = PySem.Txt.join sp1 [wGr, Str.ofString "10"] by decide +kernel]; exact join_b (ps := [[wGr, Str.ofString "10"], wWi :: wsT T]) (fun y hy => by rcases List.mem_cons.mp hy with rfl | hy; (first | decide +kernel | (show (PySem.Txt.join sp1 [wGr, Str.ofString "10"]).length ≤ 50; decide +kernel)); rcases List.mem_cons.mp hy with rfl | hy; exact hp1; cases hy) (by show 2 ≤ 12; decide))) (by rw [show Str.ofString "grades 10" = PySem.Txt.join sp1 [wGr, Str.ofString "10"] by decide +kernel]; exact odd_join (ps := [[wGr, Str.ofString "10"], wWi :: wsT T]) (bad_d4 g (.inr rfl)) (fun y hy => by rcases List.mem_cons.mp hy with rfl | hy; (first | decide +kernel | (show (PySem.Txt.join sp1 [wGr, Str.ofString "10"]).length ≤ 50; decide +kernel)); rcases List.mem_cons.mp hy with rfl | hy; exact hp1; cases hy) (by show 2 ≤ 12; decide)) (od_cons i0 (odd_str (by rw [← join_one sp2 (PySem.Txt.join sp1 [wGr, nT T])]; exact bad_d5 g) (by walk_at "om")) od_nil))) (by decide) (fun l12 H12 f12 => ?_)
  try dsimp only [gName]
  change tSeq _ _ _ (sg T a w1 c' pl (some (.ref l12))) H12
  refine seq_of ?_
  refine asg_of ?_
  refine catO (k := 5) f12 rfl (od_cons (mk_addC tv h7 (by decide +kernel)) (odd_ad (bad_ex g m4 (cw := [Str.ofString "zz"]) (by decide +kernel) (by decide +kernel) (by decide +kernel)) h7 (by decide +kernel)) (od_cons (mk_addC tv h7 (by decide +kernel)) (odd_ad (bad_ex g m4 (cw := [Str.ofString "z", Str.ofString "0", Str.ofString "0"]) (by decide +kernel) (by decide +kernel) (by decide +kernel)) h7 (by decide +kernel)) (od_cons (mk_addC tv h7 (by decide +kernel)) (odd_ad (bad_ex g m4 (cw := [Str.ofString "zzzzzzzzz", Str.ofString "0", Str.ofString "0"]) (by decide +kernel) (by decide +kernel) (by decide +kernel)) h7 (by decide +kernel)) (od_cons (mk_addC tv h7 (by decide +kernel)) (odd_ad (bad_ex g m4 (cw := [Str.ofString "zz", Str.ofString "0"]) (by decide +kernel) (by decide +kernel) (by decide +kernel)) h7 (by decide +kernel)) (od_cons (mk_addC tv h7 (by decide +kernel)) (odd_ad (bad_ex g m4 (cw := [Str.ofString "zz", Str.ofString "0", Str.ofString "0", Str.ofString "0"]) (by decide +kernel) (by decide +kernel) (by decide +kernel)) h7 (by decide +kernel)) od_nil))))) (by decide) (fun l13 H13 f13 => ?_)
  try dsimp only [gName]
  change tSeq _ _ _ (sg T a w1 c' pl (some (.ref l13))) H13
  have fl := (fig_is (figm g).1 (figm g).2).1
  have q0 : (Str.ofString "; zz 0 ").length ≤ 20 ∧ (Str.ofString "; zz 1").length ≤ 20 ∧ (Str.ofString "; zz 2").length ≤ 20 ∧ (Str.ofString "; ").length ≤ 20 := by decide +kernel
  obtain ⟨q01, q02, q03, q04⟩ := q0
  have fm := four_mul g m4
  refine seq_of ?_
  refine asg_of ?_
  refine catO (k := 4) f13 rfl (od_cons (mk_addS (mk_addC tv h7 (by decide +kernel)) (mk_strI (figm g) tm) (by rw [Str.length_append, fl]; walk_at "om")) (odd_str (bad_m1 g m4) (by rw [Str.length_append, Str.length_append, fl]; walk_at "om")) (od_cons (mk_addC tv h7 (by decide +kernel)) (odd_ad (bad_ex g m4 (cw := [Str.ofString "zz", Str.ofString "0", Str.ofString "00"]) (by decide +kernel) (by decide +kernel) (by decide +kernel)) h7 (by decide +kernel)) (od_cons (mk_addC tv h7 (by decide +kernel)) (odd_ad (bad_ex g m4 (cw := [Str.ofString "zz", Str.ofString "0", Str.ofString "None"]) (by decide +kernel) (by decide +kernel) (by decide +kernel)) h7 (by decide +kernel)) (od_cons (mk_addC tv h7 (by decide +kernel)) (odd_ad (bad_ex g m4 (cw := [Str.ofString "zz", Str.ofString "-1", Str.ofString "0"]) (by decide +kernel) (by decide +kernel) (by decide +kernel)) h7 (by decide +kernel)) od_nil)))) (by decide) (fun l14 H14 f14 => ?_)
  try dsimp only [gName]
  change tSeq _ _ _ (sg T a w1 c' pl (some (.ref l14))) H14
  refine seq_of ?_
  refine asg_of ?_
  refine catO (k := 3) f14 rfl (od_cons (mk_addS (mk_addC tv h7 (by decide +kernel)) (mk_mulS (n := T.m + 1) (by have := g.m1; walk_at "om") (by walk_at "om") (by decide +kernel) (by have := fm.2.2.1; walk_at "om") (mk_str (by decide +kernel)) (fun H Q h => ⟨_, rfl, _, _, rfl, rfl, h⟩)) (by rw [Str.length_append]; have := fm.2.2.1; walk_at "om")) (odd_str (bad_m2 g m4) (by rw [Str.length_append, Str.length_append]; have := fm.2.2.1; walk_at "om")) (od_cons (mk_addS (mk_addC tv h7 (by decide +kernel)) (mk_mulS (n := T.m * T.m - 1) fm.2.1 (by have := fm.1; walk_at "om") (by decide +kernel) (by have := fm.2.2.2; walk_at "om") (mk_str (by decide +kernel)) (fun H Q h => ⟨_, rfl, _, rfl, _, _, rfl, rfl, .inl ⟨by have := g.m1; walk_at "om", by walk_at "om"⟩, _, _, rfl, rfl, h⟩)) (by rw [Str.length_append]; have := fm.2.2.2; walk_at "om")) (odd_str (bad_m3 g m4) (by rw [Str.length_append, Str.length_append]; have := fm.2.2.2; walk_at "om")) (od_cons (mk_addC tv h7 (by decide +kernel)) (odd_ad (bad_ex g m4 (cw := [Str.ofString "0", Str.ofString "zz", Str.ofString "0"]) (by decide +kernel) (by decide +kernel) (by decide +kernel)) h7 (by decide +kernel)) od_nil))) (by decide) (fun l15 H15 f15 => ?_)
  try dsimp only [gName]
  change tSeq _ _ _ (sg T a w1 c' pl (some (.ref l15))) H15
  have n9 : ∀ {X : Addr → Prop} {s6 : Option V}, MkL X H2 (sg T a w1 c' pl s6) (tComp [none] (iStr (tC (V.str (Str.ofString "abcdefghi")))) (gName 0) tYes (tOp (fun x y H Q => ∃ i j, x = V.str i ∧ y = V.str j ∧ i.length + j.length ≤ sizeLine ∧ Q (V.str (i ++ j)) H) (tOp (fun x y H Q => ∃ i j, x = V.str i ∧ y = V.str j ∧ i.length + j.length ≤ sizeLine ∧ Q (V.str (i ++ j)) H) (tC (V.str (Str.ofString "a"))) (tVar 0)) (tC (V.str (Str.ofString " 0 0"))))) (pj nines) := by
    intro X s6
    rw [← nine_pj]
    exact mkl_chars nineS (by decide +kernel) rfl (nine_chr (K := K))
  refine seq_of ?_
  refine appB (t := .str (PySem.Txt.join sp2 (pj ([wGr, nT T] :: (wWi :: wsT T) :: nines)))) f15 rfl (mk_join (mkl_cat t2 n9 (by show 2 + (pj nines).length ≤ 1000; decide +kernel)) (join_b ?_ (by show 11 ≤ 12; decide))) (odd_join (bad_d6 g) ?_ (by show 11 ≤ 12; decide)) (by decide) (fun H16 f16 => ?_)
  · exact fun y hy => by rcases List.mem_cons.mp hy with rfl | hy; exact hp0; rcases List.mem_cons.mp hy with rfl | hy; exact hp1; exact nine_len y hy
  · exact fun y hy => by rcases List.mem_cons.mp hy with rfl | hy; exact hp0; rcases List.mem_cons.mp hy with rfl | hy; exact hp1; exact nine_len y hy
  try dsimp only [gName]
  change tSeq _ _ _ (sg T a w1 c' pl (some (.ref l15))) H16
  have fin : ∀ (l : Addr) (H' : Hp) (n : Nat), n ≤ 1000 → FoundB oddB H2 l n H' → Q (.ref l) H' := fun l H' n hn f => by
    obtain ⟨_, sf, ys, ey, hy, hb⟩ := f
    refine q H' l ys (fun b o z => sf _ _ (s02 _ _ z)) ey (by walk_at "om") fun y hy' => ?_
    obtain ⟨t, k1, k2⟩ := hb y hy'
    obtain ⟨o1, o2⟩ := odd_of k2
    exact ⟨t, k1.same cut_sub, o1, o2⟩
  refine seq_of ?_
  refine ⟨_, rfl, Nat.zero_le _, fun em hem => ?_⟩
  have f17 := f16.same (same_new hem (.tup []))
  refine ⟨c', em, xs, rfl, rfl, f17.2.1 _ _ (s02 _ _ h3), upd_same, _, rfl, ?_⟩
  have hxl := h4.len
  cases hcs : T.cs with
  | nil =>
    have : xs = [] := List.length_eq_zero_iff.mp (by rw [hxl, hcs]; rfl)
    subst this
    exact ⟨_, rfl, fin l15 _ _ (by decide) f17⟩
  | cons c0 cs0 =>
    obtain ⟨x0, xs0, rfl⟩ : ∃ x0 xs0, xs = x0 :: xs0 := by
      cases xs with
      | nil => rw [hcs] at hxl; cases hxl
      | cons x0 xs0 => exact ⟨x0, xs0, rfl⟩
    refine iteT ?_
    have gc := g.each c0 (by rw [hcs]; exact List.mem_cons_self)
    obtain ⟨k, b, ek, k0, k1, kb, kf⟩ := name_cut gc.nm
    have hcw : cwT T = wordsC c0 :: cs0.map wordsC := by unfold cwT; rw [hcs]; rfl
    have hm2 : wordsC c0 ∈ wordsT T := by rw [words_T, hcw]; simp
    obtain ⟨J0, eJ0⟩ : ∃ J, J = PySem.Txt.join sp1 [wGr, nT T] := ⟨_, rfl⟩
    obtain ⟨J1, eJ1⟩ : ∃ J, J = PySem.Txt.join sp1 (wWi :: wsT T) := ⟨_, rfl⟩
    obtain ⟨J2, eJ2⟩ : ∃ J, J = PySem.Txt.join sp1 (wordsC c0) := ⟨_, rfl⟩
    have ep : partsT T = J0 :: J1 :: J2 :: pj (cs0.map wordsC) := by rw [parts_pj, words_T, hcw, eJ0, eJ1, eJ2]; rfl
    have e5' := e5
    rw [ep] at e5'
    have hj0 : J0.length ≤ 50 := by rw [eJ0]; exact hp0
    have hj1 : J1.length ≤ 50 := by rw [eJ1]; exact hp1
    have hj2 : J2.length ≤ 45 := by rw [eJ2]; exact part_w g m4 _ hm2
    have hjr : ∀ y ∈ pj (cs0.map wordsC), y.length ≤ 50 := fun y hy => hp y (by rw [ep]; exact List.mem_cons_of_mem _ (List.mem_cons_of_mem _ (List.mem_cons_of_mem _ hy)))
    have hc0 : cs0.length ≤ 3 := by rw [hcs, List.length_cons] at c4; walk_at "om"
    have hrl : (pj (cs0.map wordsC)).length ≤ 3 := by unfold pj; rw [List.length_map, List.length_map]; exact hc0
    have i2 : ∀ {X : Addr → Prop} {s6 : Option V}, MkE X H2 (sg T a w1 c' pl s6) (tOp (rIx K) (tVar 5) (tC (.int 2))) (.str J2) := fun {X s6} => mk_ixL (k := 2) rfl e5' rfl (by walk_at "om")
    have t2' : ∀ {X : Addr → Prop} {s6 : Option V}, MkL X H2 (sg T a w1 c' pl s6) (tSl (fun x lo hi H Q => rSlL K x lo hi H Q ∨ rSlT K x lo hi H Q ∨ rSlS x lo hi H Q) (tVar 5) tNoPart (tPart (tC (.int 2)))) [J0, J1] := fun {X s6} => mkl_sl (lo := none) (hi := some 2) (fun H Q h => h) (fun H Q h => ⟨_, rfl, h⟩) (cut_upto (xs := (J0 :: J1 :: J2 :: pj (cs0.map wordsC)).map V.str) 2 (by rw [List.length_map, List.length_cons, List.length_cons]; walk_at "om")) (mkl_var rfl e5')
    have f3' : ∀ {X : Addr → Prop} {s6 : Option V}, MkL X H2 (sg T a w1 c' pl s6) (tSl (fun x lo hi H Q => rSlL K x lo hi H Q ∨ rSlT K x lo hi H Q ∨ rSlS x lo hi H Q) (tVar 5) (tPart (tC (.int 3))) tNoPart) (pj (cs0.map wordsC)) := fun {X s6} => mkl_sl (lo := some 3) (hi := none) (fun H Q h => ⟨_, rfl, h⟩) (fun H Q h => h) (cut_fr (xs := (J0 :: J1 :: J2 :: pj (cs0.map wordsC)).map V.str) 3 (by rw [List.length_map, List.length_cons, List.length_cons, List.length_cons]; walk_at "om")) (mkl_var rfl e5')
    have q05 : (Str.ofString " 0").length = 2 := by decide +kernel
    have eX : J2 ++ Str.ofString " 0" = PySem.Txt.join sp1 (wordsC c0 ++ [Str.ofString "0"]) := by
      rw [join_snoc sp1 _ _ (by simp [wordsC, L4.wordsOf]), ← eJ2]
      exact congrArg (fun z => J2 ++ z) (by decide +kernel)
    have psE : J0 :: J1 :: (J2 ++ Str.ofString " 0") :: pj (cs0.map wordsC) = pj ([wGr, nT T] :: (wWi :: wsT T) :: (wordsC c0 ++ [Str.ofString "0"]) :: cs0.map wordsC) := by rw [eX, eJ0, eJ1]; rfl
    have hlE : ∀ y ∈ pj ([wGr, nT T] :: (wWi :: wsT T) :: (wordsC c0 ++ [Str.ofString "0"]) :: cs0.map wordsC), y.length ≤ 50 := by
      rw [← psE]
      intro y hy
      rcases List.mem_cons.mp hy with rfl | hy
      · exact hj0
      rcases List.mem_cons.mp hy with rfl | hy
      · exact hj1
      rcases List.mem_cons.mp hy with rfl | hy
      · rw [Str.length_append, q05]; walk_at "om"
      · exact hjr y hy
    have hnE : ([wGr, nT T] :: (wWi :: wsT T) :: (wordsC c0 ++ [Str.ofString "0"]) :: cs0.map wordsC).length ≤ 12 := by
      rw [List.length_cons, List.length_cons, List.length_cons, List.length_map]; walk_at "om"
    dsimp only
    refine seq_of ?_
    refine asg_of ?_
    refine catO (k := 2) f17 rfl (od_cons (mk_addS (mk_addC tv h7 (by decide +kernel)) i2 (by rw [Str.length_append]; walk_at "om")) (odd_str (by rw [cat_assoc, eJ2]; exact bad_e1 g hcs) (by rw [Str.length_append, Str.length_append]; walk_at "om")) (od_cons (mk_join (ys := J0 :: J1 :: (J2 ++ Str.ofString " 0") :: pj (cs0.map wordsC)) (mkl_cat (mkl_cat t2' (mkl_lst (ys := [J2 ++ Str.ofString " 0"]) (mk_cons (mk_addC i2 (by walk_at "om") (by decide +kernel)) mk_nil) (by show 1 ≤ 1000; decide)) (by show 2 + 1 ≤ 1000; decide)) f3' (by show 3 + (pj (cs0.map wordsC)).length ≤ 1000; walk_at "om")) (by rw [psE]; exact join_b hlE hnE)) (by rw [psE]; exact odd_join (bad_e2 g hcs) hlE hnE) od_nil)) (by decide) (fun l18 H18 f18 => ?_)
    have eU : PySem.Txt.upper ⟨#[k]⟩ = ⟨#[k - 32]⟩ := up_one k (by rw [List.mem_range'_1]; walk_at "om")
    obtain ⟨JY, eJY⟩ : ∃ J, J = PySem.Txt.join sp1 (b :: fig c0.pl :: (gsOf c0).map fig) := ⟨_, rfl⟩
    have eJ : J2 = ⟨#[k]⟩ ++ JY := by
      rw [eJ2, eJY]
      show PySem.Txt.join sp1 (c0.nm :: fig c0.pl :: (gsOf c0).map fig) = _
      rw [ek]
      exact join_head sp1 _ _ _
    have l1 : (Str.mk #[k]).length = 1 := rfl
    have l2 : (Str.mk #[k - 32]).length = 1 := rfl
    have hjy : JY.length ≤ 44 := by have := hj2; rw [eJ, Str.length_append, l1] at this; walk_at "om"
    have eS : PySem.Txt.slice J2 (some 1) none = JY := by
      apply str_of_codes
      rw [slice1 (by rw [eJ, Str.length_append, l1]; walk_at "om"), eJ, cat_codes]
      rfl
    have cf : J2.cps.toList[0]? = some k := by rw [eJ, cat_codes]; rfl
    obtain ⟨u1, u2⟩ := up_bad k0 k1 kb
    have psU : J0 :: J1 :: (⟨#[k - 32]⟩ ++ JY) :: pj (cs0.map wordsC) = pj ([wGr, nT T] :: (wWi :: wsT T) :: ((⟨#[k - 32]⟩ ++ b) :: fig c0.pl :: (gsOf c0).map fig) :: cs0.map wordsC) := by
      rw [eJ0, eJ1, eJY, ← join_head]
      rfl
    have hlU : ∀ y ∈ pj ([wGr, nT T] :: (wWi :: wsT T) :: ((⟨#[k - 32]⟩ ++ b) :: fig c0.pl :: (gsOf c0).map fig) :: cs0.map wordsC), y.length ≤ 50 := by
      rw [← psU]
      intro y hy
      rcases List.mem_cons.mp hy with rfl | hy
      · exact hj0
      rcases List.mem_cons.mp hy with rfl | hy
      · exact hj1
      rcases List.mem_cons.mp hy with rfl | hy
      · rw [Str.length_append, l2]; walk_at "om"
      · exact hjr y hy
    have hnU : ([wGr, nT T] :: (wWi :: wsT T) :: ((⟨#[k - 32]⟩ ++ b) :: fig c0.pl :: (gsOf c0).map fig) :: cs0.map wordsC).length ≤ 12 := by
      rw [List.length_cons, List.length_cons, List.length_cons, List.length_map]; walk_at "om"
    have mX : ∀ {X : Addr → Prop} {s6 : Option V}, MkE X H2 (sg T a w1 c' pl s6) (tOp (fun x y H Q => ∃ i j, x = V.str i ∧ y = V.str j ∧ i.length + j.length ≤ sizeLine ∧ Q (V.str (i ++ j)) H) (tBM0 K "str" rUpper (tOp (rIx K) (tOp (rIx K) (tVar 5) (tC (V.int 2))) (tC (V.int 0)))) (tSl (fun x lo hi H Q => rSlL K x lo hi H Q ∨ rSlT K x lo hi H Q ∨ rSlS x lo hi H Q) (tOp (rIx K) (tVar 5) (tC (V.int 2))) (tPart (tC (V.int 1))) tNoPart)) (.str (⟨#[k - 32]⟩ ++ JY)) := by
      intro X s6
      have m1 := mk_up (K := K) (mk_ixC (K := K) (X := X) (i2 (s6 := s6)) (by walk_at "om") cf) (by rw [eU, l2]; decide)
      rw [eU] at m1
      have m2 := mk_slS (K := K) (X := X) (i2 (s6 := s6)) (by walk_at "om") (by rw [eS]; walk_at "om")
      rw [eS] at m2
      exact mk_addS m1 m2 (by rw [l2]; walk_at "om")
    refine appB (t := .str (PySem.Txt.join sp2 (J0 :: J1 :: (⟨#[k - 32]⟩ ++ JY) :: pj (cs0.map wordsC)))) f18 rfl (mk_join (mkl_cat (mkl_cat t2' (mkl_lst (ys := [⟨#[k - 32]⟩ ++ JY]) (mk_cons mX mk_nil) (by show 1 ≤ 1000; decide)) (by show 2 + 1 ≤ 1000; decide)) f3' (by show 3 + (pj (cs0.map wordsC)).length ≤ 1000; walk_at "om")) (by rw [psU]; exact join_b hlU hnU)) (by rw [psU]; exact odd_join (bad_e3 g hcs u1 u2) hlU hnU) (by decide) (fun H19 f19 => ?_)
    exact ⟨_, rfl, fin l18 _ _ (by decide) f19⟩

noncomputable abbrev s_law_refused : Stmt := top 45
theorem sc_law_refused : FnScope ["_law_text_here", "_law_caught", "_law_e"] ["_law_text_here"] (defScope s_law_refused) := ⟨rfl, rfl, rfl, by decide +kernel, rfl, by decide +kernel, by decide +kernel⟩
theorem ok_law_refused {P : Program} {w : World} {K : PySem.W.Frag} {mg : Str → Option Value} {base : Heap} {f : Addr} {fd : FuncData} (F : Fun K "_law_refused" "_law_refused" s_law_refused f fd) (gb : Gb mg) {c : Nat → Addr} (cl : Cl K mg c) (d_read_table : Def1 P w K mg base 8 "read_table" ["text"] (spReadW (c 2))) (d_law_alone : Def P w K mg base 1 "_law_alone" ["_law_e", "_law_sort"] (spAlone (c 2))) : FnOk P w K mg base CX0 9 f fd ["_law_text_here"] spRefused := by
  refine F.ok sc_law_refused (fun vs H Q E h => ?_) (fun cdv A outer s H vs Q E hr h => ?_)
  · obtain ⟨v, rfl, _⟩ := h
    rfl
  obtain ⟨v, rfl, hv, q⟩ := h
  refine ⟨_, (@pss_cons _ _ _ _ _ (@ps_set _ _ 1 _ _ _ _ sc_law_refused.nd rfl (Or.inl rfl) (@pe_non _ _ _) (by rfl) (by first | exact .inl rfl | exact .inr rfl | assumption)) (@pss_cons _ _ _ _ _ (@ps_tryAs _ _ _ _ 2 _ _ _ _ _ _ _ _ rfl rfl rfl sc_law_refused.nd rfl rfl rfl cl.g_GradeError (@psx_expr _ _ _ _ (@pex_def _ _ _ _ _ _ _ _ _ _ _ d_read_table hr (by decide) rfl (@pa_cons _ _ _ _ _ (@pv _ 0 _ _ (by rfl) (by first | exact Or.inl rfl | exact Or.inr (Or.inl rfl) | exact Or.inr (Or.inr rfl)) (by decide) (by decide)) (@pa_nil _) (by rfl)) (by decide) (by rfl) (by rfl)) (by rfl)) (fun _ => (@pss_one _ _ _ (@ps_set _ _ 1 _ _ _ _ sc_law_refused.nd rfl (Or.inl rfl) (@pv _ 2 _ _ (by rfl) (by first | exact Or.inl rfl | exact Or.inr (Or.inl rfl) | exact Or.inr (Or.inr rfl)) (by decide) (by decide)) (by rfl) (by first | exact .inl rfl | exact .inr rfl | assumption)))) (by decide)) (@pss_one _ _ _ (@ps_ret _ _ _ _ (@pe_and _ _ _ _ _ _ _ (@pe_cmpR _ _ _ _ _ _ _ _ (@op_notN _) (@pv _ 1 _ _ (by rfl) (by first | exact Or.inl rfl | exact Or.inr (Or.inl rfl) | exact Or.inr (Or.inr rfl)) (by decide) (by decide)) (@pe_non _ _ _) (@nomark _ _ (by decide) (by decide))) (@pe_one _ _ _ _ _ (@pe_def _ _ _ _ _ _ _ _ _ _ _ d_law_alone hr (by decide) rfl (@pa_cons _ _ _ _ _ (@pv _ 1 _ _ (by rfl) (by first | exact Or.inl rfl | exact Or.inr (Or.inl rfl) | exact Or.inr (Or.inr rfl)) (by decide) (by decide)) (@pa_cons _ _ _ _ _ (@pe_int _ _ _ _) (@pa_nil _) (by rfl)) (by rfl)) (by decide) (by rfl) (by rfl)))))))), ?_⟩
  obtain ⟨t, ht, h9, hb⟩ := hv
  refine ⟨_, rfl, t, v, rfl, ht, h9, fun _ H1 s1 => ⟨cl.m_NoTable, fun e he => ?_⟩, fun z => by rw [hb] at z; cases z⟩
  refine ⟨_, rfl, ?_⟩
  refine ⟨_, rfl, rfl, _, rfl, ?_⟩
  refine ite2 (fun c => ?_) (fun c => absurd rfl c)
  exact ⟨_, rfl, e, rfl, upd_same, fun H' s' => q _ (s1.trans ((same_new he _).trans s'))⟩

noncomputable abbrev s_law : Stmt := top 46
theorem sc_law : FnScope ["_law_script", "_law_cell", "_law_table"] ["_law_script"] (defScope s_law) := ⟨rfl, rfl, rfl, by decide +kernel, rfl, by decide +kernel, by decide +kernel⟩
theorem ok_law {P : Program} {w : World} {K : PySem.W.Frag} {mg : Str → Option Value} {base : Heap} {f : Addr} {fd : FuncData} (F : Fun K "law" "law" s_law f fd) (gb : Gb mg) {c : Nat → Addr} (cl : Cl K mg c) (d_law_pool : Def P w K mg base 1 "_law_pool" ["_law_cell"] spPool) (d_law_half : Def P w K mg base 3 "_law_half" ["_law_pool_here", "_law_most", "_law_connectives", "_law_often"] spHalf6) (d_law_odd : Def P w K mg base 3 "_law_odd" ["_law_table"] spOdd) (d_law_refused : Def P w K mg base 9 "_law_refused" ["_law_text_here"] spRefused) (d_read_table : Def1 P w K mg base 8 "read_table" ["text"] (spReadW (c 2))) (d_law_text : Def P w K mg base 2 "_law_text" ["_law_table"] spShow) : FnOk P w K mg base CX0 10 f fd ["_law_script"] (spLaw K) := by
  refine F.ok sc_law (fun vs H Q E h => ?_) (fun cdv A outer s H vs Q E hr h => ?_)
  · obtain ⟨a, ns, rfl, _⟩ := h
    rfl
  obtain ⟨a, ns, rfl, hS, h63, q⟩ := h
  have nd0 : (["_law_text_here"] : List Str).Nodup := by decide +kernel
  refine ⟨_, (@pss_cons _ _ _ _ _ (@ps_for _ _ _ _ _ _ _ _ PassesOwn.never rfl (@kpi_list _ K _ _ _ (@pe_op _ _ _ _ _ _ _ _ (@op_cat _) (@pe_lst _ _ _ _ (@pa_cons _ _ _ _ _ (@pe_int _ _ _ _) (@pa_nil _) (by rfl))) (@pe_slice _ _ _ _ _ _ _ _ _ _ (@ksl_any _ K (by rfl)) (@pv _ 0 _ _ (by rfl) (by first | exact Or.inl rfl | exact Or.inr (Or.inl rfl) | exact Or.inr (Or.inr rfl)) (by decide) (by decide)) (@po_none _) (@po_some _ _ _ (@pe_int _ _ _ _)))) (by rfl)) (@pg_name _ _ 1 _ sc_law.nd rfl (Or.inl rfl) (by first | exact .inl rfl | exact .inr rfl | assumption)) (@pss_cons _ _ _ _ _ (@ps_set _ _ 2 _ _ _ _ sc_law.nd rfl (Or.inl rfl) (@pe_def _ _ _ _ _ _ _ _ _ _ _ d_law_half hr (by decide) rfl (@pa_cons _ _ _ _ _ (@pe_def _ _ _ _ _ _ _ _ _ _ _ d_law_pool hr (by decide) rfl (@pa_cons _ _ _ _ _ (@pv _ 1 _ _ (by rfl) (by first | exact Or.inl rfl | exact Or.inr (Or.inl rfl) | exact Or.inr (Or.inr rfl)) (by decide) (by decide)) (@pa_nil _) (by rfl)) (by decide) (by rfl) (by rfl)) (@pa_cons _ _ _ _ _ (@pe_int _ _ _ _) (@pa_cons _ _ _ _ _ (@pe_int _ _ _ _) (@pa_cons _ _ _ _ _ (@pe_int _ _ _ _) (@pa_nil _) (by rfl)) (by rfl)) (by rfl)) (by rfl)) (by decide) (by rfl) (by rfl)) (by rfl) (by first | exact .inl rfl | exact .inr rfl | assumption)) (@pss_cons _ _ _ _ _ (@ps_if _ _ _ _ _ _ _ _ (@pt_not _ _ _ _ (@pt_val _ _ _ (@pe_callB _ _ _ _ _ _ _ _ _ (@kcall_all _ K rfl (by rfl)) rfl gb.all bt_all (@pa_cons _ _ _ _ _ (@pe_comp _ ["_law_text_here"] [none] _ _ _ _ _ _ _ _ _ _ (by exact (show CompOk ["_law_script", "_law_cell", "_law_table"] (defScope s_law) ["_law_text_here"] [none] _ from ⟨rfl, by decide +kernel, by decide +kernel, by decide +kernel, by decide +kernel, rfl, by decide +kernel⟩)) rfl (@kpi_list _ K _ _ _ (@pe_def _ _ _ _ _ _ _ _ _ _ _ d_law_odd hr (by decide) rfl (@pa_cons _ _ _ _ _ (@pv _ 2 _ _ (by rfl) (by first | exact Or.inl rfl | exact Or.inr (Or.inl rfl) | exact Or.inr (Or.inr rfl)) (by decide) (by decide)) (@pa_nil _) (by rfl)) (by decide) (by rfl) (by rfl)) (by rfl)) (fun _ _ _ _ => (@pg_name _ _ 0 _ nd0 rfl (Or.inl rfl) (by first | exact .inl rfl | exact .inr rfl | assumption))) (fun _ _ _ _ => (@pf_nil _)) (fun _ _ _ _ => (@pe_def _ _ _ _ _ _ _ _ _ _ _ d_law_refused hr (by decide) rfl (@pa_cons _ _ _ _ _ (@pv _ 0 _ _ (by rfl) (by first | exact Or.inl rfl | exact Or.inr (Or.inl rfl) | exact Or.inr (Or.inr rfl)) (by decide) (by decide)) (@pa_nil _) (by rfl)) (by decide) (by rfl) (by rfl))) (by intro _; rfl)) (@pa_nil _) (by rfl)) (by decide) (by decide) (by rfl) (by rfl)) (by intro _; rfl))) (@pss_one _ _ _ (@ps_ret _ _ _ _ (@pe_bl _ _ _ _))) (@pss_nil _)) (@pss_one _ _ _ (@ps_if _ _ _ _ _ _ _ _ (@pt_cmpR _ _ _ _ _ _ _ _ (@op_neD _ 3 _ hr (by decide)) (@pe_def1 _ _ _ _ _ _ _ _ _ _ _ d_read_table hr (by decide) rfl (@pa_cons _ _ _ _ _ (@pe_def _ _ _ _ _ _ _ _ _ _ _ d_law_text hr (by decide) rfl (@pa_cons _ _ _ _ _ (@pv _ 2 _ _ (by rfl) (by first | exact Or.inl rfl | exact Or.inr (Or.inl rfl) | exact Or.inr (Or.inr rfl)) (by decide) (by decide)) (@pa_nil _) (by rfl)) (by decide) (by rfl) (by rfl)) (@pa_nil _) (by rfl)) (by decide) (by rfl) (by rfl)) (@pv _ 2 _ _ (by rfl) (by first | exact Or.inl rfl | exact Or.inr (Or.inl rfl) | exact Or.inr (Or.inr rfl)) (by decide) (by decide)) (@nomark _ _ (by decide) (by decide))) (@pss_one _ _ _ (@ps_ret _ _ _ _ (@pe_bl _ _ _ _))) (@pss_nil _))))) (by intro _; rfl)) (@pss_one _ _ _ (@ps_ret _ _ _ _ (@pe_bl _ _ _ _)))), ?_⟩
  refine ⟨small9 (by show 1 ≤ 1000; decide), fun z hz => ?_⟩
  have hS1 : SqL K (upd H z (.lst [.int 0])) a (ns.map V.int) := (same_new hz _).seq hS
  refine ⟨_, rfl, _, rfl, .inl ⟨a, _, rfl, hS1, fun y hy => ?_⟩⟩
  obtain ⟨ms, em⟩ := cut_ints ns none (some 10)
  have hml : ms.length ≤ 63 := by
    have h1 := cutV_length (ns.map V.int) none (some 10)
    rw [em, List.length_map, List.length_map] at h1
    walk_at "om"
  rw [em] at *
  have zy : z ≠ y := fun e => by
    rw [← e, upd_same] at hy
    cases hy
  refine ⟨z, y, _, _, rfl, rfl, by rw [upd_ne zy]; exact upd_same, upd_same, ?_, fun l hl => ?_⟩
  · rw [List.length_map]
    exact small9 (by show 1 + ms.length ≤ 1000; walk_at "om")
  rw [cat_ints]
  refine ⟨l, rfl, ⟨_, SqL.of upd_same⟩, ?_⟩
  refine for_list (xs := (0 :: ms).map V.int) (fun _ σ H' => σ.length = 3 ∧ H' l = some (.lst ((0 :: ms).map V.int))) ⟨rfl, upd_same⟩ (fun i σ H' _ h => SqL.of h.2) ?_ ?_
  · rintro i x σ H' hx ⟨hσ, hl'⟩
    rw [List.getElem?_map] at hx
    obtain ⟨c, _, rfl⟩ := Option.map_eq_some_iff.mp hx
    match σ, hσ with
    | [s0, s1, s2], _ =>
    refine ⟨_, rfl, c, rfl, fun p r a1 b1 hp => ?_⟩
    have lp : l ≠ p := ne_of_none hl' hp
    have p1 : Pool (upd H' p (.lst [.int r, .int a1, .int b1])) p := Pool.put
    refine ⟨p, 4, 4, 0, rfl, p1, by decide, by decide, by decide, by decide, by decide, by decide, fun v T H3 o3 p3 ih g fu0 m4 c4 => ?_⟩
    have fu := fu0 rfl
    have hl3 : H3 l = some (.lst ((0 :: ms).map V.int)) := o3 _ _ lp (by rw [upd_ne lp]; exact hl')
    refine ⟨_, rfl, v, T, rfl, ih, g, fu, m4, by walk_at "om", fun H4 L ys s4 hL hyn hodd => ?_⟩
    refine ⟨L, rfl, ⟨_, SqL.of hL⟩, fun D hD => ?_⟩
    refine map_list ys id (fun _ => .bl true) (by rw [List.map_id]; exact hL) hyn hD (fun y hy H' Q' s5 q' => ?_) (fun H5 s5 hD5 => ?_)
    · exact ⟨_, rfl, y, rfl, (hodd y hy).same s5, q'⟩
    rw [trues] at hD5
    refine ⟨D, _, rfl, SqL.of hD5, _, rfl, ?_⟩
    rw [all_trues]
    have ih5 := (ih.same s4).same s5
    refine ⟨_, rfl, v, T, rfl, ih5, g, fu, fun H6 s6 => ?_⟩
    obtain ⟨tl, _⟩ := text4 g m4 (by walk_at "om")
    refine ⟨.str (textT T), _, rfl, .str _ (by walk_at "om"), fun x e => (by cases e; walk_at "om"), fun z => (by rw [read_yes g fu] at z; cases z), fun _ H7 v' s7 hv' => ?_⟩
    have e7 : tableTh (parse (strTh (.str (textT T)))) = thT T := by show tableTh (parse (textT T)) = _; rw [parse_text g, table_text g fu]
    rw [e7] at hv'
    have ih7 := (ih5.same s6).same s7
    obtain ⟨ta, tw, tc, vs, rfl, j1, j2, j3, j4⟩ := id ih7
    obtain ⟨_, _, tt⟩ := half_th g j1 j2 j3 j4
    have al := alike_th 4 (ok_table T) hv' tt
    rcases al with ⟨e0, z⟩ | ⟨a', b', xs', ys', rfl, e2, k1, k2, pr⟩
    · rw [e0] at z
      cases z
    cases e2
    refine ⟨_, rfl, a', _, xs', ys', rfl, rfl, k1, k2, pr, _, rfl, ?_⟩
    exact ⟨rfl, s7 _ _ (s6 _ _ (s5 _ _ (s4 _ _ hl3)))⟩
  · rintro σ H' ⟨hσ, hl'⟩
    exact q H'

theorem lenK1 {α : Type} : ∀ {us : List α}, us.length = 1 → ∃ x0, us = [x0]
  | [x0], _ => ⟨x0, rfl⟩
theorem lenK2 {α : Type} : ∀ {us : List α}, us.length = 2 → ∃ x0 x1, us = [x0, x1]
  | [x0, x1], _ => ⟨x0, x1, rfl⟩
theorem lenK3 {α : Type} : ∀ {us : List α}, us.length = 3 → ∃ x0 x1 x2, us = [x0, x1, x2]
  | [x0, x1, x2], _ => ⟨x0, x1, x2, rfl⟩
theorem lenK4 {α : Type} : ∀ {us : List α}, us.length = 4 → ∃ x0 x1 x2 x3, us = [x0, x1, x2, x3]
  | [x0, x1, x2, x3], _ => ⟨x0, x1, x2, x3, rfl⟩
theorem all_mk {l : PySem.W.OpenLaw} {w : World} {K : PySem.W.Frag} {h : Heap} {mg : Str → Option Value} {fa f0 f1 f2 f3 f4 f5 f6 f7 f8 f9 f10 f11 f12 f13 f14 f15 f16 f17 f18 f19 f20 f21 f22 f23 f24 f25 f26 : Addr} (X : K.In h) (G : h.Ns mainGlobals mg) (hfa : mg "law" = some (.ref fa))
    {od0 an0 od1 an1 od2 an2 od3 an3 od4 an4 od5 an5 od6 an6 od7 an7 od8 an8 od9 an9 od10 an10 od11 an11 od12 an12 od13 an13 od14 an14 od15 an15 od16 an16 od17 an17 od18 an18 od19 an19 od20 an20 od21 an21 od22 an22 od23 an23 od24 an24 od25 an25 od26 an26 : Option Addr} {sl0 sl1 sl2 sl3 sl4 sl5 sl6 sl7 sl8 sl9 sl10 sl11 sl12 sl13 sl14 sl15 sl16 sl17 sl18 sl19 sl20 sl21 sl22 sl23 sl24 sl25 sl26 : Array (Option Value)} {oc0 kV0 dc0 pm0 cd0 ct0 oc1 kV1 dc1 pm1 cd1 ct1 oc2 kV2 dc2 pm2 cd2 ct2 oc3 kV3 dc3 pm3 cd3 ct3 oc4 kV4 dc4 pm4 cd4 ct4 oc5 kV5 dc5 pm5 cd5 ct5 oc6 kV6 dc6 pm6 cd6 ct6 oc7 kV7 dc7 pm7 cd7 ct7 oc8 kV8 dc8 pm8 cd8 ct8 oc9 kV9 dc9 pm9 cd9 ct9 oc10 kV10 dc10 pm10 cd10 ct10 oc11 kV11 dc11 pm11 cd11 ct11 oc12 kV12 dc12 pm12 cd12 ct12 oc13 kV13 dc13 pm13 cd13 ct13 oc14 kV14 dc14 pm14 cd14 ct14 oc15 kV15 dc15 pm15 cd15 ct15 oc16 kV16 dc16 pm16 cd16 ct16 oc17 kV17 dc17 pm17 cd17 ct17 oc18 kV18 dc18 pm18 cd18 ct18 oc19 kV19 dc19 pm19 cd19 ct19 oc20 kV20 dc20 pm20 cd20 ct20 oc21 kV21 dc21 pm21 cd21 ct21 oc22 kV22 dc22 pm22 cd22 ct22 oc23 kV23 dc23 pm23 cd23 ct23 oc24 kV24 dc24 pm24 cd24 ct24 oc25 kV25 dc25 pm25 cd25 ct25 oc26 kV26 dc26 pm26 cd26 ct26 : Value}
    (a0 : PySem.W.nsIn K mainGlobals "_law_draw" = some (some (.ref f0))) (l0 : K.lookup f0 = some ⟨oc0, od0, .func (PySem.W.fnOf "_law_draw" "_law_draw" (defArgs s_law_draw) (defBody s_law_draw) (defScope s_law_draw) .none kV0 dc0 pm0 an0 cd0 ct0), sl0⟩) (c0 : PySem.W.codeIn K cd0 "_law_draw" = true) (k0 : PySem.W.keepIn K (.ref f0) = true)
    (a1 : PySem.W.nsIn K mainGlobals "_law_pool" = some (some (.ref f1))) (l1 : K.lookup f1 = some ⟨oc1, od1, .func (PySem.W.fnOf "_law_pool" "_law_pool" (defArgs s_law_pool) (defBody s_law_pool) (defScope s_law_pool) .none kV1 dc1 pm1 an1 cd1 ct1), sl1⟩) (c1 : PySem.W.codeIn K cd1 "_law_pool" = true) (k1 : PySem.W.keepIn K (.ref f1) = true)
    (a2 : PySem.W.nsIn K mainGlobals "_law_name" = some (some (.ref f2))) (l2 : K.lookup f2 = some ⟨oc2, od2, .func (PySem.W.fnOf "_law_name" "_law_name" (defArgs s_law_name) (defBody s_law_name) (defScope s_law_name) .none kV2 dc2 pm2 an2 cd2 ct2), sl2⟩) (c2 : PySem.W.codeIn K cd2 "_law_name" = true) (k2 : PySem.W.keepIn K (.ref f2) = true)
    (a3 : PySem.W.nsIn K mainGlobals "_law_cells" = some (some (.ref f3))) (l3 : K.lookup f3 = some ⟨oc3, od3, .func (PySem.W.fnOf "_law_cells" "_law_cells" (defArgs s_law_cells) (defBody s_law_cells) (defScope s_law_cells) .none kV3 dc3 pm3 an3 cd3 ct3), sl3⟩) (c3 : PySem.W.codeIn K cd3 "_law_cells" = true) (k3 : PySem.W.keepIn K (.ref f3) = true)
    (a4 : PySem.W.nsIn K mainGlobals "_law_half" = some (some (.ref f4))) (l4 : K.lookup f4 = some ⟨oc4, od4, .func (PySem.W.fnOf "_law_half" "_law_half" (defArgs s_law_half) (defBody s_law_half) (defScope s_law_half) .none kV4 dc4 pm4 an4 cd4 ct4), sl4⟩) (c4 : PySem.W.codeIn K cd4 "_law_half" = true) (k4 : PySem.W.keepIn K (.ref f4) = true)
    (a5 : PySem.W.nsIn K mainGlobals "power" = some (some (.ref f5))) (l5 : K.lookup f5 = some ⟨oc5, od5, .func (PySem.W.fnOf "power" "power" (defArgs s_power) (defBody s_power) (defScope s_power) .none kV5 dc5 pm5 an5 cd5 ct5), sl5⟩) (c5 : PySem.W.codeIn K cd5 "power" = true) (k5 : PySem.W.keepIn K (.ref f5) = true)
    (a6 : PySem.W.nsIn K mainGlobals "count_nones" = some (some (.ref f6))) (l6 : K.lookup f6 = some ⟨oc6, od6, .func (PySem.W.fnOf "count_nones" "count_nones" (defArgs s_count_nones) (defBody s_count_nones) (defScope s_count_nones) .none kV6 dc6 pm6 an6 cd6 ct6), sl6⟩) (c6 : PySem.W.codeIn K cd6 "count_nones" = true) (k6 : PySem.W.keepIn K (.ref f6) = true)
    (a7 : PySem.W.nsIn K mainGlobals "is_whole" = some (some (.ref f7))) (l7 : K.lookup f7 = some ⟨oc7, od7, .func (PySem.W.fnOf "is_whole" "is_whole" (defArgs s_is_whole) (defBody s_is_whole) (defScope s_is_whole) .none kV7 dc7 pm7 an7 cd7 ct7), sl7⟩) (c7 : PySem.W.codeIn K cd7 "is_whole" = true) (k7 : PySem.W.keepIn K (.ref f7) = true)
    (a8 : PySem.W.nsIn K mainGlobals "has_small_letters_alone" = some (some (.ref f8))) (l8 : K.lookup f8 = some ⟨oc8, od8, .func (PySem.W.fnOf "has_small_letters_alone" "has_small_letters_alone" (defArgs s_has_small_letters_alone) (defBody s_has_small_letters_alone) (defScope s_has_small_letters_alone) .none kV8 dc8 pm8 an8 cd8 ct8), sl8⟩) (c8 : PySem.W.codeIn K cd8 "has_small_letters_alone" = true) (k8 : PySem.W.keepIn K (.ref f8) = true)
    (a9 : PySem.W.nsIn K mainGlobals "is_name" = some (some (.ref f9))) (l9 : K.lookup f9 = some ⟨oc9, od9, .func (PySem.W.fnOf "is_name" "is_name" (defArgs s_is_name) (defBody s_is_name) (defScope s_is_name) .none kV9 dc9 pm9 an9 cd9 ct9), sl9⟩) (c9 : PySem.W.codeIn K cd9 "is_name" = true) (k9 : PySem.W.keepIn K (.ref f9) = true)
    (a10 : PySem.W.nsIn K mainGlobals "is_grade" = some (some (.ref f10))) (l10 : K.lookup f10 = some ⟨oc10, od10, .func (PySem.W.fnOf "is_grade" "is_grade" (defArgs s_is_grade) (defBody s_is_grade) (defScope s_is_grade) .none kV10 dc10 pm10 an10 cd10 ct10), sl10⟩) (c10 : PySem.W.codeIn K cd10 "is_grade" = true) (k10 : PySem.W.keepIn K (.ref f10) = true)
    (a11 : PySem.W.nsIn K mainGlobals "are_rising_grades" = some (some (.ref f11))) (l11 : K.lookup f11 = some ⟨oc11, od11, .func (PySem.W.fnOf "are_rising_grades" "are_rising_grades" (defArgs s_are_rising_grades) (defBody s_are_rising_grades) (defScope s_are_rising_grades) .none kV11 dc11 pm11 an11 cd11 ct11), sl11⟩) (c11 : PySem.W.codeIn K cd11 "are_rising_grades" = true) (k11 : PySem.W.keepIn K (.ref f11) = true)
    (a12 : PySem.W.nsIn K mainGlobals "are_cells" = some (some (.ref f12))) (l12 : K.lookup f12 = some ⟨oc12, od12, .func (PySem.W.fnOf "are_cells" "are_cells" (defArgs s_are_cells) (defBody s_are_cells) (defScope s_are_cells) .none kV12 dc12 pm12 an12 cd12 ct12), sl12⟩) (c12 : PySem.W.codeIn K cd12 "are_cells" = true) (k12 : PySem.W.keepIn K (.ref f12) = true)
    (a13 : PySem.W.nsIn K mainGlobals "is_connective" = some (some (.ref f13))) (l13 : K.lookup f13 = some ⟨oc13, od13, .func (PySem.W.fnOf "is_connective" "is_connective" (defArgs s_is_connective) (defBody s_is_connective) (defScope s_is_connective) .none kV13 dc13 pm13 an13 cd13 ct13), sl13⟩) (c13 : PySem.W.codeIn K cd13 "is_connective" = true) (k13 : PySem.W.keepIn K (.ref f13) = true)
    (a14 : PySem.W.nsIn K mainGlobals "are_connectives" = some (some (.ref f14))) (l14 : K.lookup f14 = some ⟨oc14, od14, .func (PySem.W.fnOf "are_connectives" "are_connectives" (defArgs s_are_connectives) (defBody s_are_connectives) (defScope s_are_connectives) .none kV14 dc14 pm14 an14 cd14 ct14), sl14⟩) (c14 : PySem.W.codeIn K cd14 "are_connectives" = true) (k14 : PySem.W.keepIn K (.ref f14) = true)
    (a15 : PySem.W.nsIn K mainGlobals "is_half" = some (some (.ref f15))) (l15 : K.lookup f15 = some ⟨oc15, od15, .func (PySem.W.fnOf "is_half" "is_half" (defArgs s_is_half) (defBody s_is_half) (defScope s_is_half) .none kV15 dc15 pm15 an15 cd15 ct15), sl15⟩) (c15 : PySem.W.codeIn K cd15 "is_half" = true) (k15 : PySem.W.keepIn K (.ref f15) = true)
    (a16 : PySem.W.nsIn K mainGlobals "is_table" = some (some (.ref f16))) (l16 : K.lookup f16 = some ⟨oc16, od16, .func (PySem.W.fnOf "is_table" "is_table" (defArgs s_is_table) (defBody s_is_table) (defScope s_is_table) .none kV16 dc16 pm16 an16 cd16 ct16), sl16⟩) (c16 : PySem.W.codeIn K cd16 "is_table" = true) (k16 : PySem.W.keepIn K (.ref f16) = true)
    (a17 : PySem.W.nsIn K mainGlobals "number_of" = some (some (.ref f17))) (l17 : K.lookup f17 = some ⟨oc17, od17, .func (PySem.W.fnOf "number_of" "number_of" (defArgs s_number_of) (defBody s_number_of) (defScope s_number_of) .none kV17 dc17 pm17 an17 cd17 ct17), sl17⟩) (c17 : PySem.W.codeIn K cd17 "number_of" = true) (k17 : PySem.W.keepIn K (.ref f17) = true)
    (a18 : PySem.W.nsIn K mainGlobals "numbers_of" = some (some (.ref f18))) (l18 : K.lookup f18 = some ⟨oc18, od18, .func (PySem.W.fnOf "numbers_of" "numbers_of" (defArgs s_numbers_of) (defBody s_numbers_of) (defScope s_numbers_of) .none kV18 dc18 pm18 an18 cd18 ct18), sl18⟩) (c18 : PySem.W.codeIn K cd18 "numbers_of" = true) (k18 : PySem.W.keepIn K (.ref f18) = true)
    (a19 : PySem.W.nsIn K mainGlobals "connective_of" = some (some (.ref f19))) (l19 : K.lookup f19 = some ⟨oc19, od19, .func (PySem.W.fnOf "connective_of" "connective_of" (defArgs s_connective_of) (defBody s_connective_of) (defScope s_connective_of) .none kV19 dc19 pm19 an19 cd19 ct19), sl19⟩) (c19 : PySem.W.codeIn K cd19 "connective_of" = true) (k19 : PySem.W.keepIn K (.ref f19) = true)
    (a20 : PySem.W.nsIn K mainGlobals "table_of" = some (some (.ref f20))) (l20 : K.lookup f20 = some ⟨oc20, od20, .func (PySem.W.fnOf "table_of" "table_of" (defArgs s_table_of) (defBody s_table_of) (defScope s_table_of) .none kV20 dc20 pm20 an20 cd20 ct20), sl20⟩) (c20 : PySem.W.codeIn K cd20 "table_of" = true) (k20 : PySem.W.keepIn K (.ref f20) = true)
    (a21 : PySem.W.nsIn K mainGlobals "read_table" = some (some (.ref f21))) (l21 : K.lookup f21 = some ⟨oc21, od21, .func (PySem.W.fnOf "read_table" "read_table" (defArgs s_read_table) (defBody s_read_table) (defScope s_read_table) .none kV21 dc21 pm21 an21 cd21 ct21), sl21⟩) (c21 : PySem.W.codeIn K cd21 "read_table" = true) (k21 : PySem.W.keepIn K (.ref f21) = true)
    (a22 : PySem.W.nsIn K mainGlobals "_law_text" = some (some (.ref f22))) (l22 : K.lookup f22 = some ⟨oc22, od22, .func (PySem.W.fnOf "_law_text" "_law_text" (defArgs s_law_text) (defBody s_law_text) (defScope s_law_text) .none kV22 dc22 pm22 an22 cd22 ct22), sl22⟩) (c22 : PySem.W.codeIn K cd22 "_law_text" = true) (k22 : PySem.W.keepIn K (.ref f22) = true)
    (a23 : PySem.W.nsIn K mainGlobals "_law_alone" = some (some (.ref f23))) (l23 : K.lookup f23 = some ⟨oc23, od23, .func (PySem.W.fnOf "_law_alone" "_law_alone" (defArgs s_law_alone) (defBody s_law_alone) (defScope s_law_alone) .none kV23 dc23 pm23 an23 cd23 ct23), sl23⟩) (c23 : PySem.W.codeIn K cd23 "_law_alone" = true) (k23 : PySem.W.keepIn K (.ref f23) = true)
    (a24 : PySem.W.nsIn K mainGlobals "_law_odd" = some (some (.ref f24))) (l24 : K.lookup f24 = some ⟨oc24, od24, .func (PySem.W.fnOf "_law_odd" "_law_odd" (defArgs s_law_odd) (defBody s_law_odd) (defScope s_law_odd) .none kV24 dc24 pm24 an24 cd24 ct24), sl24⟩) (c24 : PySem.W.codeIn K cd24 "_law_odd" = true) (k24 : PySem.W.keepIn K (.ref f24) = true)
    (a25 : PySem.W.nsIn K mainGlobals "_law_refused" = some (some (.ref f25))) (l25 : K.lookup f25 = some ⟨oc25, od25, .func (PySem.W.fnOf "_law_refused" "_law_refused" (defArgs s_law_refused) (defBody s_law_refused) (defScope s_law_refused) .none kV25 dc25 pm25 an25 cd25 ct25), sl25⟩) (c25 : PySem.W.codeIn K cd25 "_law_refused" = true) (k25 : PySem.W.keepIn K (.ref f25) = true)
    (a26 : PySem.W.nsIn K mainGlobals "law" = some (some (.ref f26))) (l26 : K.lookup f26 = some ⟨oc26, od26, .func (PySem.W.fnOf "law" "law" (defArgs s_law) (defBody s_law) (defScope s_law) .none kV26 dc26 pm26 an26 cd26 ct26), sl26⟩) (c26 : PySem.W.codeIn K cd26 "law" = true) (k26 : PySem.W.keepIn K (.ref f26) = true)
    (z0 : PySem.W.nsIn K mainGlobals "abs" = some none)
    (z1 : PySem.W.nsIn K mainGlobals "range" = some none)
    (z2 : PySem.W.nsIn K mainGlobals "tuple" = some none)
    (z3 : PySem.W.nsIn K mainGlobals "sum" = some none)
    (z4 : PySem.W.nsIn K mainGlobals "isinstance" = some none)
    (z5 : PySem.W.nsIn K mainGlobals "int" = some none)
    (z6 : PySem.W.nsIn K mainGlobals "bool" = some none)
    (z7 : PySem.W.nsIn K mainGlobals "str" = some none)
    (z8 : PySem.W.nsIn K mainGlobals "len" = some none)
    (z9 : PySem.W.nsIn K mainGlobals "all" = some none)
    (z10 : PySem.W.nsIn K mainGlobals "zip" = some none)
    (z11 : PySem.W.nsIn K mainGlobals "set" = some none)
    (z12 : PySem.W.nsIn K mainGlobals "ValueError" = some none)
    {yt0 : Tok} (y0 : PySem.W.nsIn K mainGlobals "MOST_GRADES" = some (some (.int 9 yt0)))
    {yt1 : Tok} (y1 : PySem.W.nsIn K mainGlobals "MOST_PLACES" = some (some (.int 2 yt1)))
    {yt2 : Tok} (y2 : PySem.W.nsIn K mainGlobals "MOST_CONNECTIVES" = some (some (.int 8 yt2)))
    {yt3 : Tok} (y3 : PySem.W.nsIn K mainGlobals "FIGURES" = some (some (.str figures yt3)))
    (g0 : PySem.W.nsIn K mainGlobals "GradeError" = some (some (.ref cc0)))
    (g1 : PySem.W.nsIn K mainGlobals "NoFraction" = some (some (.ref cc1)))
    (g2 : PySem.W.nsIn K mainGlobals "NoTable" = some (some (.ref cc2)))
    (g3 : PySem.W.nsIn K mainGlobals "NoName" = some (some (.ref cc3)))
    (g4 : PySem.W.nsIn K mainGlobals "NoSaying" = some (some (.ref cc4)))
    (g5 : PySem.W.nsIn K mainGlobals "NoLetter" = some (some (.ref cc5)))
    (g6 : PySem.W.nsIn K mainGlobals "TooMany" = some (some (.ref cc6)))
    (g7 : PySem.W.nsIn K mainGlobals "NoKind" = some (some (.ref cc7)))
    (g8 : PySem.W.nsIn K mainGlobals "NoCount" = some (some (.ref cc8)))
    (g9 : PySem.W.nsIn K mainGlobals "NoRow" = some (some (.ref cc9)))
    (g10 : PySem.W.nsIn K mainGlobals "NoKept" = some (some (.ref cc10)))
    (w0 : PySem.W.excIn K cc2 [.type "ValueError", .type "Exception", .type "BaseException", .type "object"] "ValueError.__new__" = true)
    (w1 : PySem.W.exmOne K (.ref cc2) (.ref cc0) = some true)
    (w2 : excLook K cc2 = true)
    (w3 : PySem.W.kitOne K (.ref cc2) (.type "ValueError") = some true)
    (w4 : PySem.W.kitOne K (.ref cc2) (.ref cc1) = some false)
    (w5 : PySem.W.kitOne K (.ref cc2) (.ref cc2) = some true)
    (w6 : PySem.W.kitOne K (.ref cc2) (.ref cc3) = some false)
    (w7 : PySem.W.kitOne K (.ref cc2) (.ref cc4) = some false)
    (w8 : PySem.W.kitOne K (.ref cc2) (.ref cc5) = some false)
    (w9 : PySem.W.kitOne K (.ref cc2) (.ref cc6) = some false)
    (w10 : PySem.W.kitOne K (.ref cc2) (.ref cc7) = some false)
    (w11 : PySem.W.kitOne K (.ref cc2) (.ref cc8) = some false)
    (w12 : PySem.W.kitOne K (.ref cc2) (.ref cc9) = some false)
    (w13 : PySem.W.kitOne K (.ref cc2) (.ref cc10) = some false)
    : ∃ fd : FuncData, (∀ (s : Shared) (v : Value), BindsTo s fd ⟨[v], []⟩ [("_law_script", v)]) ∧ ∀ base : Heap, K.In base → base.Ns mainGlobals mg → FnOk l.prog w K mg base CX0 10 fa fd ["_law_script"] (spLaw K) := by
  have e := hfa.symm.trans (PySem.W.mg_of X G a26)
  cases e
  have F0 := fun_mk (st := s_law_draw) l0 c0 k0
  have b0 := F0.binds (ps := ["_law_pool_here", "_law_many"]) fun _ _ _ _ _ _ us hl => by obtain ⟨z0_, z1_, rfl⟩ := lenK2 hl; rfl
  have F1 := fun_mk (st := s_law_pool) l1 c1 k1
  have b1 := F1.binds (ps := ["_law_cell"]) fun _ _ _ _ _ _ us hl => by obtain ⟨z0_, rfl⟩ := lenK1 hl; rfl
  have F2 := fun_mk (st := s_law_name) l2 c2 k2
  have b2 := F2.binds (ps := ["_law_pool_here", "_law_names"]) fun _ _ _ _ _ _ us hl => by obtain ⟨z0_, z1_, rfl⟩ := lenK2 hl; rfl
  have F3 := fun_mk (st := s_law_cells) l3 c3 k3
  have b3 := F3.binds (ps := ["_law_pool_here", "_law_many", "_law_places", "_law_often"]) fun _ _ _ _ _ _ us hl => by obtain ⟨z0_, z1_, z2_, z3_, rfl⟩ := lenK4 hl; rfl
  have F4 := fun_mk (st := s_law_half) l4 c4 k4
  have b4 := F4.binds (ps := ["_law_pool_here", "_law_most", "_law_connectives", "_law_often"]) fun _ _ _ _ _ _ us hl => by obtain ⟨z0_, z1_, z2_, z3_, rfl⟩ := lenK4 hl; rfl
  have F5 := fun_mk (st := s_power) l5 c5 k5
  have b5 := F5.binds (ps := ["base", "exponent"]) fun _ _ _ _ _ _ us hl => by obtain ⟨z0_, z1_, rfl⟩ := lenK2 hl; rfl
  have F6 := fun_mk (st := s_count_nones) l6 c6 k6
  have b6 := F6.binds (ps := ["H"]) fun _ _ _ _ _ _ us hl => by obtain ⟨z0_, rfl⟩ := lenK1 hl; rfl
  have F7 := fun_mk (st := s_is_whole) l7 c7 k7
  have b7 := F7.binds (ps := ["thing"]) fun _ _ _ _ _ _ us hl => by obtain ⟨z0_, rfl⟩ := lenK1 hl; rfl
  have F8 := fun_mk (st := s_has_small_letters_alone) l8 c8 k8
  have b8 := F8.binds (ps := ["text"]) fun _ _ _ _ _ _ us hl => by obtain ⟨z0_, rfl⟩ := lenK1 hl; rfl
  have F9 := fun_mk (st := s_is_name) l9 c9 k9
  have b9 := F9.binds (ps := ["thing"]) fun _ _ _ _ _ _ us hl => by obtain ⟨z0_, rfl⟩ := lenK1 hl; rfl
  have F10 := fun_mk (st := s_is_grade) l10 c10 k10
  have b10 := F10.binds (ps := ["thing", "many"]) fun _ _ _ _ _ _ us hl => by obtain ⟨z0_, z1_, rfl⟩ := lenK2 hl; rfl
  have F11 := fun_mk (st := s_are_rising_grades) l11 c11 k11
  have b11 := F11.binds (ps := ["thing", "many"]) fun _ _ _ _ _ _ us hl => by obtain ⟨z0_, z1_, rfl⟩ := lenK2 hl; rfl
  have F12 := fun_mk (st := s_are_cells) l12 c12 k12
  have b12 := F12.binds (ps := ["thing", "many", "length"]) fun _ _ _ _ _ _ us hl => by obtain ⟨z0_, z1_, z2_, rfl⟩ := lenK3 hl; rfl
  have F13 := fun_mk (st := s_is_connective) l13 c13 k13
  have b13 := F13.binds (ps := ["thing", "many"]) fun _ _ _ _ _ _ us hl => by obtain ⟨z0_, z1_, rfl⟩ := lenK2 hl; rfl
  have F14 := fun_mk (st := s_are_connectives) l14 c14 k14
  have b14 := F14.binds (ps := ["thing", "many"]) fun _ _ _ _ _ _ us hl => by obtain ⟨z0_, z1_, rfl⟩ := lenK2 hl; rfl
  have F15 := fun_mk (st := s_is_half) l15 c15 k15
  have b15 := F15.binds (ps := ["thing"]) fun _ _ _ _ _ _ us hl => by obtain ⟨z0_, rfl⟩ := lenK1 hl; rfl
  have F16 := fun_mk (st := s_is_table) l16 c16 k16
  have b16 := F16.binds (ps := ["thing"]) fun _ _ _ _ _ _ us hl => by obtain ⟨z0_, rfl⟩ := lenK1 hl; rfl
  have F17 := fun_mk (st := s_number_of) l17 c17 k17
  have b17 := F17.binds (ps := ["word"]) fun _ _ _ _ _ _ us hl => by obtain ⟨z0_, rfl⟩ := lenK1 hl; rfl
  have F18 := fun_mk (st := s_numbers_of) l18 c18 k18
  have b18 := F18.binds (ps := ["words"]) fun _ _ _ _ _ _ us hl => by obtain ⟨z0_, rfl⟩ := lenK1 hl; rfl
  have F19 := fun_mk (st := s_connective_of) l19 c19 k19
  have b19 := F19.binds (ps := ["words"]) fun _ _ _ _ _ _ us hl => by obtain ⟨z0_, rfl⟩ := lenK1 hl; rfl
  have F20 := fun_mk (st := s_table_of) l20 c20 k20
  have b20 := F20.binds (ps := ["parts"]) fun _ _ _ _ _ _ us hl => by obtain ⟨z0_, rfl⟩ := lenK1 hl; rfl
  have F21 := fun_mk (st := s_read_table) l21 c21 k21
  have b21 := F21.binds (ps := ["text"]) fun _ _ _ _ _ _ us hl => by obtain ⟨z0_, rfl⟩ := lenK1 hl; rfl
  have F22 := fun_mk (st := s_law_text) l22 c22 k22
  have b22 := F22.binds (ps := ["_law_table"]) fun _ _ _ _ _ _ us hl => by obtain ⟨z0_, rfl⟩ := lenK1 hl; rfl
  have F23 := fun_mk (st := s_law_alone) l23 c23 k23
  have b23 := F23.binds (ps := ["_law_e", "_law_sort"]) fun _ _ _ _ _ _ us hl => by obtain ⟨z0_, z1_, rfl⟩ := lenK2 hl; rfl
  have F24 := fun_mk (st := s_law_odd) l24 c24 k24
  have b24 := F24.binds (ps := ["_law_table"]) fun _ _ _ _ _ _ us hl => by obtain ⟨z0_, rfl⟩ := lenK1 hl; rfl
  have F25 := fun_mk (st := s_law_refused) l25 c25 k25
  have b25 := F25.binds (ps := ["_law_text_here"]) fun _ _ _ _ _ _ us hl => by obtain ⟨z0_, rfl⟩ := lenK1 hl; rfl
  have F26 := fun_mk (st := s_law) l26 c26 k26
  have b26 := F26.binds (ps := ["_law_script"]) fun _ _ _ _ _ _ us hl => by obtain ⟨z0_, rfl⟩ := lenK1 hl; rfl
  have gb : Gb mg := ⟨PySem.W.mg_none_of X G z0, PySem.W.mg_none_of X G z1, PySem.W.mg_none_of X G z2, PySem.W.mg_none_of X G z3, PySem.W.mg_none_of X G z4, PySem.W.mg_none_of X G z5, PySem.W.mg_none_of X G z6, PySem.W.mg_none_of X G z7, PySem.W.mg_none_of X G z8, PySem.W.mg_none_of X G z9, PySem.W.mg_none_of X G z10, PySem.W.mg_none_of X G z11, PySem.W.mg_none_of X G z12, ⟨_, PySem.W.mg_of X G y0, _, rfl⟩, ⟨_, PySem.W.mg_of X G y1, _, rfl⟩, ⟨_, PySem.W.mg_of X G y2, _, rfl⟩, ⟨_, PySem.W.mg_of X G y3, _, rfl⟩⟩
  obtain ⟨c, cl⟩ : ∃ c : Nat → Addr, Cl K mg c := ⟨fun i => [cc0, cc1, cc2, cc3, cc4, cc5, cc6, cc7, cc8, cc9, cc10].getD i 0, ⟨PySem.W.mg_of X G g0, PySem.W.mg_of X G g1, PySem.W.mg_of X G g2, PySem.W.mg_of X G g3, PySem.W.mg_of X G g4, PySem.W.mg_of X G g5, PySem.W.mg_of X G g6, PySem.W.mg_of X G g7, PySem.W.mg_of X G g8, PySem.W.mg_of X G g9, PySem.W.mg_of X G g10, w0, w1, w2, w3, w4, w5, w6, w7, w8, w9, w10, w11, w12, w13⟩⟩
  refine ⟨PySem.W.fnOf "law" "law" (defArgs s_law) (defBody s_law) (defScope s_law) .none kV26 dc26 pm26 an26 cd26 ct26, fun s v => .of_eq rfl, fun base _ _ => ?_⟩
  have d_law_draw : Def l.prog w K mg base 1 "_law_draw" ["_law_pool_here", "_law_many"] spDraw := ⟨f0, _, ok_law_draw F0 gb cl, PySem.W.mg_of X G a0, k0, b0⟩
  have d_law_pool : Def l.prog w K mg base 1 "_law_pool" ["_law_cell"] spPool := ⟨f1, _, ok_law_pool F1 gb cl, PySem.W.mg_of X G a1, k1, b1⟩
  have d_law_name : Def l.prog w K mg base 2 "_law_name" ["_law_pool_here", "_law_names"] spName := ⟨f2, _, ok_law_name F2 gb cl d_law_draw, PySem.W.mg_of X G a2, k2, b2⟩
  have d_law_cells : Def l.prog w K mg base 2 "_law_cells" ["_law_pool_here", "_law_many", "_law_places", "_law_often"] spCells := ⟨f3, _, ok_law_cells F3 gb cl d_law_draw, PySem.W.mg_of X G a3, k3, b3⟩
  have d_law_half : Def l.prog w K mg base 3 "_law_half" ["_law_pool_here", "_law_most", "_law_connectives", "_law_often"] spHalf6 := ⟨f4, _, ok_law_half F4 gb cl d_law_draw d_law_name d_law_cells, PySem.W.mg_of X G a4, k4, b4⟩
  have d_power : Def l.prog w K mg base 1 "power" ["base", "exponent"] spPower := ⟨f5, _, ok_power F5 gb cl, PySem.W.mg_of X G a5, k5, b5⟩
  have d_count_nones : Def l.prog w K mg base 1 "count_nones" ["H"] spNones := ⟨f6, _, ok_count_nones F6 gb cl, PySem.W.mg_of X G a6, k6, b6⟩
  have d_is_whole : Def l.prog w K mg base 1 "is_whole" ["thing"] spWholeT := ⟨f7, _, ok_is_whole F7 gb cl, PySem.W.mg_of X G a7, k7, b7⟩
  have d_has_small_letters_alone : Def l.prog w K mg base 1 "has_small_letters_alone" ["text"] spSmallT := ⟨f8, _, ok_has_small_letters_alone F8 gb cl, PySem.W.mg_of X G a8, k8, b8⟩
  have d_is_name : Def l.prog w K mg base 2 "is_name" ["thing"] spNameT := ⟨f9, _, ok_is_name F9 gb cl d_has_small_letters_alone, PySem.W.mg_of X G a9, k9, b9⟩
  have d_is_grade : Def l.prog w K mg base 2 "is_grade" ["thing", "many"] spGradeT := ⟨f10, _, ok_is_grade F10 gb cl d_is_whole, PySem.W.mg_of X G a10, k10, b10⟩
  have d_are_rising_grades : Def l.prog w K mg base 3 "are_rising_grades" ["thing", "many"] spRisingT := ⟨f11, _, ok_are_rising_grades F11 gb cl d_is_grade, PySem.W.mg_of X G a11, k11, b11⟩
  have d_are_cells : Def l.prog w K mg base 3 "are_cells" ["thing", "many", "length"] spCellsT := ⟨f12, _, ok_are_cells F12 gb cl d_is_grade, PySem.W.mg_of X G a12, k12, b12⟩
  have d_is_connective : Def l.prog w K mg base 4 "is_connective" ["thing", "many"] spConnT := ⟨f13, _, ok_is_connective F13 gb cl d_is_name d_is_whole d_are_cells d_power, PySem.W.mg_of X G a13, k13, b13⟩
  have d_are_connectives : Def l.prog w K mg base 5 "are_connectives" ["thing", "many"] spConnsT := ⟨f14, _, ok_are_connectives F14 gb cl d_is_connective, PySem.W.mg_of X G a14, k14, b14⟩
  have d_is_half : Def l.prog w K mg base 6 "is_half" ["thing"] spHalfT := ⟨f15, _, ok_is_half F15 gb cl d_is_whole d_are_rising_grades d_are_connectives, PySem.W.mg_of X G a15, k15, b15⟩
  have d_is_table : Def l.prog w K mg base 7 "is_table" ["thing"] spTableT := ⟨f16, _, ok_is_table F16 gb cl d_is_half d_count_nones, PySem.W.mg_of X G a16, k16, b16⟩
  have d_number_of : Def l.prog w K mg base 1 "number_of" ["word"] spNumW := ⟨f17, _, ok_number_of F17 gb cl, PySem.W.mg_of X G a17, k17, b17⟩
  have d_numbers_of : Def l.prog w K mg base 2 "numbers_of" ["words"] spNumsW := ⟨f18, _, ok_numbers_of F18 gb cl d_number_of, PySem.W.mg_of X G a18, k18, b18⟩
  have d_connective_of : Def l.prog w K mg base 3 "connective_of" ["words"] spConnW := ⟨f19, _, ok_connective_of F19 gb cl d_number_of d_numbers_of, PySem.W.mg_of X G a19, k19, b19⟩
  have d_table_of : Def l.prog w K mg base 4 "table_of" ["parts"] spTableW := ⟨f20, _, ok_table_of F20 gb cl d_number_of d_numbers_of d_connective_of, PySem.W.mg_of X G a20, k20, b20⟩
  have d_read_table : Def1 l.prog w K mg base 8 "read_table" ["text"] (spReadW (c 2)) := ⟨f21, _, ok_read_table F21 gb cl d_table_of d_is_table, PySem.W.mg_of X G a21, k21, b21⟩
  have d_law_text : Def l.prog w K mg base 2 "_law_text" ["_law_table"] spShow := ⟨f22, _, ok_law_text F22 gb cl, PySem.W.mg_of X G a22, k22, b22⟩
  have d_law_alone : Def l.prog w K mg base 1 "_law_alone" ["_law_e", "_law_sort"] (spAlone (c 2)) := ⟨f23, _, ok_law_alone F23 gb cl, PySem.W.mg_of X G a23, k23, b23⟩
  have d_law_odd : Def l.prog w K mg base 3 "_law_odd" ["_law_table"] spOdd := ⟨f24, _, ok_law_odd F24 gb cl d_law_text, PySem.W.mg_of X G a24, k24, b24⟩
  have d_law_refused : Def l.prog w K mg base 9 "_law_refused" ["_law_text_here"] spRefused := ⟨f25, _, ok_law_refused F25 gb cl d_read_table d_law_alone, PySem.W.mg_of X G a25, k25, b25⟩
  exact ok_law F26 gb cl d_law_pool d_law_half d_law_odd d_law_refused d_read_table d_law_text
theorem walk {l : PySem.W.OpenLaw} {q : Program} {loose : List Str} {XP : (Str → Option Value) → Heap → Prop} {YP : World → Heap → Prop} {d : DefRec} {K : Params → PySem.W.Frag} (hn : l.most = some 63) (hdf : d.params.defaults = [])
    (hY : ∀ (w : World) (h : Heap), YP w h → (K w.params).In h)
    (F : ∀ (w : World) (mg : Str → Option Value) (fa : Addr) (h : Heap), (K w.params).In h → h.Ns mainGlobals mg → mg d.name = some (.ref fa) →
      ∃ fd : FuncData, (∀ (s : Shared) (u : Value), BindsTo s fd ⟨[u], []⟩ [("_law_script", u)]) ∧ ∀ base : Heap, (K w.params).In base → base.Ns mainGlobals mg → FnOk l.prog w (K w.params) mg base CX0 10 fa fd ["_law_script"] (spLaw (K w.params))) :
    PySem.W.WalkO q loose XP YP l.row.toRowW d [] (fun f vs => PySem.call f vs) :=
  L2.walk_of (n := 63) (k := 10) (x := "_law_script") (CX := fun _ => CX0) (sp := fun w => spLaw (K w.params)) hn (by decide) hdf ⟨rfl, by decide, by decide⟩ hY F (fun _ _ a ns hl _ hS => ⟨a, ns, rfl, hS, hl, fun _ => rfl⟩) fun _ _ _ _ _ z => z
end K06
open PySem PySem.W PyProof.Rows
-- This name is taken so that no faster copy of the heap's constant is laid by the head: nothing in the proof uses
-- that copy, and with it the compiled file has over 64 MB. The proof does not use the name either.
theorem PySem.W.Fast.tw15260021113080685126 : True := trivial
set_option maxRecDepth 100000 in
set_option maxHeartbeats 0 in
theorem PySem.Challenge.cw_truthgrades_k06_texts_of_no_table_holds : PySem.Challenge.rw_truthgrades_k06_texts_of_no_table.Holds := by
  w_on; o_law; k_head; (case hw => w_witness2)
  k_fill
  refine K06.walk (l := PySem.Challenge.rw_truthgrades_k06_texts_of_no_table) rfl rfl (fun w h Y => PySem.W.kIn_of Y) ?F
  case F =>
    intro w mg fa h KX G hmg
    refine' K06.all_mk KX G hmg ?a0 ?l0 ?c0 ?k0 ?a1 ?l1 ?c1 ?k1 ?a2 ?l2 ?c2 ?k2 ?a3 ?l3 ?c3 ?k3 ?a4 ?l4 ?c4 ?k4 ?a5 ?l5 ?c5 ?k5 ?a6 ?l6 ?c6 ?k6 ?a7 ?l7 ?c7 ?k7 ?a8 ?l8 ?c8 ?k8 ?a9 ?l9 ?c9 ?k9 ?a10 ?l10 ?c10 ?k10 ?a11 ?l11 ?c11 ?k11 ?a12 ?l12 ?c12 ?k12 ?a13 ?l13 ?c13 ?k13 ?a14 ?l14 ?c14 ?k14 ?a15 ?l15 ?c15 ?k15 ?a16 ?l16 ?c16 ?k16 ?a17 ?l17 ?c17 ?k17 ?a18 ?l18 ?c18 ?k18 ?a19 ?l19 ?c19 ?k19 ?a20 ?l20 ?c20 ?k20 ?a21 ?l21 ?c21 ?k21 ?a22 ?l22 ?c22 ?k22 ?a23 ?l23 ?c23 ?k23 ?a24 ?l24 ?c24 ?k24 ?a25 ?l25 ?c25 ?k25 ?a26 ?l26 ?c26 ?k26 ?z0 ?z1 ?z2 ?z3 ?z4 ?z5 ?z6 ?z7 ?z8 ?z9 ?z10 ?z11 ?z12 ?y0 ?y1 ?y2 ?y3 ?gg0 ?gg1 ?gg2 ?gg3 ?gg4 ?gg5 ?gg6 ?gg7 ?gg8 ?gg9 ?gg10 ?ww0 ?ww1 ?ww2 ?ww3 ?ww4 ?ww5 ?ww6 ?ww7 ?ww8 ?ww9 ?ww10 ?ww11 ?ww12 ?ww13
    (case a0 => k_is); (case l0 => k_is); (case c0 => k_is); (case k0 => k_is)
    (case a1 => k_is); (case l1 => k_is); (case c1 => k_is); (case k1 => k_is)
    (case a2 => k_is); (case l2 => k_is); (case c2 => k_is); (case k2 => k_is)
    (case a3 => k_is); (case l3 => k_is); (case c3 => k_is); (case k3 => k_is)
    (case a4 => k_is); (case l4 => k_is); (case c4 => k_is); (case k4 => k_is)
    (case a5 => k_is); (case l5 => k_is); (case c5 => k_is); (case k5 => k_is)
    (case a6 => k_is); (case l6 => k_is); (case c6 => k_is); (case k6 => k_is)
    (case a7 => k_is); (case l7 => k_is); (case c7 => k_is); (case k7 => k_is)
    (case a8 => k_is); (case l8 => k_is); (case c8 => k_is); (case k8 => k_is)
    (case a9 => k_is); (case l9 => k_is); (case c9 => k_is); (case k9 => k_is)
    (case a10 => k_is); (case l10 => k_is); (case c10 => k_is); (case k10 => k_is)
    (case a11 => k_is); (case l11 => k_is); (case c11 => k_is); (case k11 => k_is)
    (case a12 => k_is); (case l12 => k_is); (case c12 => k_is); (case k12 => k_is)
    (case a13 => k_is); (case l13 => k_is); (case c13 => k_is); (case k13 => k_is)
    (case a14 => k_is); (case l14 => k_is); (case c14 => k_is); (case k14 => k_is)
    (case a15 => k_is); (case l15 => k_is); (case c15 => k_is); (case k15 => k_is)
    (case a16 => k_is); (case l16 => k_is); (case c16 => k_is); (case k16 => k_is)
    (case a17 => k_is); (case l17 => k_is); (case c17 => k_is); (case k17 => k_is)
    (case a18 => k_is); (case l18 => k_is); (case c18 => k_is); (case k18 => k_is)
    (case a19 => k_is); (case l19 => k_is); (case c19 => k_is); (case k19 => k_is)
    (case a20 => k_is); (case l20 => k_is); (case c20 => k_is); (case k20 => k_is)
    (case a21 => k_is); (case l21 => k_is); (case c21 => k_is); (case k21 => k_is)
    (case a22 => k_is); (case l22 => k_is); (case c22 => k_is); (case k22 => k_is)
    (case a23 => k_is); (case l23 => k_is); (case c23 => k_is); (case k23 => k_is)
    (case a24 => k_is); (case l24 => k_is); (case c24 => k_is); (case k24 => k_is)
    (case a25 => k_is); (case l25 => k_is); (case c25 => k_is); (case k25 => k_is)
    (case a26 => k_is); (case l26 => k_is); (case c26 => k_is); (case k26 => k_is)
    (case z0 => k_is)
    (case z1 => k_is)
    (case z2 => k_is)
    (case z3 => k_is)
    (case z4 => k_is)
    (case z5 => k_is)
    (case z6 => k_is)
    (case z7 => k_is)
    (case z8 => k_is)
    (case z9 => k_is)
    (case z10 => k_is)
    (case z11 => k_is)
    (case z12 => k_is)
    (case y0 => k_is)
    (case y1 => k_is)
    (case y2 => k_is)
    (case y3 => k_is)
    (case gg0 => k_is)
    (case gg1 => k_is)
    (case gg2 => k_is)
    (case gg3 => k_is)
    (case gg4 => k_is)
    (case gg5 => k_is)
    (case gg6 => k_is)
    (case gg7 => k_is)
    (case gg8 => k_is)
    (case gg9 => k_is)
    (case gg10 => k_is)
    (case ww0 => first | k_is | kit_is | kernel_rfl)
    (case ww1 => first | k_is | kit_is | kernel_rfl)
    (case ww2 => first | k_is | kit_is | kernel_rfl)
    (case ww3 => first | k_is | kit_is | kernel_rfl)
    (case ww4 => first | k_is | kit_is | kernel_rfl)
    (case ww5 => first | k_is | kit_is | kernel_rfl)
    (case ww6 => first | k_is | kit_is | kernel_rfl)
    (case ww7 => first | k_is | kit_is | kernel_rfl)
    (case ww8 => first | k_is | kit_is | kernel_rfl)
    (case ww9 => first | k_is | kit_is | kernel_rfl)
    (case ww10 => first | k_is | kit_is | kernel_rfl)
    (case ww11 => first | k_is | kit_is | kernel_rfl)
    (case ww12 => first | k_is | kit_is | kernel_rfl)
    (case ww13 => first | k_is | kit_is | kernel_rfl)
