import PyProof.Rows.All
import Wide.All
import OpenK.AllK
import Wide.FinOn
import Lean
import PyProof.EqAt
import PyProof.EqKinds
import PyProof.TupleCall
import PySem.Challenge.RW_truthgrades_k28_whole_kept_and_turned
set_option maxHeartbeats 4000000
set_option maxRecDepth 100000
set_option linter.all false
set_option Elab.async false
namespace L2
open PySem PySem.Spec PyProof.Rows
abbrev Key := Sum Int Str
def keyIs : Key → Value → Bool
  | .inl k, v => Value.isInt k v
  | .inr x, v => Value.isStrOf x v
def keyH (w : World) : Key → Int
  | .inl k => hashInt k
  | .inr x => hashStr w x
theorem keyIs_shape : ∀ {k : Key} {v : Value}, keyIs k v = true → (∃ i t, k = Sum.inl i ∧ v = Value.int i t) ∨ (∃ x t, k = Sum.inr x ∧ v = Value.str x t)
  | .inl i, v, h => by
    obtain ⟨t, e⟩ := Value.isInt_shape (k := i) (v := v) h
    exact .inl ⟨i, t, rfl, e⟩
  | .inr x, v, h => by
    obtain ⟨t, e⟩ := Value.isStrOf_shape (x := x) (v := v) h
    exact .inr ⟨x, t, rfl, e⟩
theorem keyIs_int (i : Int) (t : Tok) : keyIs (.inl i) (.int i t) = true := by simp [keyIs, Value.isInt]
theorem keyIs_str (x : Str) (t : Tok) : keyIs (.inr x) (.str x t) = true := by simp [keyIs, Value.isStrOf]
theorem key_ll (a b : Int) : decide ((Sum.inl a : Key) = Sum.inl b) = (a == b) := by
  by_cases e : a = b
  · subst e; simp
  · have h : ¬ (Sum.inl a : Key) = Sum.inl b := fun q => e (Sum.inl.inj q)
    rw [decide_eq_false h]
    exact (beq_eq_false_iff_ne.mpr e).symm
theorem key_rr (a b : Str) : decide ((Sum.inr a : Key) = Sum.inr b) = decide (a = b) := by
  by_cases e : a = b
  · subst e; simp
  · have h : ¬ (Sum.inr a : Key) = Sum.inr b := fun q => e (Sum.inr.inj q)
    rw [decide_eq_false h, decide_eq_false e]
theorem key_lr (a : Int) (b : Str) : decide ((Sum.inl a : Key) = Sum.inr b) = false := decide_eq_false (fun q => nomatch q)
theorem key_rl (a : Str) (b : Int) : decide ((Sum.inr a : Key) = Sum.inl b) = false := decide_eq_false (fun q => nomatch q)
def mixKind (prog : Program) (w : World) : PySem.KeyKind prog w Key where
  is := keyIs
  hash := keyH w
  inj := fun v a b ha hb => by
    rcases keyIs_shape ha with ⟨i, t, rfl, rfl⟩ | ⟨x, t, rfl, rfl⟩
    · rcases keyIs_shape hb with ⟨j, u, rfl, e⟩ | ⟨y, u, rfl, e⟩
      · injection e with e1 _; rw [e1]
      · exact nomatch e
    · rcases keyIs_shape hb with ⟨j, u, rfl, e⟩ | ⟨y, u, rfl, e⟩
      · exact nomatch e
      · injection e with e1 _; rw [e1]
  byValue := fun k v h => by
    rcases keyIs_shape h with ⟨i, t, rfl, rfl⟩ | ⟨x, t, rfl, rfl⟩ <;> rfl
  pyHash := fun hv h => by
    rcases keyIs_shape hv with ⟨i, t, rfl, rfl⟩ | ⟨x, t, rfl, rfl⟩
    · exact wpAny_pyHash_int h
    · exact wpAny_pyHash_str h
  eqBool := fun hu hv h => by
    rcases keyIs_shape hu with ⟨i, t, rfl, rfl⟩ | ⟨x, t, rfl, rfl⟩
    · rcases keyIs_shape hv with ⟨j, u, rfl, rfl⟩ | ⟨y, u, rfl, rfl⟩
      · rw [key_ll] at h; exact wpAny_eqBool_int h
      · rw [key_lr] at h; exact SeqAt.EqAt.int_str i t y u _ _ _ _ h
    · rcases keyIs_shape hv with ⟨j, u, rfl, rfl⟩ | ⟨y, u, rfl, rfl⟩
      · rw [key_rl] at h; exact SeqAt.EqAt.str_int x t j u _ _ _ _ h
      · rw [key_rr] at h; exact wpAny_eqBool_str h
  «strs» := fun k x t v h => by
    rcases keyIs_shape h with ⟨i, u, rfl, e⟩ | ⟨y, u, rfl, e⟩
    · exact nomatch e
    · injection e with e1 _
      subst e1
      cases v <;> rfl
theorem mixKind_int (prog : Program) (w : World) (i : Int) (t : Tok) : (mixKind prog w).is (.inl i) (.int i t) = true := keyIs_int i t
theorem mixKind_str (prog : Program) (w : World) (x : Str) (t : Tok) : (mixKind prog w).is (.inr x) (.str x t) = true := keyIs_str x t
end L2
namespace L2
open PySem PySem.Spec PyProof.Rows
inductive V where
  | non | bl (b : Bool) | int (i : Int) | str (x : Str) | byt (b : Array UInt8) | flt (b : UInt64) | ref (a : Addr) | ty (n : String)
  deriving DecidableEq
def RelV : V → Value → Prop
  | .non, u => u = Value.none
  | .bl b, u => u = Value.bool b
  | .int i, u => ∃ t, u = Value.int i t
  | .str x, u => ∃ t, u = Value.str x t
  | .byt b, u => ∃ t, u = Value.bytes b t
  | .flt b, u => ∃ t, u = Value.float b t
  | .ref a, u => u = Value.ref a
  | .ty n, u => u = Value.type n
abbrev Vals : List V → List Value → Prop := Paired RelV
theorem Vals.length {xs : List V} {us : List Value} (r : Vals xs us) : xs.length = us.length := Paired.length r
theorem Vals.get : ∀ {xs : List V} {us : List Value} {i : Nat} {x : V}, Vals xs us → xs[i]? = some x → ∃ u, us[i]? = some u ∧ RelV x u
  | _, _, _, _, .nil, e => by simp at e
  | _, _, 0, _, .cons r _, e => by simp at e; subst e; exact ⟨_, rfl, r⟩
  | _, _, i + 1, x, .cons _ t, e => by
    obtain ⟨u, h1, h2⟩ := Vals.get (i := i) (x := x) t (by simpa using e)
    exact ⟨u, by simpa using h1, h2⟩
theorem Vals.set {x : V} {u : Value} (r : RelV x u) : ∀ {xs : List V} {us : List Value} (i : Nat), Vals xs us → Vals (xs.set i x) (us.set i u)
  | _, _, _, .nil => .nil
  | _, _, 0, .cons _ t => .cons r t
  | _, _, i + 1, .cons q t => .cons q (Vals.set r i t)
theorem Vals.append : ∀ {xs ys : List V} {us ws : List Value}, Vals xs us → Vals ys ws → Vals (xs ++ ys) (us ++ ws)
  | _, _, _, _, .nil, s => s
  | _, _, _, _, .cons r t, s => .cons r (Vals.append t s)
theorem Vals.take : ∀ {xs : List V} {us : List Value} (n : Nat), Vals xs us → Vals (xs.take n) (us.take n)
  | _, _, 0, _ => .nil
  | _, _, _ + 1, .nil => .nil
  | _, _, n + 1, .cons r t => .cons r (Vals.take n t)
theorem Vals.drop : ∀ {xs : List V} {us : List Value} (n : Nat), Vals xs us → Vals (xs.drop n) (us.drop n)
  | _, _, 0, r => r
  | _, _, _ + 1, .nil => .nil
  | _, _, n + 1, .cons _ t => Vals.drop n t
def RelO : Option V → Option Value → Prop
  | some v, some u => RelV v u
  | none, none => True
  | _, _ => False
def KV {κ : Type} : List (κ × V) → List (κ × Value) → Prop := Paired fun (p : κ × V) (q : κ × Value) => p.1 = q.1 ∧ RelV p.2 q.2
def kV : Key → V
  | .inl i => .int i
  | .inr x => .str x
def PTup (h : Heap) (a : Addr) (items : Array Value) : Prop := ∃ o, h.get? a = some o ∧ o.cls = .type "tuple" ∧ (∃ n, o.data = .seq items n) ∧ o.dict = none
theorem PTup.lt {h : Heap} {a : Addr} {items : Array Value} (x : PTup h a items) : a < h.objs.size := let ⟨_, e, _⟩ := x; Heap.lt_size e
theorem PTup.isTup {h : Heap} {a : Addr} {items : Array Value} (x : PTup h a items) : IsTup h a items := let ⟨o, e, c, n, _⟩ := x; ⟨o, e, c, n⟩
theorem PTup.new (h : Heap) (items : Array Value) : PTup (h.push { cls := .type "tuple", data := .seq items }) h.objs.size items := ⟨_, Heap.get?_push_size _ rfl, rfl, ⟨_, rfl⟩, rfl⟩
inductive HO where
  /-- a list -/
  | lst (xs : List V)
  /-- a tuple (never changes) -/
  | tup (xs : List V)
  /-- a dict whose keys are ints and texts; one whose keys are tuples of ints and texts (the empty one is both) -/
  | dK (kvs : List (Key × V)) | dT (kvs : List (List Key × V))
  /-- a set of ints: its members, its size -/
  | set (S : Int → Bool) (n : Nat)
  /-- an instance of the class at C, its dict at dx, its attributes -/
  | ins (C dx : Addr) (fs : List (Str × V))
  /-- the dict of the instance at x -/
  | own (x : Addr)
  /-- the dict of an exception -/
  | xd (fs : List (Str × V))
  /-- a bound method, f of x -/
  | met (f x : Addr)
  /-- a range object lo, lo + 1, .. below hi -/
  | rng (lo hi : Int)
  /-- a thing that is known to the object (the script; a dict while a loop walks it): read, never written while it is so -/
  | frz (o : Obj) (u : HO)
  /-- a code object's table -/
  | tbl (ps : Array Value)
  /-- any other thing, by what is true of its one object (a def of one's own: SetO a S n := HO.ext fun h => ..) -/
  | ext (φ : Heap → Prop)
abbrev Hp := Addr → Option HO
def upd (H : Hp) (a : Addr) (o : HO) : Hp := fun b => if b = a then some o else H b
theorem upd_same {H : Hp} {a : Addr} {o : HO} : upd H a o a = some o := by unfold upd; rw [if_pos rfl]
theorem upd_ne {H : Hp} {a b : Addr} {o : HO} (h : b ≠ a) : upd H a o b = H b := by unfold upd; rw [if_neg h]
theorem ne_of {H : Hp} {a b : Addr} {o u : HO} (h : H a = some o) (h' : H b = some u) (d : o ≠ u) : a ≠ b := by
  intro e; subst e; rw [h] at h'; exact d (Option.some.inj h')
theorem ne_of_none {H : Hp} {a b : Addr} {o : HO} (h : H a = some o) (h' : H b = none) : a ≠ b := by
  intro e; subst e; rw [h] at h'; cases h'
section
variable (P : Program) (w : World)
def ObjOk (H : Hp) (h : Heap) (a : Addr) : HO → Prop
  | .lst xs => xs.length ≤ sizeLine ∧ ∃ (its : List Value) (n : Nat), Vals xs its ∧ h.get? a = some { cls := .type "list", data := .seq its.toArray n }
  | .tup xs => xs.length ≤ sizeLine ∧ ∃ its : List Value, Vals xs its ∧ PTup h a its.toArray
  | .dK kvs => kvs.length ≤ sizeLine ∧ (a == sysModules) = false ∧ ∃ vs, KV kvs vs ∧ h.DictOf (mixKind P w) a vs
  | .dT kvs => kvs.length ≤ sizeLine ∧ (a == sysModules) = false ∧ ∃ xs : List (List Key × Addr × Value),
      Paired (fun (p : List Key × V) (q : List Key × Addr × Value) => p.1 = q.1 ∧ H q.2.1 = some (.tup (p.1.map kV)) ∧ RelV p.2 q.2.2) kvs xs ∧
      ∃ o es ep, h.get? a = some o ∧ o.ExactDict ∧ o.data = .dict es ep ∧ es.toList = xs.map (entryOfKey (tupleKind (mixKind P w))) ∧ (xs.map (·.1)).Nodup
  | .set S n => h.SetOf (intKind P w) a S n
  | .ins C dx fs => H dx = some (.own a) ∧ fs.length ≤ 1000 ∧ dx ≠ a ∧ h.get? a = some (PySem.W.instObj C dx) ∧
      ∃ mA, h.Ns1 dx mA ∧ (∀ f, RelO (fs.lookup f) (mA f)) ∧ PySem.Within mA (fs.map (·.1))
  | .own _ => ∃ o, h.get? a = some o
  | .xd fs => ∃ mA, h.Ns1 a mA ∧ ∀ f, RelO (fs.lookup f) (mA f)
  | .rng lo hi => ∃ t u v, h.get? a = some { cls := .type "range", data := .fields #[.int lo t, .int hi u, .int 1 v] }
  | .frz o u => h.get? a = some o ∧ ObjOk H h a u
  | .tbl ps => h.get? a = some { cls := .none, data := .fields ps }
  | .met f x => h.get? a = some (PySem.W.methodObj (.ref f) (.ref x))
  | .ext φ => φ h ∧ (∃ o, h.get? a = some o) ∧ ∀ h1 h2 : Heap, φ h1 → (∀ o, h1.get? a = some o → h2.get? a = some o) → φ h2
def HOk (H : Hp) (h : Heap) : Prop := ∀ a o, H a = some o → ObjOk P w H h a o
end
section
variable {P : Program} {w : World} {H H' : Hp} {h h' : Heap} {a : Addr} {o : HO}
theorem ObjOk.lt (x : ObjOk P w H h a o) : a < h.objs.size := by
  cases o with
  | lst xs => obtain ⟨_, _, _, _, e⟩ := x; exact Heap.lt_size e
  | tup xs => obtain ⟨_, _, _, p⟩ := x; exact p.lt
  | dK kvs => obtain ⟨_, _, _, _, o, _, _, e, _⟩ := x; exact Heap.lt_size e
  | dT kvs => obtain ⟨_, _, _, _, o, _, _, e, _⟩ := x; exact Heap.lt_size e
  | set S n => obtain ⟨o, _, _, _, e, _⟩ := x; exact Heap.lt_size e
  | ins C dx fs => obtain ⟨_, _, _, e, _⟩ := x; exact Heap.lt_size e
  | own y => obtain ⟨_, e⟩ := x; exact Heap.lt_size e
  | xd fs => obtain ⟨_, ⟨_, _, _, e, _⟩, _⟩ := x; exact Heap.lt_size e
  | rng lo hi => obtain ⟨_, _, _, e⟩ := x; exact Heap.lt_size e
  | frz ob u => obtain ⟨e, _⟩ := x; exact Heap.lt_size e
  | tbl ps => exact Heap.lt_size (show h.get? a = some _ from x)
  | met f y => exact Heap.lt_size (show h.get? a = some _ from x)
  | ext φ => obtain ⟨_, ⟨_, e⟩, _⟩ := x; exact Heap.lt_size e
theorem Paired.mapP {α β : Type} {F G : α → β → Prop} : ∀ {l₁ : List α} {l₂ : List β}, Paired F l₁ l₂ → (∀ a b, F a b → G a b) → Paired G l₁ l₂
  | _, _, .nil, _ => .nil
  | _, _, .cons r t, f => .cons (f _ _ r) (Paired.mapP t f)
theorem Paired.imp' {α β : Type} {F G : α → β → Prop} (f : ∀ a b, F a b → G a b) {l₁ : List α} {l₂ : List β} (r : Paired F l₁ l₂) : Paired G l₁ l₂ := Paired.mapP r f
theorem ObjOk.stay (x : ObjOk P w H h a o) (k : ∀ b u, (b = a ∨ H b = some (.own a)) → h.get? b = some u → h'.get? b = some u)
    (ho : ∀ b, H b = some (.own a) → H' b = some (.own a)) (ht : ∀ b xs, H b = some (.tup xs) → H' b = some (.tup xs)) : ObjOk P w H' h' a o := by
  induction o with
  | lst xs => obtain ⟨z, its, n, r, e⟩ := x; exact ⟨z, its, n, r, k _ _ (.inl rfl) e⟩
  | tup xs => obtain ⟨z, its, r, ob, e, c⟩ := x; exact ⟨z, its, r, ob, k _ _ (.inl rfl) e, c⟩
  | dK kvs => obtain ⟨z, y, vs, r, ob, es, ep, e, c⟩ := x; exact ⟨z, y, vs, r, ob, es, ep, k _ _ (.inl rfl) e, c⟩
  | dT kvs =>
    obtain ⟨z, y, xs, r, ob, es, ep, e, c⟩ := x
    exact ⟨z, y, xs, Paired.mapP r fun p q z => ⟨z.1, ht _ _ z.2.1, z.2.2⟩, ob, es, ep, k _ _ (.inl rfl) e, c⟩
  | set S n => obtain ⟨ob, es, ep, t, e, c⟩ := x; exact ⟨ob, es, ep, t, k _ _ (.inl rfl) e, c⟩
  | ins C dx fs =>
    obtain ⟨d, z, ne, e, mA, ⟨od, es, ep, e2, c⟩, r⟩ := x
    exact ⟨ho _ d, z, ne, k _ _ (.inl rfl) e, mA, ⟨od, es, ep, k _ _ (.inr d) e2, c⟩, r⟩
  | own y => obtain ⟨ob, e⟩ := x; exact ⟨ob, k _ _ (.inl rfl) e⟩
  | xd fs => obtain ⟨mA, ⟨od, es, ep, e, c⟩, r⟩ := x; exact ⟨mA, ⟨od, es, ep, k _ _ (.inl rfl) e, c⟩, r⟩
  | rng lo hi => obtain ⟨t, u, v, e⟩ := x; exact ⟨t, u, v, k _ _ (.inl rfl) e⟩
  | frz ob u ih => obtain ⟨e, q⟩ := x; exact ⟨k _ _ (.inl rfl) e, ih q⟩
  | tbl ps =>
    have e : h.get? a = some { cls := .none, data := .fields ps } := x
    show h'.get? a = some { cls := .none, data := .fields ps }
    exact k a _ (.inl rfl) e
  | met f y =>
    have e : h.get? a = some (PySem.W.methodObj (.ref f) (.ref y)) := x
    show h'.get? a = some (PySem.W.methodObj (.ref f) (.ref y))
    exact k a _ (.inl rfl) e
  | ext φ => obtain ⟨p, ⟨o, e⟩, st⟩ := x; exact ⟨st _ _ p fun o q => k _ _ (.inl rfl) q, ⟨o, k _ _ (.inl rfl) e⟩, st⟩
theorem HOk.lt (x : HOk P w H h) (e : H a = some o) : a < h.objs.size := (x a o e).lt
theorem HOk.fresh (x : HOk P w H h) (e : h.objs.size ≤ a) : H a = none := by
  cases q : H a with
  | none => rfl
  | some u => exact absurd (Nat.lt_of_lt_of_le (x.lt q) e) (Nat.lt_irrefl _)
theorem HOk.kept (x : HOk P w H h) (k : ∀ b u, h.get? b = some u → h'.get? b = some u) : HOk P w H h' := fun a o e =>
  (x a o e).stay (fun b u _ q => k b u q) (fun _ q => q) fun _ _ q => q
theorem HOk.laid (x : HOk P w H h) (k : ∀ b u, h.get? b = some u → h'.get? b = some u) (hp : h.objs.size ≤ a) (new : ObjOk P w (upd H a o) h' a o) : HOk P w (upd H a o) h' := fun b u e => by
  have hn := x.fresh hp
  by_cases hb : b = a
  · subst hb; rw [upd_same] at e; cases e; exact new
  · rw [upd_ne hb] at e
    exact (x b u e).stay (fun c v _ q => k c v q) (fun c q => by rw [upd_ne (ne_of_none q hn)]; exact q) fun c xs q => by rw [upd_ne (ne_of_none q hn)]; exact q
end
def Rd (H : Hp) (a : Addr) (u : HO) : Prop := H a = some u ∨ ∃ o, H a = some (.frz o u)
theorem Rd.ok {P : Program} {w : World} {H : Hp} {h : Heap} {a : Addr} {u : HO} (r : Rd H a u) (x : HOk P w H h) : ObjOk P w H h a u := by
  rcases r with r | ⟨o, r⟩
  · exact x a u r
  · obtain ⟨_, q⟩ := x a _ r
    exact q
def Mut : Option HO → Prop
  | some (.lst _) => True
  | some (.dK _) => True
  | some (.dT _) => True
  | some (.set _ _) => True
  | some (.ins _ _ _) => True
  | some (.ext _) => True
  | _ => False
section
variable {P : Program} {w : World} {H : Hp} {h h' : Heap} {x e : Addr} {o' : HO}
theorem HOk.write (ok : HOk P w H h) (mu : Mut (H x)) (he : e = x ∨ H e = some (.own x)) (k : ∀ b u, b ≠ e → h.get? b = some u → h'.get? b = some u) (heo : ∃ u, h'.get? e = some u)
    (new : ObjOk P w (upd H x o') h' x o') : HOk P w (upd H x o') h' := fun b u q => by
  have nown : ∀ c y, H c = some (.own y) → c ≠ x := fun c y r z => by subst z; rw [r] at mu; exact mu
  have ntup : ∀ c xs, H c = some (.tup xs) → c ≠ x := fun c xs r z => by subst z; rw [r] at mu; exact mu
  by_cases hb : b = x
  · subst hb; rw [upd_same] at q; cases q; exact new
  · rw [upd_ne hb] at q
    by_cases hbe : b = e
    · have q' : H b = some (.own x) := by
        rcases he with z | z
        · exact absurd (hbe.trans z) hb
        · rw [hbe]; exact z
      rw [q] at q'; cases q'
      obtain ⟨v, hv⟩ := heo
      exact ⟨v, by rw [hbe]; exact hv⟩
    · refine (ok b u q).stay (fun c v hc r => k c v ?_ r) (fun c r => by rw [upd_ne (nown c b r)]; exact r) fun c xs r => by rw [upd_ne (ntup c xs r)]; exact r
      rcases hc with rfl | hc
      · exact hbe
      · rintro rfl
        rcases he with z | z
        · exact nown c b hc z
        · rw [hc] at z; cases z; exact hb rfl
end
structure Un (fs ex : List Addr) (H H' : Hp) (h h' : Heap) : Prop where
  keep : ∀ b o, h.get? b = some o → H b = none → b ∉ fs → b ∉ ex → h'.get? b = some o
  slot : ∀ b o, h.get? b = some o → H b = none → b ∈ fs → b ∉ ex → ∃ sl, h'.get? b = some { o with slots := sl }
  free : ∀ b o, h.get? b = some o → H b = none → b ∉ ex → H' b = none
  there : ∀ b o, h.get? b = some o → b ∉ ex → ∃ o', h'.get? b = some o'
  tups : ∀ b xs, H b = some (.tup xs) → H' b = some (.tup xs)
  frzs : ∀ b o u, H b = some (.frz o u) → H' b = some (.frz o u)
  tbls : ∀ b ps, H b = some (.tbl ps) → ∃ more, H' b = some (.tbl (ps ++ more))
section
variable {fs fs' ex ex' : List Addr} {H H1 H2 : Hp} {h h1 h2 h' : Heap} {a x e : Addr} {o : HO}
theorem Un.any (u : Un fs ex H H1 h h1) {b : Addr} {ob : Obj} (q : h.get? b = some ob) (n : H b = none) (hx : b ∉ ex) : ∃ sl, h1.get? b = some { ob with slots := sl } := by
  by_cases hb : b ∈ fs
  · exact u.slot b ob q n hb hx
  · exact ⟨ob.slots, u.keep b ob q n hb hx⟩
theorem Un.kept (k : ∀ b u, h.get? b = some u → h'.get? b = some u) : Un fs ex H H h h' :=
  ⟨fun b ob q _ _ _ => k b ob q, fun b ob q _ _ _ => ⟨ob.slots, k b ob q⟩, fun _ _ _ n _ => n, fun b ob q _ => ⟨ob, k b ob q⟩, fun _ _ q => q, fun _ _ _ q => q, fun _ ps q => ⟨#[], by rw [q]; simp⟩⟩
theorem Un.refl : Un fs ex H H h h := Un.kept fun _ _ q => q
theorem Un.laid (k : ∀ b u, h.get? b = some u → h'.get? b = some u) (hp : h.objs.size ≤ a) (hn : H a = none) : Un fs ex H (upd H a o) h h' where
  keep := fun b u q _ _ _ => k b u q
  slot := fun b u q _ _ _ => ⟨u.slots, k b u q⟩
  free := fun b u q n _ => by rw [upd_ne (Nat.ne_of_lt (Nat.lt_of_lt_of_le (Heap.lt_size q) hp))]; exact n
  there := fun b u q _ => ⟨u, k b u q⟩
  tups := fun b xs q => by rw [upd_ne (ne_of_none q hn)]; exact q
  frzs := fun b u xs q => by rw [upd_ne (ne_of_none q hn)]; exact q
  tbls := fun b ps q => ⟨#[], by rw [upd_ne (ne_of_none q hn), q]; simp⟩
theorem Un.write (mu : Mut (H x)) (he : e = x ∨ H e = some (.own x)) (k : ∀ b u, b ≠ e → h.get? b = some u → h'.get? b = some u) (heo : ∃ u, h'.get? e = some u) : Un fs ex H (upd H x o) h h' := by
  have hx : ∀ b, H b = none → b ≠ x := fun b n z => by subst z; rw [n] at mu; exact mu
  have hb : ∀ b, H b = none → b ≠ e := fun b n z => by
    subst z
    rcases he with r | r
    · exact hx b n r
    · rw [n] at r; cases r
  have hm : ∀ b u, H b = some u → ¬ Mut (some u) → b ≠ x := fun b u q nm z => by subst z; rw [q] at mu; exact nm mu
  refine ⟨fun b u q n _ _ => k b u (hb b n) q, fun b u q n _ _ => ⟨u.slots, k b u (hb b n) q⟩, fun b u q n _ => by rw [upd_ne (hx b n)]; exact n, fun b u q _ => ?_,
    fun b xs q => by rw [upd_ne (hm b _ q fun z => z)]; exact q, fun b u xs q => by rw [upd_ne (hm b _ q fun z => z)]; exact q, fun b ps q => ⟨#[], by rw [upd_ne (hm b _ q fun z => z), q]; simp⟩⟩
  by_cases hbe : b = e
  · subst hbe; exact heo
  · exact ⟨u, k b u hbe q⟩
end
def trk (h : Heap) (H : Hp) : List Addr := (List.range h.objs.size).filter fun a => (H a).isSome
def hidT (h : Heap) (H : Hp) : Heap := PySem.W.hideAll h (trk h H)
theorem hidT_size (h : Heap) (H : Hp) : (hidT h H).objs.size = h.objs.size := PySem.W.hideAll_size _ _
theorem hidT_get {h : Heap} {H : Hp} {b : Addr} {o : Obj} (e : h.get? b = some o) (n : H b = none) : (hidT h H).get? b = some o :=
  PySem.W.hideAll_get _ e fun hm => by
    have q : (H b).isSome = true := (List.mem_filter.mp hm).2
    rw [n] at q; simp at q
theorem of_hidT {h : Heap} {H : Hp} {b : Addr} {o : Obj} (e : (hidT h H).get? b = some o) : h.get? b = some o ∧ H b = none := by
  have e' : h.get? b = some o := PySem.W.of_hideAll (trk h H) e
  refine ⟨e', ?_⟩
  cases q : H b with
  | none => rfl
  | some x =>
    have hm : b ∈ trk h H := List.mem_filter.mpr ⟨List.mem_range.mpr (Heap.lt_size e'), by simp [q]⟩
    have z : (hidT h H).get? b = none := PySem.W.hideAll_none (trk h H) hm
    rw [z] at e; cases e
end L2
namespace L2
open PySem PySem.Spec PyProof.Rows
structure Mod (K : PySem.W.Frag) (mg : Str → Option Value) (base : Heap) : Prop where
  kin : K.In base
  glob : base.Ns mainGlobals mg
  blt : ∃ mb, base.Ns builtinsNs mb ∧ ∀ x : Str, x ≠ "__name__" → mb x = bootBuiltins x
  nolimit : base.NoLimit
structure Cx where
  prog : Program
  w : World
  K : PySem.W.Frag
  mg : Str → Option Value
  base : Heap
  A : Around
  N : List Str
  s₀ : Shared
  H₀ : Hp
  env : Env
  outer : List Env
  stack : List Env
  ex : List Addr
  fn : Str → Bool
  calm : Bool
  pn : List (Addr × Obj)
  xe : Value → Shared → Prop
def frs (l : List Env) : List Addr := l.filterMap (·.frame)
abbrev Cx.fs (X : Cx) : List Addr := frs X.outer
def Vis (sc : Scope) (x : Str) : Prop := sc.names.lookup x = some .local ∨ sc.names.lookup x = some .cell ∨ sc.names.lookup x = some .free
def Loc (sc : Scope) (x : Str) : Prop := sc.names.lookup x = some .local ∨ sc.names.lookup x = some .cell
def Look (env : Env) (h : Heap) (m : Str → Option Value) (x : Str) (u : Value) : Prop :=
  (env.kindOf x = some .local ∧ m x = some u) ∨ ((env.kindOf x = some .cell ∨ env.kindOf x = some .free) ∧ ∃ c, env.cells.lookup x = some c ∧ h.IsCell c (some u))
structure Cx.Ok (X : Cx) : Prop where
  mod : Mod X.K X.mg X.base
  kind : X.env.scope.kind = .function
  glob : X.env.globals = mainGlobals
  blt : X.env.builtins = builtinsNs
  above : X.s₀.heap.objs.size ≤ X.env.locals
  inj : ∀ x y c, X.env.cells.lookup x = some c → X.env.cells.lookup y = some c → x = y
  has : ∀ x, (X.env.kindOf x = some .cell ∨ X.env.kindOf x = some .free) → ∃ c, X.env.cells.lookup x = some c
  cab : ∀ x c, X.fn x = true → X.env.cells.lookup x = some c → X.s₀.heap.objs.size ≤ c
  hd : X.calm = true → X.A.handled = none
  frames : X.A.frames = some X.stack
  stk : X.stack = X.outer ∨ (X.stack = X.env :: X.outer ∧ X.env.frame = some X.env.locals)
  exf : ∀ b ∈ X.ex, b ≠ X.env.locals ∧ ∀ x c, X.env.cells.lookup x = some c → c ≠ b
  bs : ∀ b o, X.base.get? b = some o → X.s₀.heap.get? b = some o ∧ X.H₀ b = none
  bsz : X.base.objs.size ≤ X.s₀.heap.objs.size
  noex : ∀ b o, X.base.get? b = some o → b ∉ X.ex
  exfs : ∀ b ∈ X.ex, b ∉ X.fs
  funs : X.s₀.heap.FunFrames X.base X.outer
  frf : ∀ b ∈ X.fs, X.H₀ b = none
structure Inv (X : Cx) (pins : List (Addr × Obj)) (σ : List (Option V)) (H : Hp) (s : Shared) : Prop where
  ok : X.Ok
  os : s.os = X.s₀.os
  bare : AllBare s.gens
  base : Un X.fs X.ex X.H₀ H X.s₀.heap s.heap
  loc : ∃ m, s.heap.Ns X.env.locals m ∧ ∀ (i : Nat) (x : Str) (v : V), X.N[i]? = some x → σ[i]? = some (some v) → Vis X.env.scope x → ∃ u, RelV v u ∧ Look X.env s.heap m x u
  cell : ∀ x c, X.env.cells.lookup x = some c → ∃ v, s.heap.IsCell c v
  free : H X.env.locals = none
  freeC : ∀ x c, X.env.cells.lookup x = some c → H c = none
  pin : ∀ p ∈ X.pn ++ pins, s.heap.get? p.1 = some p.2 ∧ H p.1 = none ∧ p.1 ≠ X.env.locals ∧ p.1 ∉ X.fs ∧ ∀ v, p.2.data ≠ .cell v
  hok : HOk X.prog X.w H s.heap
  len : σ.length = X.N.length
section
variable {X : Cx} {pins : List (Addr × Obj)} {σ : List (Option V)} {H H' : Hp} {s : Shared} {h' : Heap}
theorem Cx.Ok.nofr (ok : X.Ok) {b : Addr} {o : Obj} (e : X.base.get? b = some o) : b ∉ X.fs := fun hb => by
  have := (ok.funs.mem hb).1
  rw [e] at this; cases this
theorem Inv.bs (I : Inv X pins σ H s) : ∀ b o, X.base.get? b = some o → s.heap.get? b = some o ∧ H b = none := fun b o e =>
  ⟨I.base.keep b o (I.ok.bs b o e).1 (I.ok.bs b o e).2 (I.ok.nofr e) (I.ok.noex b o e), I.base.free b o (I.ok.bs b o e).1 (I.ok.bs b o e).2 (I.ok.noex b o e)⟩
theorem Inv.bk (I : Inv X pins σ H s) : ∀ b o, X.base.get? b = some o → s.heap.get? b = some o := fun b o e => (I.bs b o e).1
theorem Inv.mod (I : Inv X pins σ H s) : Mod X.K X.mg X.base := I.ok.mod
theorem Inv.kIn (I : Inv X pins σ H s) : X.K.In s.heap := I.ok.mod.kin.keeps I.bk
theorem Inv.lt (I : Inv X pins σ H s) : X.env.locals < s.heap.objs.size := let ⟨_, hn, _⟩ := I.loc; hn.lt
theorem Inv.sz (I : Inv X pins σ H s) : X.s₀.heap.objs.size ≤ s.heap.objs.size := Nat.le_trans I.ok.above (Nat.le_of_lt I.lt)
theorem Inv.nofs (I : Inv X pins σ H s) {a : Addr} (h : s.heap.objs.size ≤ a) : a ∉ X.fs := fun hb => by
  obtain ⟨_, o, ho, _⟩ := I.ok.funs.mem hb
  exact absurd (Nat.lt_of_lt_of_le (Heap.lt_size ho) (Nat.le_trans I.sz h)) (Nat.lt_irrefl _)
theorem Inv.cne (I : Inv X pins σ H s) : ∀ x c, X.env.cells.lookup x = some c → c ≠ X.env.locals := fun x c e z => by
  obtain ⟨v, o, ho, hd⟩ := I.cell x c e
  obtain ⟨m, ⟨o', es, ep, ho', hd', _⟩, _⟩ := I.loc
  rw [z, ho'] at ho; cases ho; rw [hd'] at hd; cases hd
theorem Inv.funs (I : Inv X pins σ H s) : s.heap.FunFrames X.base X.outer := by
  have all : ∀ (l : List Env), (∀ b ∈ frs l, b ∈ X.fs) → X.s₀.heap.FunFrames X.base l → s.heap.FunFrames X.base l := by
    intro l
    induction l with
    | nil => intro _ _; trivial
    | cons env r ih =>
      intro hs hl
      obtain ⟨hk, ⟨L, o, hf, hn, ho, hd⟩, hr⟩ := hl
      have hL : L ∈ X.fs := hs L (by unfold frs; rw [List.filterMap_cons, hf]; exact List.mem_cons_self)
      obtain ⟨sl, e⟩ := I.base.slot L o ho (I.ok.frf L hL) hL fun z => I.ok.exfs L z hL
      exact ⟨hk, ⟨L, _, hf, hn, e, hd⟩, ih (fun b hb => hs b (by unfold frs; rw [List.filterMap_cons, hf]; exact List.mem_cons_of_mem _ hb)) hr⟩
  exact all X.outer (fun _ hb => hb) I.ok.funs
theorem Inv.stack (I : Inv X pins σ H s) : s.heap.FunFrames X.base X.stack := by
  rcases I.ok.stk with e | ⟨e, hf⟩
  · rw [e]; exact I.funs
  · rw [e]
    obtain ⟨m, hn, _⟩ := I.loc
    refine .cons (by rw [I.ok.kind]; decide) hf hn ?_ I.funs
    exact Heap.get?_none_of_le (Nat.le_trans I.ok.bsz I.ok.above)
theorem Inv.stkSub (I : Inv X pins σ H s) : ∀ b ∈ frs X.stack, b ∈ X.env.locals :: X.fs := fun b hb => by
  rcases I.ok.stk with e | ⟨e, hf⟩
  · rw [e] at hb; exact List.mem_cons_of_mem _ hb
  · rw [e] at hb
    unfold frs at hb
    rw [List.filterMap_cons, hf] at hb
    exact hb
theorem Inv.stkFree (I : Inv X pins σ H s) : ∀ b ∈ frs X.stack, H b = none := fun b hb => by
  rcases List.mem_cons.mp (I.stkSub b hb) with e | hb
  · rw [e]; exact I.free
  · obtain ⟨_, o, ho, _⟩ := I.ok.funs.mem hb
    exact I.base.free b o ho (I.ok.frf b hb) fun z => I.ok.exfs b z hb
theorem Inv.step {g' : Array GenState} {t' : Nat} {d' : Drawn} {ch : List Addr} (I : Inv X pins σ H s)
    (hch : ∀ b ∈ ch, (b ∈ X.ex ∨ X.s₀.heap.objs.size ≤ b) ∧ b ≠ X.env.locals ∧ (∀ x c, X.env.cells.lookup x = some c → c ≠ b) ∧ ∀ p ∈ X.pn ++ pins, p.1 ≠ b)
    (keep : ∀ b o, b ≠ X.env.locals → b ∉ X.fs → b ∉ ch → s.heap.get? b = some o → H b = none → h'.get? b = some o)
    (slot : ∀ b o, b ≠ X.env.locals → b ∈ X.fs → b ∉ ch → s.heap.get? b = some o → H b = none → ∃ sl, h'.get? b = some { o with slots := sl }) (free : ∀ b o, b ∉ ch → s.heap.get? b = some o → H b = none → H' b = none)
    (there : ∀ b o, b ∉ ch → s.heap.get? b = some o → ∃ o', h'.get? b = some o')
    (tups : ∀ b xs, H b = some (.tup xs) → H' b = some (.tup xs)) (frzs : ∀ b o u, H b = some (.frz o u) → H' b = some (.frz o u)) (tbls : ∀ b ps, H b = some (.tbl ps) → ∃ more, H' b = some (.tbl (ps ++ more)))
    (ns : ∀ m, s.heap.Ns X.env.locals m → h'.Ns X.env.locals m) (hok : HOk X.prog X.w H' h') (hg : AllBare g') :
    Inv X pins σ H' { s with heap := h', gens := g', drawn := d', toks := t' } := by
  have neL : ∀ b o, X.s₀.heap.get? b = some o → b ≠ X.env.locals := fun b o e => Nat.ne_of_lt (Nat.lt_of_lt_of_le (Heap.lt_size e) I.ok.above)
  have neC : ∀ b o, X.s₀.heap.get? b = some o → b ∉ X.ex → b ∉ ch := fun b o e hx hb => by
    rcases (hch b hb).1 with z | z
    · exact hx z
    · exact absurd (Nat.lt_of_lt_of_le (Heap.lt_size e) z) (Nat.lt_irrefl _)
  have cellK : ∀ x c, X.env.cells.lookup x = some c → ∀ v, s.heap.IsCell c v → h'.IsCell c v := fun x c e v ⟨o, ho, hd⟩ => by
    have nch : c ∉ ch := fun z => (hch c z).2.2.1 x c e rfl
    by_cases hc : c ∈ X.fs
    · obtain ⟨sl, q⟩ := slot c o (I.cne x c e) hc nch ho (I.freeC x c e)
      exact ⟨_, q, hd⟩
    · exact ⟨o, keep c o (I.cne x c e) hc nch ho (I.freeC x c e), hd⟩
  refine ⟨I.ok, I.os, hg, ⟨fun b o e n hb hx => ?_, fun b o e n hb hx => ?_, fun b o e n hx => ?_, fun b o e hx => ?_, fun b xs e => tups b xs (I.base.tups b xs e), fun b o xs e => frzs b o xs (I.base.frzs b o xs e), fun b ps e => ?_⟩, ?_, fun x c e => ?_, ?_, fun x c e => ?_, fun p hp => ?_, hok, I.len⟩
  · exact keep b o (neL b o e) hb (neC b o e hx) (I.base.keep b o e n hb hx) (I.base.free b o e n hx)
  · obtain ⟨sl, e1⟩ := I.base.slot b o e n hb hx
    obtain ⟨sl', e2⟩ := slot b _ (neL b o e) hb (neC b o e hx) e1 (I.base.free b o e n hx)
    exact ⟨sl', e2⟩
  · obtain ⟨o', e1⟩ := I.base.there b o e hx
    exact free b o' (neC b o e hx) e1 (I.base.free b o e n hx)
  · obtain ⟨o', e1⟩ := I.base.there b o e hx
    exact there b o' (neC b o e hx) e1
  · obtain ⟨m1, e1⟩ := I.base.tbls b ps e
    obtain ⟨m2, e2⟩ := tbls b _ e1
    exact ⟨m1 ++ m2, by rw [e2, Array.append_assoc]⟩
  · obtain ⟨m, hn, hl⟩ := I.loc
    refine ⟨m, ns m hn, fun i x v e1 e2 e3 => ?_⟩
    obtain ⟨u, r, l⟩ := hl i x v e1 e2 e3
    refine ⟨u, r, ?_⟩
    rcases l with l | ⟨k, c, e, z⟩
    · exact .inl l
    · exact .inr ⟨k, c, e, cellK x c e _ z⟩
  · obtain ⟨v, z⟩ := I.cell x c e
    exact ⟨v, cellK x c e v z⟩
  · obtain ⟨m, ⟨o, _, _, ho, _⟩, _⟩ := I.loc
    exact free _ o (fun z => (hch _ z).2.1 rfl) ho I.free
  · obtain ⟨v, o, ho, hd⟩ := I.cell x c e
    exact free c o (fun z => (hch c z).2.2.1 x c e rfl) ho (I.freeC x c e)
  · obtain ⟨e, n, ne, nf, d⟩ := I.pin p hp
    have nch : p.1 ∉ ch := fun z => (hch p.1 z).2.2.2 p hp rfl
    exact ⟨keep p.1 p.2 ne nf nch e n, free p.1 p.2 nch e n, ne, nf, d⟩
theorem Inv.un {t' : Nat} (I : Inv X pins σ H s) (u : Un X.fs [] H H' s.heap h') (hok : HOk X.prog X.w H' h') : Inv X pins σ H' { s with heap := h', toks := t' } := by
  obtain ⟨m, ⟨o, es, ep, ho, r⟩, _⟩ := id I.loc
  obtain ⟨sl, hL⟩ := u.any ho I.free (by simp)
  exact I.step (g' := s.gens) (d' := s.drawn) (ch := []) (fun _ z => nomatch z) (fun b o _ hb _ e n => u.keep b o e n hb (by simp)) (fun b o _ hb _ e n => u.slot b o e n hb (by simp)) (fun b o _ e n => u.free b o e n (by simp)) (fun b o _ e => u.there b o e (by simp)) u.tups u.frzs u.tbls (fun m' hm => by
    obtain ⟨o', es', ep', ho', r'⟩ := hm
    rw [ho] at ho'; cases ho'
    exact ⟨_, es', ep', hL, r'⟩) hok I.bare
theorem Inv.call {g' : Array GenState} {t' : Nat} {d' : Drawn} {ch : List Addr} (I : Inv X pins σ H s) (u : Un (frs X.stack) ch H H' s.heap h') (hok : HOk X.prog X.w H' h') (hg : AllBare g')
    (hch : ∀ b ∈ ch, (b ∈ X.ex ∨ X.s₀.heap.objs.size ≤ b) ∧ b ≠ X.env.locals ∧ (∀ x c, X.env.cells.lookup x = some c → c ≠ b) ∧ ∀ p ∈ X.pn ++ pins, p.1 ≠ b) :
    Inv X pins σ H' { s with heap := h', gens := g', drawn := d', toks := t' } := by
  obtain ⟨m, ⟨o, es, ep, ho, r⟩, _⟩ := id I.loc
  obtain ⟨sl, hL⟩ := u.any ho I.free fun z => (hch _ z).2.1 rfl
  exact I.step (ch := ch) hch (fun b o hL hb hc e n => u.keep b o e n (fun z => (List.mem_cons.mp (I.stkSub b z)).elim hL hb) hc) (fun b o _ _ hc e n => u.any e n hc) (fun b o hc e n => u.free b o e n hc) (fun b o hc e => u.there b o e hc) u.tups u.frzs u.tbls (fun m' hm => by
    obtain ⟨o', es', ep', ho', r'⟩ := hm
    rw [ho] at ho'; cases ho'
    exact ⟨_, es', ep', hL, r'⟩) hok hg
theorem Inv.turned {t' : Nat} {it : Addr} (I : Inv X pins σ H s) (k : ∀ b o, b ≠ it → s.heap.get? b = some o → h'.get? b = some o) (hn : H it = none) (hL : it ≠ X.env.locals)
    (h1 : it ∈ X.ex ∨ X.s₀.heap.objs.size ≤ it) (h2 : ∀ x c, X.env.cells.lookup x = some c → c ≠ it) (h3 : ∀ p ∈ X.pn ++ pins, p.1 ≠ it) : Inv X pins σ H { s with heap := h', toks := t' } := by
  have nit : ∀ b u, H b = some u → b ≠ it := fun b u e z => by rw [z, hn] at e; cases e
  refine I.step (g' := s.gens) (d' := s.drawn) (ch := [it]) (fun b hb => ?_) (fun b o _ _ hc e _ => k b o (fun z => hc (by simp [z])) e) (fun b o _ _ hc e _ => ⟨o.slots, k b o (fun z => hc (by simp [z])) e⟩) (fun _ _ _ _ n => n)
    (fun b o hc e => ⟨o, k b o (fun z => hc (by simp [z])) e⟩) (fun _ _ e => e) (fun _ _ _ e => e) (fun b ps e => ⟨#[], by rw [e]; simp⟩) (fun m hm => ?_) (fun b u e => ?_) I.bare
  · have e : b = it := by simpa using hb
    subst e
    exact ⟨h1, hL, h2, h3⟩
  · obtain ⟨o, es, ep, ho, r⟩ := hm
    exact ⟨o, es, ep, k _ o (Ne.symm hL) ho, r⟩
  · refine (I.hok b u e).stay (fun c v hc q => k c v ?_ q) (fun _ q => q) fun _ _ q => q
    rcases hc with z | z
    · rw [z]; exact nit b u e
    · exact nit c _ z
theorem Inv.tok (I : Inv X pins σ H s) (t : Nat) : Inv X pins σ H { s with toks := t } := I.un (h' := s.heap) (t' := t) Un.refl I.hok
theorem Inv.kept {t' : Nat} (I : Inv X pins σ H s) (k : ∀ b u, s.heap.get? b = some u → h'.get? b = some u) : Inv X pins σ H { s with heap := h', toks := t' } := I.un (Un.kept k) (I.hok.kept k)
theorem Inv.laid {a : Addr} {o : HO} {t' : Nat} (I : Inv X pins σ H s) (k : ∀ b u, s.heap.get? b = some u → h'.get? b = some u) (hp : s.heap.objs.size ≤ a) (new : ObjOk X.prog X.w (upd H a o) h' a o) :
    Inv X pins σ (upd H a o) { s with heap := h', toks := t' } := I.un (Un.laid k hp (I.hok.fresh hp)) (I.hok.laid k hp new)
theorem Inv.write {x e : Addr} {o : HO} {t' : Nat} (I : Inv X pins σ H s) (mu : Mut (H x)) (he : e = x ∨ H e = some (.own x)) (k : ∀ b u, b ≠ e → s.heap.get? b = some u → h'.get? b = some u) (heo : ∃ u, h'.get? e = some u)
    (new : ObjOk X.prog X.w (upd H x o) h' x o) : Inv X pins σ (upd H x o) { s with heap := h', toks := t' } := I.un (Un.write mu he k heo) (I.hok.write mu he k heo new)
theorem Inv.pins_of {pins' : List (Addr × Obj)} (I : Inv X pins σ H s) (h : ∀ p ∈ pins', s.heap.get? p.1 = some p.2 ∧ H p.1 = none ∧ p.1 ≠ X.env.locals ∧ p.1 ∉ X.fs ∧ ∀ v, p.2.data ≠ .cell v) : Inv X pins' σ H s :=
  ⟨I.ok, I.os, I.bare, I.base, I.loc, I.cell, I.free, I.freeC, fun p hp => (List.mem_append.mp hp).elim (fun z => I.pin p (List.mem_append_left _ z)) (h p), I.hok, I.len⟩
theorem nodup_ix {N : List Str} (hN : N.Nodup) {i j : Nat} {x : Str} (a : N[i]? = some x) (b : N[j]? = some x) : i = j := by
  obtain ⟨h1, e1⟩ := List.getElem?_eq_some_iff.mp a
  obtain ⟨h2, e2⟩ := List.getElem?_eq_some_iff.mp b
  exact (List.getElem_inj hN).mp (e1.trans e2.symm)
theorem store_ok2 {M : Model} {A : Around} {E : Value → Shared → Prop} {i : Nat} {x : Str} {v : V} {u : Value} {Q : Unit → Shared → Prop} (I : Inv X pins σ H s) (hN : X.N.Nodup) (hi : X.N[i]? = some x) (hx : Loc X.env.scope x) (r : RelV v u)
    (h : ∀ s', Inv X pins (σ.set i (some v)) H s' → (∃ a, Heap.SameBut a s.heap s'.heap ∧ (a = X.env.locals ∨ X.env.cells.lookup x = some a)) → Q () s') (hf : X.fn x = true ∨ X.env.scope.names.lookup x = some .local := by first | exact .inl rfl | exact .inr rfl | assumption) : wpAny M A (storeName X.env x u) Q E s := by
  obtain ⟨m, hn, hl⟩ := id I.loc
  have hcls : (X.env.scope.kind == .class || (X.env.scope.kind == .module && X.env.locals != X.env.globals)) = false := by rw [I.ok.kind]; rfl
  have hiσ : i < σ.length := by rw [I.len]; exact (List.getElem?_eq_some_iff.mp hi).1
  have cne := I.cne
  have tracked : ∀ {a : Addr} {h' : Heap}, (∃ o, s.heap.get? a = some o ∧ H a = none) → Heap.SameBut a s.heap h' → HOk X.prog X.w H h' := fun {a h'} ha hs b ob e => by
    obtain ⟨_, _, hfree⟩ := ha
    refine (I.hok b ob e).stay (fun c w' hc q => (hs.2 c ?_).trans q) (fun _ q => q) fun _ _ q => q
    rintro rfl
    rcases hc with rfl | hc
    · rw [hfree] at e; cases e
    · rw [hfree] at hc; cases hc
  rcases hx with hk | hk
  · refine wpAny_storeName_local hk hn (fun h' hn' hs => ?_) hcls
    obtain ⟨oL, _, _, hoL, _⟩ := id hn
    refine h _ ⟨I.ok, I.os, I.bare, ⟨fun b o e n hb hx => ?_, fun b o e n hb hx => ?_, I.base.free, fun b o e hx => ?_, I.base.tups, I.base.frzs, I.base.tbls⟩, ⟨_, hn', fun j y v' e1 e2 e3 => ?_⟩, fun y c e => ?_, I.free, I.freeC, fun p hp => ?_, tracked ⟨oL, hoL, I.free⟩ hs, by simpa using I.len⟩ ⟨_, hs, .inl rfl⟩
    · exact (hs.2 b (Nat.ne_of_lt (Nat.lt_of_lt_of_le (Heap.lt_size e) I.ok.above))).trans (I.base.keep b o e n hb hx)
    · obtain ⟨sl, e1⟩ := I.base.slot b o e n hb hx
      exact ⟨sl, (hs.2 b (Nat.ne_of_lt (Nat.lt_of_lt_of_le (Heap.lt_size e) I.ok.above))).trans e1⟩
    · obtain ⟨o', e1⟩ := I.base.there b o e hx
      exact ⟨o', (hs.2 b (Nat.ne_of_lt (Nat.lt_of_lt_of_le (Heap.lt_size e) I.ok.above))).trans e1⟩
    · by_cases hj : j = i
      · subst hj
        rw [hi] at e1; cases e1
        rw [List.getElem?_set_self hiσ] at e2
        cases e2
        exact ⟨u, r, .inl ⟨hk, by simp⟩⟩
      · rw [List.getElem?_set_ne (Ne.symm hj)] at e2
        obtain ⟨u', r', q⟩ := hl j y v' e1 e2 e3
        refine ⟨u', r', ?_⟩
        rcases q with ⟨k, e⟩ | ⟨k, c, e, z⟩
        · refine .inl ⟨k, ?_⟩
          have : y ≠ x := fun e => hj (nodup_ix hN e1 (e ▸ hi))
          simp [this, e]
        · exact .inr ⟨k, c, e, z.sameBut hs (cne y c e)⟩
    · obtain ⟨w', z⟩ := I.cell y c e
      exact ⟨w', z.sameBut hs (cne y c e)⟩
    · obtain ⟨e, n, ne, nf, d⟩ := I.pin p hp
      exact ⟨(hs.2 p.1 ne).trans e, n, ne, nf, d⟩
  · have hfn : X.fn x = true := by
      rcases hf with z | z
      · exact z
      · rw [z] at hk; cases hk
    obtain ⟨c, hc⟩ := I.ok.has x (.inl hk)
    obtain ⟨w', z⟩ := I.cell x c hc
    refine wpAny_storeName_cell I.ok.kind hk hc z (fun h' hc' hs => ?_)
    obtain ⟨oc, hoc, hocd⟩ := id z
    refine h { s with heap := h' } ⟨I.ok, I.os, I.bare, ⟨fun b o e n hb hx => ?_, fun b o e n hb hx => ?_, I.base.free, fun b o e hx => ?_, I.base.tups, I.base.frzs, I.base.tbls⟩, ⟨m, hn.sameBut hs (Ne.symm (cne x c hc)), fun j y v' e1 e2 e3 => ?_⟩, fun y c' e => ?_, I.free, I.freeC, fun p hp => ?_, tracked ⟨oc, hoc, I.freeC x c hc⟩ hs, by simpa using I.len⟩ ⟨c, hs, .inr hc⟩
    · exact (hs.2 b (Nat.ne_of_lt (Nat.lt_of_lt_of_le (Heap.lt_size e) (I.ok.cab x c hfn hc)))).trans (I.base.keep b o e n hb hx)
    · obtain ⟨sl, e1⟩ := I.base.slot b o e n hb hx
      exact ⟨sl, (hs.2 b (Nat.ne_of_lt (Nat.lt_of_lt_of_le (Heap.lt_size e) (I.ok.cab x c hfn hc)))).trans e1⟩
    · obtain ⟨o', e1⟩ := I.base.there b o e hx
      exact ⟨o', (hs.2 b (Nat.ne_of_lt (Nat.lt_of_lt_of_le (Heap.lt_size e) (I.ok.cab x c hfn hc)))).trans e1⟩
    · by_cases hj : j = i
      · subst hj
        rw [hi] at e1; cases e1
        rw [List.getElem?_set_self hiσ] at e2
        cases e2
        exact ⟨u, r, .inr ⟨.inl hk, c, hc, hc'⟩⟩
      · rw [List.getElem?_set_ne (Ne.symm hj)] at e2
        obtain ⟨u', r', q⟩ := hl j y v' e1 e2 e3
        refine ⟨u', r', ?_⟩
        rcases q with q | ⟨k, c', e, z'⟩
        · exact .inl q
        · refine .inr ⟨k, c', e, z'.sameBut hs ?_⟩
          rintro rfl
          exact hj (nodup_ix hN e1 (I.ok.inj _ _ _ e hc ▸ hi))
    · by_cases hcc : c' = c
      · subst hcc; exact ⟨_, hc'⟩
      · obtain ⟨w2, z2⟩ := I.cell y c' e
        exact ⟨w2, z2.sameBut hs hcc⟩
    · obtain ⟨e, n, ne, nf, d⟩ := I.pin p hp
      refine ⟨(hs.2 p.1 ?_).trans e, n, ne, nf, d⟩
      intro q
      rw [q, hoc] at e
      have q' : oc = p.2 := Option.some.inj e
      exact d w' (by rw [← q']; exact hocd)
theorem store_ok {M : Model} {A : Around} {E : Value → Shared → Prop} {i : Nat} {x : Str} {v : V} {u : Value} {Q : Unit → Shared → Prop} (I : Inv X pins σ H s) (hN : X.N.Nodup) (hi : X.N[i]? = some x) (hx : Loc X.env.scope x) (r : RelV v u)
    (h : ∀ s', Inv X pins (σ.set i (some v)) H s' → Q () s') (hf : X.fn x = true ∨ X.env.scope.names.lookup x = some .local := by first | exact .inl rfl | exact .inr rfl | assumption) : wpAny M A (storeName X.env x u) Q E s :=
  store_ok2 I hN hi hx r (fun s' I' _ => h s' I') hf
theorem Inv.call' {s' : Shared} {ch : List Addr} (I : Inv X pins σ H s) (ho : s'.os = s.os) (u : Un (frs X.stack) ch H H' s.heap s'.heap) (hok : HOk X.prog X.w H' s'.heap) (hg : AllBare s'.gens)
    (hch : ∀ b ∈ ch, (b ∈ X.ex ∨ X.s₀.heap.objs.size ≤ b) ∧ b ≠ X.env.locals ∧ (∀ x c, X.env.cells.lookup x = some c → c ≠ b) ∧ ∀ p ∈ X.pn ++ pins, p.1 ≠ b) : Inv X pins σ H' s' := by
  obtain ⟨h', g', d', t', o'⟩ := s'
  have e : o' = s.os := ho
  subst e
  exact I.call (g' := g') (t' := t') (d' := d') u hok hg hch
end
abbrev XK := Value → Option Addr → Hp → Prop
abbrev St := List (Option V)
abbrev VK := V → Hp → Prop
abbrev TE := St → Hp → VK → Prop
abbrev TT := St → Hp → (Bool → Hp → Prop) → Prop
abbrev TA := St → Hp → (List V → Hp → Prop) → Prop
structure Ends where
  nx : St → Hp → Prop
  rt : VK
  bk : St → Hp → Prop := fun _ _ => False
  ct : St → Hp → Prop := fun _ _ => False
abbrev TS := Ends → St → Hp → Prop
def EP (X : Cx) (pins : List (Addr × Obj)) (σ : St) (Q : VK) (u : Value) (s' : Shared) : Prop := ∃ v H', Inv X pins σ H' s' ∧ RelV v u ∧ Q v H'
def TP (X : Cx) (pins : List (Addr × Obj)) (σ : St) (Q : Bool → Hp → Prop) (b : Bool) (s' : Shared) : Prop := ∃ H', Inv X pins σ H' s' ∧ Q b H'
def AP (X : Cx) (pins : List (Addr × Obj)) (σ : St) (Q : List V → Hp → Prop) (us : List Value) (s' : Shared) : Prop := ∃ vs H', Inv X pins σ H' s' ∧ Vals vs us ∧ Q vs H'
def SP (X : Cx) (pins : List (Addr × Obj)) (D : Ends) (f : Flow) (s' : Shared) : Prop :=
  match f with
  | .next => ∃ σ' H', Inv X pins σ' H' s' ∧ D.nx σ' H'
  | .brk => ∃ σ' H', Inv X pins σ' H' s' ∧ D.bk σ' H'
  | .cont => ∃ σ' H', Inv X pins σ' H' s' ∧ D.ct σ' H'
  | .ret u => ∃ v σ' H', Inv X pins σ' H' s' ∧ RelV v u ∧ D.rt v H'
def PE (X : Cx) (e : Expr) (t : TE) : Prop :=
  ∀ (pins : List (Addr × Obj)) (s : Shared) (σ : St) (H : Hp) (Q : VK), Inv X pins σ H s → t σ H Q → wpAny (model X.prog X.w) X.A (eval e X.env) (EP X pins σ Q) X.xe s
def PT (X : Cx) (e : Expr) (t : TT) : Prop :=
  ∀ (pins : List (Addr × Obj)) (s : Shared) (σ : St) (H : Hp) (Q : Bool → Hp → Prop), Inv X pins σ H s → t σ H Q → wpAny (model X.prog X.w) X.A (isTrue e X.env (eval e X.env)) (TP X pins σ Q) X.xe s
def PW (X : Cx) (e : Expr) (t : TT) : Prop :=
  ∀ (whole : Sem Value) (pins : List (Addr × Obj)) (s : Shared) (σ : St) (H : Hp) (Q : Bool → Hp → Prop), Inv X pins σ H s → t σ H Q → wpAny (model X.prog X.w) X.A (isTrue e X.env whole) (TP X pins σ Q) X.xe s
theorem PW.pt {X : Cx} {e : Expr} {t : TT} (h : PW X e t) : PT X e t := h _
def PA (X : Cx) (es : List Expr) (t : TA) : Prop :=
  ∀ (pos : Pos) (pins : List (Addr × Obj)) (s : Shared) (σ : St) (H : Hp) (Q : List V → Hp → Prop), Inv X pins σ H s → t σ H Q → wpAny (model X.prog X.w) X.A (spliced (backTo pos (starEach es X.env))) (AP X pins σ Q) X.xe s
def PS (X : Cx) (st : Stmt) (t : TS) : Prop :=
  ∀ (pins : List (Addr × Obj)) (s : Shared) (σ : St) (H : Hp) (D : Ends), Inv X pins σ H s → t D σ H → wpAny (model X.prog X.w) X.A (exec st X.env) (SP X pins D) X.xe s
def PSs (X : Cx) (st : List Stmt) (t : TS) : Prop :=
  ∀ (pins : List (Addr × Obj)) (s : Shared) (σ : St) (H : Hp) (D : Ends), Inv X pins σ H s → t D σ H → wpAny (model X.prog X.w) X.A (execs st X.env) (SP X pins D) X.xe s
theorem thn {α : Type} {t : Sem α} {Q Q' : α → Shared → Prop} {M : Model} {A : Around} {E : Value → Shared → Prop} {s : Shared} (h : wpAny M A t Q E s) (hQ : ∀ a s, Q a s → Q' a s) : wpAny M A t Q' E s := wpAny_mono h hQ fun _ _ x => x
end L2
namespace L2
open PySem PySem.Spec PyProof.Rows
section
variable {X : Cx}
def tVar (i : Nat) : TE := fun σ H Q => ∃ v, σ[i]? = some (some v) ∧ Q v H
def tC (v : V) : TE := fun _ H Q => Q v H
theorem pe_var {i : Nat} {x : Str} {pos : Pos} (hN : X.N[i]? = some x) (hv : Vis X.env.scope x) (hd : (x == ("__debug__" : Str)) = false := by decide) (hcd : (x == ("__classdict__" : Str)) = false := by decide) : PE X (.Name x pos) (tVar i) := by
  intro pins s σ H Q I h
  obtain ⟨v, e, h⟩ := h
  obtain ⟨m, hn, hl⟩ := I.loc
  obtain ⟨u, r, l⟩ := hl i x v hN e hv
  have fin : EP X pins σ Q u s := ⟨v, H, I, r, h⟩
  rcases l with ⟨hk, hm⟩ | ⟨hk, c, hc, hcell⟩
  · exact wpAny_Name (wpAny_loadName_local I.ok.kind hk hn hm fin) hd
  · rcases hk with hk | hk
    · exact wpAny_Name (wpAny_loadName_cell I.ok.kind hk hc hcell fin) hd
    · exact wpAny_Name (wpAny_loadName_free I.ok.kind hk hc hcell fin hcd) hd
theorem pe_int {i j pos} : PE X (.Constant (.int i) j pos) (tC (.int i)) := fun _ _ _ H _ I h => wpAny_Constant_int ⟨.int i, H, I.tok _, ⟨_, rfl⟩, h⟩
theorem pe_bl {b j pos} : PE X (.Constant (.bool b) j pos) (tC (.bl b)) := fun _ _ _ H _ I h => Constant_bool ⟨.bl b, H, I, rfl, h⟩
theorem pe_str {x j pos} : PE X (.Constant (.str x) j pos) (tC (.str x)) := fun _ _ _ H _ I h => Calls.Constant_str ⟨.str x, H, I.tok _, ⟨_, rfl⟩, h⟩
def Gl (X : Cx) (x : Str) : Prop := X.env.kindOf x = some .globalImplicit
theorem ld_glob {E : Value → Shared → Prop} {pins : List (Addr × Obj)} {s : Shared} {σ : St} {H : Hp} {x : Str} {u : Value} {pos : Pos} {Q : Value → Shared → Prop} (I : Inv X pins σ H s) (hg : Gl X x) (hm : X.mg x = some u) (h : Q u s)
    (hd : (x == ("__debug__" : Str)) = false := by decide) : wpAny (model X.prog X.w) X.A (eval (.Name x pos) X.env) Q E s :=
  Calls.Name_function_global I.ok.kind hg (Calls.loadGlobal_global (by rw [I.ok.glob]; exact I.mod.glob.keeps I.bk) hm h) hd
theorem ld_blt {E : Value → Shared → Prop} {pins : List (Addr × Obj)} {s : Shared} {σ : St} {H : Hp} {x : Str} {u : Value} {pos : Pos} {Q : Value → Shared → Prop} (I : Inv X pins σ H s) (hg : Gl X x) (hm : X.mg x = none) (hv : bootBuiltins x = some u) (h : Q u s)
    (hn : x ≠ "__name__" := by decide) (hd : (x == ("__debug__" : Str)) = false := by decide) : wpAny (model X.prog X.w) X.A (eval (.Name x pos) X.env) Q E s := by
  obtain ⟨mb, h1, h2⟩ := I.mod.blt
  exact Calls.Name_function_global I.ok.kind hg (Calls.loadGlobal_builtin (by rw [I.ok.glob]; exact I.mod.glob.keeps I.bk) hm (by rw [I.ok.blt]; exact h1.keeps I.bk) ((h2 x hn).trans hv) h) hd
theorem pe_glob {x : Str} {v : V} {u : Value} {pos : Pos} (hg : Gl X x) (hm : X.mg x = some u) (r : RelV v u) (hd : (x == ("__debug__" : Str)) = false := by decide) : PE X (.Name x pos) (tC v) :=
  fun _ _ _ H _ I h => ld_glob I hg hm ⟨v, H, I, r, h⟩ hd
theorem pe_bltn {x : Str} {v : V} {u : Value} {pos : Pos} (hg : Gl X x) (hm : X.mg x = none) (hv : bootBuiltins x = some u) (r : RelV v u) (hn : x ≠ "__name__" := by decide) (hd : (x == ("__debug__" : Str)) = false := by decide) : PE X (.Name x pos) (tC v) :=
  fun _ _ _ H _ I h => ld_blt I hg hm hv ⟨v, H, I, r, h⟩ hn hd
variable {a b : Expr} {ta tb : TE} {pos : Pos}
def tB (t : TE) : TT := fun σ H Q => t σ H fun x H1 => ∃ c, x = .bl c ∧ Q c H1
theorem pt_val {e : Expr} {t : TE} (h : PE X e t) (he : ∀ whole, isTrue e X.env whole = (do let v ← whole; standAt e.pos; holding [v] (truthy v)) := by intro _; rfl) : PT X e (tB t) := by
  intro pins s σ H Q I hw
  refine isTrue_plain (thn (h pins s σ H _ I hw) fun v s1 ⟨x, H1, I1, r1, q1⟩ => ?_) (he _)
  obtain ⟨d, rfl, q⟩ := q1
  cases r1
  exact wpAny_truthy_bool ⟨H1, I1, q⟩
variable {tA tB' : TT} {rest : List Expr}
def tAnd (t u : TT) : TT := fun σ H Q => t σ H fun c H1 => if c = true then u σ H1 Q else Q false H1
def tOr (t u : TT) : TT := fun σ H Q => t σ H fun c H1 => if c = true then Q true H1 else u σ H1 Q
def tNot (t : TT) : TT := fun σ H Q => t σ H fun c H1 => Q (!c) H1
theorem pw_and1 (ha : PT X a tA) : PW X (.BoolOp .And [a] pos) tA := by
  intro wh pins s σ H Q I h
  refine isTrue_and (thn (ha pins s σ H Q I h) fun c s1 e => ?_)
  cases c with
  | true => exact isTrue_and_nil e
  | false => exact e
theorem pw_or1 (ha : PT X a tA) : PW X (.BoolOp .Or [a] pos) tA := by
  intro wh pins s σ H Q I h
  refine isTrue_or (thn (ha pins s σ H Q I h) fun c s1 e => ?_)
  cases c with
  | false => exact isTrue_or_nil e
  | true => exact e
theorem pw_and (ha : PT X a tA) (hb : PW X (.BoolOp .And (b :: rest) pos) tB') : PW X (.BoolOp .And (a :: b :: rest) pos) (tAnd tA tB') := by
  intro wh pins s σ H Q I h
  refine isTrue_and (thn (ha pins s σ H _ I h) fun c s1 ⟨H1, I1, q1⟩ => ?_)
  cases c with
  | true => exact hb wh pins s1 σ H1 Q I1 q1
  | false => exact ⟨H1, I1, q1⟩
theorem pw_or (ha : PT X a tA) (hb : PW X (.BoolOp .Or (b :: rest) pos) tB') : PW X (.BoolOp .Or (a :: b :: rest) pos) (tOr tA tB') := by
  intro wh pins s σ H Q I h
  refine isTrue_or (thn (ha pins s σ H _ I h) fun c s1 ⟨H1, I1, q1⟩ => ?_)
  cases c with
  | true => exact ⟨H1, I1, q1⟩
  | false => exact hb wh pins s1 σ H1 Q I1 q1
theorem pt_not (ha : PT X a tA) : PT X (.UnaryOp .Not a pos) (tNot tA) := by
  intro pins s σ H Q I h
  exact isTrue_not (ha pins s σ H (fun c H1 => Q (!c) H1) I h)
def tAndV (ta tb : TE) : TE := fun σ H Q => ta σ H fun x H1 => ∃ c, x = .bl c ∧ if c = true then tb σ H1 Q else Q (.bl false) H1
theorem pe_one {op} {t : TE} (h : PE X a t) : PE X (.BoolOp op [a] pos) t := fun pins s σ H Q I hw => BoolOp_one (h pins s σ H Q I hw)
theorem pe_and (ha : PE X a ta) (hb : PE X (.BoolOp .And (b :: rest) pos) tb) : PE X (.BoolOp .And (a :: b :: rest) pos) (tAndV ta tb) := by
  intro pins s σ H Q I h
  refine BoolOp_and (thn (ha pins s σ H _ I h) fun v s1 ⟨x, H1, I1, r1, q1⟩ => ?_)
  obtain ⟨c, rfl, q1⟩ := q1
  cases r1
  refine wpAny_truthy_bool ?_
  cases c with
  | true => exact hb pins s1 σ H1 Q I1 q1
  | false => exact ⟨.bl false, H1, I1, rfl, q1⟩
end
end L2
namespace L2
open PySem PySem.Spec PyProof.Rows
def SqL (K : PySem.W.Frag) (H : Hp) (a : Addr) (xs : List V) : Prop :=
  Rd H a (.lst xs) ∨
    ∃ (o : Obj) (its : Array Value) (n : Nat), K.lookup a = some o ∧ o.cls = .type "list" ∧ o.dict = none ∧ o.data = .seq its n ∧ its.size ≤ sizeLine ∧ Vals xs its.toList
def SqT (K : PySem.W.Frag) (H : Hp) (a : Addr) (xs : List V) : Prop :=
  Rd H a (.tup xs) ∨
    ∃ (o : Obj) (its : Array Value) (n : Nat), K.lookup a = some o ∧ o.cls = .type "tuple" ∧ o.data = .seq its n ∧ its.size ≤ sizeLine ∧ Vals xs its.toList
def absV : Value → Option V
  | .none => some .non
  | .bool b => some (.bl b)
  | .int i _ => some (.int i)
  | .str x _ => some (.str x)
  | .bytes b _ => some (.byt b)
  | .float b _ => some (.flt b)
  | .ref a => some (.ref a)
  | .type n => some (.ty n)
  | _ => none
theorem RelV.abs {x : V} {u : Value} (r : RelV x u) : absV u = some x := by
  cases x with
  | non => cases r; rfl
  | bl _ => cases r; rfl
  | int _ => obtain ⟨t, rfl⟩ := r; rfl
  | str _ => obtain ⟨t, rfl⟩ := r; rfl
  | byt _ => obtain ⟨t, rfl⟩ := r; rfl
  | flt _ => obtain ⟨t, rfl⟩ := r; rfl
  | ref _ => cases r; rfl
  | ty _ => cases r; rfl
theorem RelV.inj {x y : V} {u : Value} (r : RelV x u) (q : RelV y u) : x = y := Option.some.inj (r.abs.symm.trans q.abs)
theorem Vals.inj : ∀ {xs ys : List V} {us : List Value}, Vals xs us → Vals ys us → xs = ys
  | _, _, _, .nil, .nil => rfl
  | _, _, _, .cons r t, .cons r' t' => by rw [r.inj r', Vals.inj t t']
section
variable {X : Cx} {pins : List (Addr × Obj)} {σ : St} {H : Hp} {s : Shared} {a : Addr} {xs ys : List V}
theorem SqL.of {K : PySem.W.Frag} (h : H a = some (.lst xs)) : SqL K H a xs := .inl (.inl h)
theorem SqT.of {K : PySem.W.Frag} (h : H a = some (.tup xs)) : SqT K H a xs := .inl (.inl h)
theorem Inv.list (I : Inv X pins σ H s) (h : SqL X.K H a xs) : ∃ its : List Value, Vals xs its ∧ PlainL s.heap a its.toArray ∧ xs.length ≤ sizeLine := by
  rcases h with h | ⟨o, its, n, hk, hc, hd, hs, hz, r⟩
  · obtain ⟨z, its, n, r, e⟩ := h.ok I.hok
    exact ⟨its, r, ⟨_, n, e, rfl, rfl, rfl⟩, z⟩
  · refine ⟨its.toList, r, ⟨o, n, I.kIn a o hk, hc, hd, by simpa using hs⟩, ?_⟩
    have e := r.length
    simp only [Array.length_toList] at e
    omega
theorem Inv.tuple (I : Inv X pins σ H s) (h : SqT X.K H a xs) : ∃ its : List Value, Vals xs its ∧ IsTup s.heap a its.toArray ∧ xs.length ≤ sizeLine := by
  rcases h with h | ⟨o, its, n, hk, hc, hs, hz, r⟩
  · obtain ⟨z, its, r, p⟩ := h.ok I.hok
    exact ⟨its, r, p.isTup, z⟩
  · refine ⟨its.toList, r, ⟨o, I.kIn a o hk, hc, n, by simpa using hs⟩, ?_⟩
    have e := r.length
    simp only [Array.length_toList] at e
    omega
theorem Inv.list_inj (I : Inv X pins σ H s) (h : SqL X.K H a xs) (h' : SqL X.K H a ys) : xs = ys := by
  obtain ⟨its, r, ⟨o, n, e, _, _, d⟩, _⟩ := I.list h
  obtain ⟨its', r', ⟨o', n', e', _, _, d'⟩, _⟩ := I.list h'
  rw [e] at e'; cases e'
  rw [d] at d'
  injection d' with d1 _
  have : its = its' := by simpa using congrArg Array.toList d1
  subst this
  exact r.inj r'
theorem Inv.tuple_inj (I : Inv X pins σ H s) (h : SqT X.K H a xs) (h' : SqT X.K H a ys) : xs = ys := by
  obtain ⟨its, r, ⟨o, e, _, n, d⟩, _⟩ := I.tuple h
  obtain ⟨its', r', ⟨o', e', _, n', d'⟩, _⟩ := I.tuple h'
  rw [e] at e'; cases e'
  rw [d] at d'
  injection d' with d1 _
  have : its = its' := by simpa using congrArg Array.toList d1
  subst this
  exact r.inj r'
end
abbrev Cx.wish (X : Cx) (E : Value → Shared → Prop) : Cx := { X with xe := E }
abbrev Cx.nox (X : Cx) : Cx := X.wish fun _ _ => False
theorem Cx.Ok.wish {X : Cx} (ok : X.Ok) (E : Value → Shared → Prop) : (X.wish E).Ok :=
  ⟨ok.mod, ok.kind, ok.glob, ok.blt, ok.above, ok.inj, ok.has, ok.cab, ok.hd, ok.frames, ok.stk, ok.exf, ok.bs, ok.bsz, ok.noex, ok.exfs, ok.funs, ok.frf⟩
theorem Cx.Ok.unwish {X : Cx} {E : Value → Shared → Prop} (ok : (X.wish E).Ok) : X.Ok :=
  ⟨ok.mod, ok.kind, ok.glob, ok.blt, ok.above, ok.inj, ok.has, ok.cab, ok.hd, ok.frames, ok.stk, ok.exf, ok.bs, ok.bsz, ok.noex, ok.exfs, ok.funs, ok.frf⟩
section
variable {X : Cx} {pins : List (Addr × Obj)} {σ : St} {H : Hp} {s : Shared} {E : Value → Shared → Prop}
theorem Inv.wish (I : Inv X pins σ H s) (E : Value → Shared → Prop) : Inv (X.wish E) pins σ H s := ⟨I.ok.wish E, I.os, I.bare, I.base, I.loc, I.cell, I.free, I.freeC, I.pin, I.hok, I.len⟩
theorem Inv.unwish (I : Inv (X.wish E) pins σ H s) : Inv X pins σ H s := ⟨I.ok.unwish, I.os, I.bare, I.base, I.loc, I.cell, I.free, I.freeC, I.pin, I.hok, I.len⟩
theorem SP.unwish {D : Ends} {f : Flow} {s' : Shared} (h : SP (X.wish E) pins D f s') : SP X pins D f s' := by
  cases f with
  | next => obtain ⟨σ', H', I, q⟩ := h; exact ⟨σ', H', I.unwish, q⟩
  | brk => obtain ⟨σ', H', I, q⟩ := h; exact ⟨σ', H', I.unwish, q⟩
  | cont => obtain ⟨σ', H', I, q⟩ := h; exact ⟨σ', H', I.unwish, q⟩
  | ret u => obtain ⟨v, σ', H', I, r, q⟩ := h; exact ⟨v, σ', H', I.unwish, r, q⟩
theorem PSs.nox {st : List Stmt} {t : TS} (h : PSs X.nox st t) : PSs X st t := fun pins s σ H D I hw =>
  wpAny_mono (h pins s σ H D (I.wish _) hw) (fun _ _ q => q.unwish) fun _ _ z => False.elim z
end
section
variable {X : Cx} {st : Stmt} {rest : List Stmt} {t u : TS} {e : Expr} {te : TE} {pos : Pos}
def tNext : TS := fun D σ H => D.nx σ H
def tSeq (t u : TS) : TS := fun D σ H => t { D with nx := u D } σ H
theorem pss_nil : PSs X [] tNext := fun _ _ σ H _ I h => wpAny_execs_nil ⟨σ, H, I, h⟩
theorem pss_cons (h1 : PS X st t) (h2 : PSs X rest u) : PSs X (st :: rest) (tSeq t u) := by
  intro pins s σ H D I h
  refine wpAny_execs_cons (thn (h1 pins s σ H { D with nx := u D } I h) fun f s1 q => ?_)
  cases f with
  | next =>
    obtain ⟨σ', H', I', q⟩ := q
    exact h2 pins s1 σ' H' D I' q
  | ret v => exact q
  | brk => exact q
  | cont => exact q
theorem pss_one (h1 : PS X st t) : PSs X [st] t := by
  intro pins s σ H D I h
  refine wpAny_execs_cons (thn (h1 pins s σ H D I h) fun f s1 q => ?_)
  cases f with
  | next => exact wpAny_execs_nil q
  | ret v => exact q
  | brk => exact q
  | cont => exact q
theorem Inv.quiet {pins : List (Addr × Obj)} {σ : St} {H : Hp} {s : Shared} (I : Inv X pins σ H s) : interactive X.env = false := by simp [interactive, I.ok.kind]
def tDrop (te : TE) : TS := fun D σ H => te σ H fun _ H1 => D.nx σ H1
theorem ps_expr (he : PE X e te) (hs : swapsWith e none pos.line X.env = pure false := by rfl) : PS X (.Expr e pos) (tDrop te) := by
  intro pins s σ H D I h
  exact wpAny_Expr_any (thn (he pins s σ H _ I h) fun v s1 ⟨x, H1, I1, r1, q1⟩ => ⟨σ, H1, I1, q1⟩) I.quiet hs
def tRet (te : TE) : TS := fun D σ H => te σ H D.rt
theorem ps_ret (he : PE X e te) : PS X (.Return (some e) pos) (tRet te) := by
  intro pins s σ H D I h
  exact wpAny_Return_some (thn (he pins s σ H _ I h) fun v s1 ⟨x, H1, I1, r1, q1⟩ => ⟨x, σ, H1, I1, r1, q1⟩)
def tIfS (c : TT) (t u : TS) : TS := fun D σ H => c σ H fun b H1 => if b = true then t D σ H1 else u D σ H1
theorem ps_if {c : Expr} {a b : List Stmt} {tc : TT} (hc : PT X c tc) (ha : PSs X a t) (hb : PSs X b u) : PS X (.If c a b pos) (tIfS tc t u) := by
  intro pins s σ H D I h
  refine wpAny_If (thn (hc pins s σ H _ I h) fun d s1 ⟨H1, I1, q1⟩ => ?_)
  cases d with
  | true => exact ha pins s1 σ H1 D I1 q1
  | false => exact hb pins s1 σ H1 D I1 q1
def tNever : TS := fun _ _ _ => False
theorem ps_never : PS X st tNever := fun _ _ _ _ _ _ h => h.elim
end
abbrev TG := V → St → Hp → (St → Hp → Prop) → Prop
abbrev TGs := List V → St → Hp → (St → Hp → Prop) → Prop
def PG (X : Cx) (target : Expr) (t : TG) : Prop :=
  ∀ (pins : List (Addr × Obj)) (s : Shared) (σ : St) (H : Hp) (v : V) (u : Value) (Q : St → Hp → Prop), Inv X pins σ H s → RelV v u → t v σ H Q →
    wpAny (model X.prog X.w) X.A (assign target X.env u) (fun _ s' => ∃ σ' H', Inv X pins σ' H' s' ∧ Q σ' H') X.xe s
def PGs (X : Cx) (ts : List Expr) (t : TGs) : Prop :=
  ∀ (pins : List (Addr × Obj)) (s : Shared) (σ : St) (H : Hp) (vs : List V) (us : List Value) (Q : St → Hp → Prop), Inv X pins σ H s → Vals vs us → t vs σ H Q →
    wpAny (model X.prog X.w) X.A (assignInOrder ((assignEach ts X.env).map (·.2)) us) (fun _ s' => ∃ σ' H', Inv X pins σ' H' s' ∧ Q σ' H') X.xe s
abbrev TSet := V → V → V → Hp → (Hp → Prop) → Prop
def PSet (X : Cx) (t : TSet) : Prop :=
  ∀ (pins : List (Addr × Obj)) (s : Shared) (σ : St) (H : Hp) (o i v : V) (ov iv u : Value) (Q : Hp → Prop), Inv X pins σ H s → RelV o ov → RelV i iv → RelV v u → t o i v H Q →
    wpAny (model X.prog X.w) X.A (setItem ov iv u) (fun _ s' => ∃ H', Inv X pins σ H' s' ∧ Q H') X.xe s
section
variable {X : Cx} {pos : Pos}
def gName (i : Nat) : TG := fun v σ H Q => Q (σ.set i (some v)) H
theorem pg_name {i : Nat} {x : Str} (hN : X.N.Nodup) (hi : X.N[i]? = some x) (hx : Loc X.env.scope x) (hf : X.fn x = true ∨ X.env.scope.names.lookup x = some .local := by first | exact .inl rfl | exact .inr rfl | assumption) : PG X (.Name x pos) (gName i) := by
  intro pins s σ H v u Q I r h
  exact wpAny_assign_Name (store_ok I hN hi hx r (fun s' I' => ⟨_, H, I', h⟩) hf)
def gNil : TGs := fun vs σ H Q => vs = [] ∧ Q σ H
def gCons (t : TG) (u : TGs) : TGs := fun vs σ H Q => ∃ v r, vs = v :: r ∧ t v σ H fun σ' H' => u r σ' H' Q
theorem pgs_nil : PGs X [] gNil := by
  intro pins s σ H vs us Q I r h
  obtain ⟨e, h⟩ := h
  subst e
  cases r
  exact assignInOrder_nil ⟨σ, H, I, h⟩
theorem pgs_cons {e : Expr} {es : List Expr} {t : TG} {u : TGs} (h1 : PG X e t) (h2 : PGs X es u)
    (hs : (assignEach (e :: es) X.env).map (·.2) = assign e X.env :: (assignEach es X.env).map (·.2) := by rfl) : PGs X (e :: es) (gCons t u) := by
  intro pins s σ H vs us Q I r h
  obtain ⟨v, vr, e1, h⟩ := h
  subst e1
  cases r with
  | cons r rr =>
    rw [hs]
    refine assignInOrder_cons (thn (h1 pins s σ H _ _ _ I r h) fun _ s1 ⟨σ1, H1, I1, q1⟩ => ?_)
    exact h2 pins s1 σ1 H1 _ _ Q I1 rr q1
def gTup (K : PySem.W.Frag) (n : Nat) (t : TGs) : TG := fun v σ H Q => ∃ a xs, v = .ref a ∧ SqT K H a xs ∧ xs.length = n ∧ t xs σ H Q
theorem pg_tup {es : List Expr} {k : Nat} {t : TGs} {n : Nat} (hc : X.calm = true) (h : PGs X es t)
    (hn : (assignEach es X.env).length = n := by rfl) (hst : (assignEach es X.env).findIdx? (·.1) = none := by rfl) : PG X (.Tuple es k pos) (gTup X.K n t) := by
  intro pins s σ H v u Q I r hw
  obtain ⟨a, xs, e1, hq, hl, hw⟩ := hw
  subst e1
  cases r
  obtain ⟨its, rv, ht, hz⟩ := I.tuple hq
  refine assign_Tuple_tuple (I.ok.hd hc) ht (by simp [hn, ← hl, rv.length]) hst fun h' hx => ?_
  have I1 : Inv X pins σ H { s with heap := h' } := I.kept (t' := s.toks) fun b o e => hx b o (Nat.ne_of_lt (Heap.lt_size e)) e
  exact h pins _ σ H xs _ Q I1 (by simpa using rv) hw
def gSub (to ti : TE) (t : TSet) : TG := fun v σ H Q => to σ H fun o H1 => ti σ H1 fun i H2 => t o i v H2 fun H3 => Q σ H3
theorem pg_sub {o i : Expr} {to ti : TE} {t : TSet} (ho : PE X o to) (hi : PE X i ti) (hs : PSet X t)
    (ha : ∀ v, assign (.Subscript o i pos) X.env v = (do
      let ov ← holding [v] (eval o X.env)
      let iv ← holding [v, ov] (eval i X.env)
      standAt pos
      holding [v, ov, iv] (setItem ov iv v)
      release [v, ov, iv] []) := by intro _; rfl) : PG X (.Subscript o i pos) (gSub to ti t) := by
  intro pins s σ H v u Q I r h
  rw [ha]
  refine wpAny_bind (wpAny_holding (thn (ho pins s σ H _ I h) fun ov s1 ⟨x, H1, I1, r1, q1⟩ => ?_))
  refine wpAny_bind (wpAny_holding (thn (hi pins s1 σ H1 _ I1 q1) fun iv s2 ⟨y, H2, I2, r2, q2⟩ => ?_))
  refine wpAny_bind (wpAny_standAt (wpAny_bind (wpAny_holding (thn (hs pins s2 σ H2 x y v ov iv u _ I2 r1 r2 r q2) fun _ s3 ⟨H3, I3, q3⟩ => ?_))))
  exact wpAny_release ⟨σ, H3, I3, q3⟩
def tAsg (te : TE) (g : TG) : TS := fun D σ H => te σ H fun x H1 => g x σ H1 D.nx
theorem ps_asg {tg e : Expr} {te : TE} {g : TG} (he : PE X e te) (hg : PG X tg g) (hs : swapsWithSole [tg] e pos.line X.env = pure false := by rfl) (hw : swappedStores [tg] e X.env = pure none := by rfl)
    (h1 : (assignEach [tg] X.env).map (·.2) = [assign tg X.env] := by rfl) : PS X (.Assign [tg] e pos) (tAsg te g) := by
  intro pins s σ H D I h
  refine wpAny_Assign_stores (thn (he pins s σ H _ I h) fun v s1 ⟨x, H1, I1, r1, q1⟩ => ?_) hs hw
  rw [h1]
  exact thn (hg pins s1 σ H1 x v _ I1 r1 q1) fun _ s2 q => q
theorem ps_set {i : Nat} {x : Str} {e : Expr} {te : TE} {pos' : Pos} (hN : X.N.Nodup) (hi : X.N[i]? = some x) (hx : Loc X.env.scope x) (he : PE X e te) (hs : swapsWith e (some (.Name x pos')) pos.line X.env = pure false := by rfl) (hf : X.fn x = true ∨ X.env.scope.names.lookup x = some .local := by first | exact .inl rfl | exact .inr rfl | assumption) :
    PS X (.Assign [.Name x pos'] e pos) (tAsg te (gName i)) := by
  intro pins s σ H D I h
  refine wpAny_Assign_Name (thn (he pins s σ H _ I h) fun v s1 ⟨y, H1, I1, r1, q1⟩ => ?_) hs
  exact store_ok I1 hN hi hx r1 (fun s2 I2 => ⟨_, H1, I2, q1⟩) hf
end
section
variable {X : Cx} {pos : Pos}
def tWhile (c : TT) (tb : TS) : TS := fun D σ H => ∃ W : Nat → St → Hp → Prop, (∃ m, W m σ H) ∧ ∀ m σ H, W m σ H →
  c σ H fun b H1 => if b = true then ∃ N : St → Hp → Prop, (∀ σ' H', N σ' H' → ∃ m', m' < m ∧ W m' σ' H') ∧ tb { D with nx := N, ct := N, bk := D.nx } σ H1 else D.nx σ H1
theorem ps_while {c : Expr} {body : List Stmt} {tc : TT} {tb : TS} (hp : PassesOwn (model X.prog X.w) X.A X.env X.xe) (hc : PT X c tc) (hb : PSs X body tb) : PS X (.While c body [] pos) (tWhile tc tb) := by
  intro pins s σ H D I h
  obtain ⟨W, ⟨m0, w0⟩, turn⟩ := h
  refine wpAny_While (codeAny_whileLoop (fun n s' => ∃ σ' H', Inv X pins σ' H' s' ∧ W n σ' H') ?_ m0 ⟨σ, H, I, w0⟩)
  rintro n s1 ⟨σ1, H1, I1, w1⟩
  refine wpAny_passesOwn hp (thn (hc pins s1 σ1 H1 _ I1 (turn n σ1 H1 w1)) fun b s2 ⟨H2, I2, q2⟩ => ?_)
  cases b with
  | true =>
    obtain ⟨N, hN, q2⟩ := q2
    rw [if_pos rfl]
    refine wpAny_passesOwn hp (thn (hb pins s2 σ1 H2 _ I2 q2) fun f s3 q3 => ?_)
    cases f with
    | next =>
      obtain ⟨σ3, H3, I3, n3⟩ := q3
      obtain ⟨m', hm, w3⟩ := hN σ3 H3 n3
      exact ⟨m', hm, σ3, H3, I3, w3⟩
    | cont =>
      obtain ⟨σ3, H3, I3, n3⟩ := q3
      obtain ⟨m', hm, w3⟩ := hN σ3 H3 n3
      exact ⟨m', hm, σ3, H3, I3, w3⟩
    | brk => exact q3
    | ret v => exact q3
  | false =>
    rw [if_neg Bool.false_ne_true]
    exact wpAny_execs_nil ⟨σ1, H2, I2, q2⟩
end
structure It where
  go : Nat → Hp → Prop
  yld : Nat → Hp → V → Hp → Prop
  stop : Nat → Hp → Prop
def FpOk (X : Cx) (pins : List (Addr × Obj)) (H : Hp) (b : Addr) : Prop :=
  H b = none ∧ b ≠ X.env.locals ∧ b ∉ X.fs ∧ (b ∈ X.ex ∨ X.s₀.heap.objs.size ≤ b) ∧ (∀ x c, X.env.cells.lookup x = some c → c ≠ b) ∧ ∀ p ∈ X.pn ++ pins, p.1 ≠ b
theorem Inv.fpOk {X : Cx} {pins : List (Addr × Obj)} {σ : St} {H H' : Hp} {s : Shared} {b : Addr} (I : Inv X pins σ H s) (hb : s.heap.objs.size ≤ b) (hn : H' b = none) : FpOk X pins H' b := by
  refine ⟨hn, Nat.ne_of_gt (Nat.lt_of_lt_of_le I.lt hb), I.nofs hb, .inr (Nat.le_trans I.sz hb), fun x c e z => ?_, fun p hp z => ?_⟩
  · obtain ⟨v, q⟩ := I.cell x c e
    exact absurd (Nat.lt_of_lt_of_le q.lt (by rw [z]; exact hb)) (Nat.lt_irrefl _)
  · exact absurd (Nat.lt_of_lt_of_le (Heap.lt_size (I.pin p hp).1) (by rw [z]; exact hb)) (Nat.lt_irrefl _)
structure Turn (P : Program) (w : World) (K : PySem.W.Frag) (tg : Expr) (J : It) (fp : List Addr) (it : Addr) (tn : Nat → Heap → Prop) : Prop where
  mem : it ∈ fp
  obj : ∀ i h, tn i h → ∀ b ∈ fp, ∃ o, h.get? b = some o ∧ ∀ v, o.data ≠ .cell v
  keep : ∀ i h h', tn i h → (∀ b ∈ fp, ∀ o, h.get? b = some o → h'.get? b = some o) → tn i h'
  item : ∀ (X : Cx), X.prog = P → X.w = w → X.K = K → X.calm = true → ∀ (i : Nat) (pins : List (Addr × Obj)) (s : Shared) (σ : St) (H : Hp) (E : Value → Shared → Prop), Inv X pins σ H s → (∀ b ∈ fp, FpOk X pins H b) → tn i s.heap → J.go i H →
    wpAny (model P w) X.A (pyNext (.ref it)) (fun r s1 => ∃ u, r = some u ∧
      wpAny (model P w) X.A (letOwnedTupleGo tg (.ref it) u) (fun _ s2 => ∃ x H', Inv X pins σ H' s2 ∧ RelV x u ∧ J.yld i H x H' ∧ tn (i + 1) s2.heap ∧ ∀ b ∈ fp, H' b = none) E s1) E s
  done : ∀ (X : Cx), X.prog = P → X.w = w → X.K = K → X.calm = true → ∀ (i : Nat) (pins : List (Addr × Obj)) (s : Shared) (σ : St) (H : Hp) (E : Value → Shared → Prop), Inv X pins σ H s → (∀ b ∈ fp, FpOk X pins H b) → tn i s.heap → J.stop i H →
    wpAny (model P w) X.A (pyNext (.ref it)) (fun r s1 => r = none ∧ Inv X pins σ H s1) E s
  self : ∀ (A : Around) (i : Nat) (s : Shared) (Q : Value → Shared → Prop) (E : Value → Shared → Prop), tn i s.heap → Q (.ref it) s → wpAny (model P w) A (pyIter (.ref it)) Q E s
abbrev TI := St → Hp → (It → Hp → Prop) → Prop
def PIE (X : Cx) (pins : List (Addr × Obj)) (σ : St) (tg : Expr) (R : It → Hp → Prop) (itv : Value) (s2 : Shared) : Prop :=
  ∃ (it : Addr) (fp : List Addr) (tn : Nat → Heap → Prop) (J : It) (H' : Hp), itv = .ref it ∧ Inv X pins σ H' s2 ∧ Turn X.prog X.w X.K tg J fp it tn ∧ tn 0 s2.heap ∧ (∀ b ∈ fp, FpOk X pins H' b) ∧ R J H'
def PI (X : Cx) (tg iter : Expr) (wi : TI) : Prop :=
  ∀ (pins : List (Addr × Obj)) (s : Shared) (σ : St) (H : Hp) (R : It → Hp → Prop), Inv X pins σ H s → wi σ H R →
    wpAny (model X.prog X.w) X.A (eval iter X.env) (fun v s1 => wpAny (model X.prog X.w) X.A (pyIter v) (PIE X pins σ tg R) X.xe s1) X.xe s
theorem go_of {M : Model} {A : Around} {E : Value → Shared → Prop} {s : Shared} {tg : Expr} {it : Addr} {u : Value} {o : Obj} {n : String} {vs : Array Value} {Q : Unit → Shared → Prop} (ho : s.heap.get? it = some o) (hc : o.cls = .type n) (hd : o.data = .fields vs)
    (hn : ["enumerate", "zip", "dict_itemiterator", "dict_reverseitemiterator", "odict_iterator", "itertools.zip_longest", "itertools.pairwise"].contains n = false) (hQ : Q () s) : wpAny M A (letOwnedTupleGo tg (.ref it) u) Q E s := by
  unfold letOwnedTupleGo
  cases tg <;> first
    | exact wpAny_pure hQ
    | (cases u <;> first
        | exact wpAny_pure hQ
        | (refine wpAny_bind (wpAny_load ho ?_)
           rw [hc, hd]
           show wpAny M A (if (["enumerate", "zip", "dict_itemiterator", "dict_reverseitemiterator", "odict_iterator", "itertools.zip_longest", "itertools.pairwise"].contains n && vs[0]? == some (rawInt _)) = true then _ else _) Q E s
           rw [if_neg (by intro h; rw [hn, Bool.false_and] at h; cases h)]
           exact wpAny_pure hQ))
def Itl (K : PySem.W.Frag) (a : Addr) : It :=
  ⟨fun i H => ∃ xs x, SqL K H a xs ∧ xs[i]? = some x, fun i H x H' => H' = H ∧ ∀ xs, SqL K H a xs → xs[i]? = some x, fun i H => ∃ xs, SqL K H a xs ∧ xs.length ≤ i⟩
def Itt (K : PySem.W.Frag) (a : Addr) : It :=
  ⟨fun i H => ∃ xs x, SqT K H a xs ∧ xs[i]? = some x, fun i H x H' => H' = H ∧ ∀ xs, SqT K H a xs → xs[i]? = some x, fun i H => ∃ xs, SqT K H a xs ∧ xs.length ≤ i⟩
def Itr (lo : Int) (n : Nat) : It := ⟨fun i _ => i < n, fun i H x H' => H' = H ∧ x = .int (lo + i), fun i _ => n ≤ i⟩
theorem turn_list {P : Program} {w : World} {K : PySem.W.Frag} {tg : Expr} (a it : Addr) : Turn P w K tg (Itl K a) [it] it (fun i h => h.IsListIter it a i) where
  mem := by simp
  obj := fun i h st b hb => by
    have e : b = it := by simpa using hb
    subst e
    obtain ⟨o, e, c, d⟩ := st
    exact ⟨o, e, fun v z => by rw [d] at z; cases z⟩
  keep := fun i h h' st k => st.at fun o e => k it (by simp) o e
  item := by
    intro X hP hw hK hc i pins s σ H E I hf st hg
    subst hP hw hK
    obtain ⟨xs, x, hq, hx⟩ := hg
    obtain ⟨its, rv, p, hz⟩ := I.list hq
    obtain ⟨u, hu, ru⟩ := rv.get hx
    obtain ⟨f0, f1, f2, f3, f4, f5⟩ := hf it (by simp)
    refine wpAny_pyNext_list_item st p.isList (x := u) (by simpa using hu) fun h' st' sb => ?_
    have I1 : Inv X pins σ H { s with heap := h' } := I.turned (t' := s.toks) (fun b o hb e => (sb.2 b hb).trans e) f0 f1 f3 f4 f5
    obtain ⟨o, e, c, d⟩ := id st'
    exact ⟨u, rfl, go_of (s := { s with heap := h' }) e c d (by decide) ⟨x, H, I1, ru, ⟨rfl, fun ys hy => by rw [I.list_inj hy hq]; exact hx⟩, st', fun b hb => (hf b hb).1⟩⟩
  done := by
    intro X hP hw hK hc i pins s σ H E I hf st hg
    subst hP hw hK
    obtain ⟨xs, hq, hx⟩ := hg
    obtain ⟨its, rv, p, hz⟩ := I.list hq
    obtain ⟨f0, f1, f2, f3, f4, f5⟩ := hf it (by simp)
    have hl := rv.length
    exact wpAny_pyNext_list_end (I.ok.hd hc) st p.isList (by simp; omega) fun h' eb => ⟨rfl, I.turned (t' := s.toks) (fun b o hb e => eb b o hb e) f0 f1 f3 f4 f5⟩
  self := fun _ _ _ _ _ st h => wpAny_pyIter_listiter st h
theorem turn_tuple {P : Program} {w : World} {K : PySem.W.Frag} {tg : Expr} (a it : Addr) : Turn P w K tg (Itt K a) [it] it (fun i h => h.IsTupleIter it a i) where
  mem := by simp
  obj := fun i h st b hb => by
    have e : b = it := by simpa using hb
    subst e
    obtain ⟨o, e, c, d⟩ := st
    exact ⟨o, e, fun v z => by rw [d] at z; cases z⟩
  keep := fun i h h' st k => st.at fun o e => k it (by simp) o e
  item := by
    intro X hP hw hK hc i pins s σ H E I hf st hg
    subst hP hw hK
    obtain ⟨xs, x, hq, hx⟩ := hg
    obtain ⟨its, rv, p, hz⟩ := I.tuple hq
    obtain ⟨u, hu, ru⟩ := rv.get hx
    obtain ⟨f0, f1, f2, f3, f4, f5⟩ := hf it (by simp)
    refine wpAny_pyNext_tuple_item st (show s.heap.IsTuple a its.toArray from p) (x := u) (by simpa using hu) fun h' st' sb => ?_
    have I1 : Inv X pins σ H { s with heap := h' } := I.turned (t' := s.toks) (fun b o hb e => (sb.2 b hb).trans e) f0 f1 f3 f4 f5
    obtain ⟨o, e, c, d⟩ := id st'
    exact ⟨u, rfl, go_of (s := { s with heap := h' }) e c d (by decide) ⟨x, H, I1, ru, ⟨rfl, fun ys hy => by rw [I.tuple_inj hy hq]; exact hx⟩, st', fun b hb => (hf b hb).1⟩⟩
  done := by
    intro X hP hw hK hc i pins s σ H E I hf st hg
    subst hP hw hK
    obtain ⟨xs, hq, hx⟩ := hg
    obtain ⟨its, rv, p, hz⟩ := I.tuple hq
    obtain ⟨f0, f1, f2, f3, f4, f5⟩ := hf it (by simp)
    have hl := rv.length
    exact wpAny_pyNext_tuple_end (I.ok.hd hc) st (show s.heap.IsTuple a its.toArray from p) (by simp; omega) fun h' eb => ⟨rfl, I.turned (t' := s.toks) (fun b o hb e => eb b o hb e) f0 f1 f3 f4 f5⟩
  self := fun _ _ _ _ _ st h => wpAny_pyIter_tupleiter st h
theorem turn_range {P : Program} {w : World} {K : PySem.W.Frag} {tg : Expr} (it : Addr) (lo : Int) (n : Nat) : Turn P w K tg (Itr lo n) [it] it (fun i h => IsRangeIter h it (lo + (i : Nat) * 1) ((n : Int) - (i : Nat)) 1) where
  mem := by simp
  obj := fun i h st b hb => by
    have e : b = it := by simpa using hb
    subst e
    exact ⟨_, st, fun v z => by
      have z' : Data.fields _ = Data.cell v := z
      cases z'⟩
  keep := fun i h h' st k => k it (by simp) _ st
  item := by
    intro X hP hw hK hc i pins s σ H E I hf st hg
    subst hP hw hK
    obtain ⟨f0, f1, f2, f3, f4, f5⟩ := hf it (by simp)
    have W := Walks.range (prog := X.prog) (w := X.w) (I.ok.hd hc) it lo 1 n
    refine W.item i s _ _ hg st fun v h' tk hv st' kk => ?_
    obtain ⟨t, rfl⟩ := hv
    have I1 : Inv X pins σ H { s with heap := h', toks := tk } := I.turned (fun b o hb e => kk b o (by simpa using hb) e) f0 f1 f3 f4 f5
    refine ⟨_, rfl, go_of (s := { s with heap := h', toks := tk }) (n := "range_iterator") st' rfl rfl (by decide) ⟨.int (lo + i), H, I1, ⟨t, ?_⟩, ⟨rfl, rfl⟩, st', fun b hb => (hf b hb).1⟩⟩
    rw [Int.mul_one]
  done := by
    intro X hP hw hK hc i pins s σ H E I hf st hg
    subst hP hw hK
    obtain ⟨f0, f1, f2, f3, f4, f5⟩ := hf it (by simp)
    exact wpAny_pyNext_range_end (I.ok.hd hc) st (by have : n ≤ i := hg; omega) fun h' eb => ⟨rfl, I.turned (t' := s.toks) (fun b o hb e => eb b o hb e) f0 f1 f3 f4 f5⟩
  self := fun _ _ _ _ _ st h => wpAny_pyIter_rangeiter st h
end L2
namespace L2
open PySem PySem.Spec PyProof.Rows
section
variable {X : Cx} {tg : Expr}
def iList (K : PySem.W.Frag) (tl : TE) : TI := fun σ H R => tl σ H fun x H1 => ∃ a, x = .ref a ∧ (∃ xs, SqL K H1 a xs) ∧ R (Itl K a) H1
def iTup (K : PySem.W.Frag) (tl : TE) : TI := fun σ H R => tl σ H fun x H1 => ∃ a, x = .ref a ∧ (∃ xs, SqT K H1 a xs) ∧ R (Itt K a) H1
theorem pi_list {l : Expr} {tl : TE} (hl : PE X l tl) : PI X tg l (iList X.K tl) := by
  intro pins s σ H R I h
  refine thn (hl pins s σ H _ I h) fun v s1 ⟨x, H1, I1, r1, q1⟩ => ?_
  obtain ⟨a, e, ⟨xs, hq⟩, q⟩ := q1
  subst e
  cases r1
  obtain ⟨its, rv, p, hz⟩ := I1.list hq
  refine wpAny_pyIter_list p.isList ?_
  refine ⟨s1.heap.objs.size, [s1.heap.objs.size], _, _, H1, rfl, I1.kept (t' := s1.toks) fun b o e => Heap.get?_push_of_some _ e, turn_list a _, ⟨_, Heap.get?_push_size _ rfl, rfl, rfl⟩, fun b hb => ?_, q⟩
  have e : b = s1.heap.objs.size := by simpa using hb
  subst e
  exact I1.fpOk (Nat.le_refl _) (I1.hok.fresh (Nat.le_refl _))
theorem pi_tup {l : Expr} {tl : TE} (hl : PE X l tl) : PI X tg l (iTup X.K tl) := by
  intro pins s σ H R I h
  refine thn (hl pins s σ H _ I h) fun v s1 ⟨x, H1, I1, r1, q1⟩ => ?_
  obtain ⟨a, e, ⟨xs, hq⟩, q⟩ := q1
  subst e
  cases r1
  obtain ⟨its, rv, p, hz⟩ := I1.tuple hq
  refine wpAny_pyIter_tuple (show s1.heap.IsTuple a its.toArray from p) ?_
  refine ⟨s1.heap.objs.size, [s1.heap.objs.size], _, _, H1, rfl, I1.kept (t' := s1.toks) fun b o e => Heap.get?_push_of_some _ e, turn_tuple a _, ⟨_, Heap.get?_push_size _ rfl, rfl, rfl⟩, fun b hb => ?_, q⟩
  have e : b = s1.heap.objs.size := by simpa using hb
  subst e
  exact I1.fpOk (Nat.le_refl _) (I1.hok.fresh (Nat.le_refl _))
theorem range_it {pins : List (Addr × Obj)} {σ : St} {H : Hp} {s : Shared} {R : It → Hp → Prop} {E : Value → Shared → Prop} {lo hi : Int} {t u v : Tok} {tk : Nat} (I : Inv X pins σ H s) (h1 : -(2 ^ 62) ≤ lo) (h2 : lo < 2 ^ 62) (h3 : -(2 ^ 62) ≤ hi) (h4 : hi < 2 ^ 62)
    (q : R (Itr lo (hi - lo).toNat) H) : wpAny (model X.prog X.w) X.A (pyIter (.ref s.heap.objs.size)) (PIE X pins σ tg R) E { s with heap := s.heap.push { cls := .type "range", data := .fields #[.int lo t, .int hi u, .int 1 v] }, toks := tk } := by
  refine wpAny_pyIter_range (IsRange.new ..) (small_one h1 h2 h3 h4) ?_
  have I1 : Inv X pins σ H { s with heap := s.heap.push { cls := .type "range", data := .fields #[.int lo t, .int hi u, .int 1 v] }, toks := tk } := I.kept fun b o e => Heap.get?_push_of_some _ e
  refine ⟨(s.heap.push { cls := .type "range", data := .fields #[.int lo t, .int hi u, .int 1 v] }).objs.size, [(s.heap.push { cls := .type "range", data := .fields #[.int lo t, .int hi u, .int 1 v] }).objs.size], _, _, H, rfl,
    I1.kept (t' := tk) fun b o e => Heap.get?_push_of_some _ e, turn_range _ lo (hi - lo).toNat, ?_, fun b hb => ?_, q⟩
  · have e1 : lo + ((0 : Nat) : Int) * 1 = lo := by simp
    have e2 : (((hi - lo).toNat : Nat) : Int) - ((0 : Nat) : Int) = Builtin.Range.rangeSize lo hi 1 := by rw [rangeSize_one]; split <;> omega
    show IsRangeIter _ _ (lo + ((0 : Nat) : Int) * 1) ((((hi - lo).toNat : Nat) : Int) - ((0 : Nat) : Int)) 1
    rw [e1, e2]
    exact Heap.get?_push_size _ rfl
  · have e : b = (s.heap.push { cls := .type "range", data := .fields #[.int lo t, .int hi u, .int 1 v] }).objs.size := by simpa using hb
    subst e
    exact I1.fpOk (Nat.le_refl _) (I1.hok.fresh (Nat.le_refl _))
def iRng1 (ta : TA) : TI := fun σ H R => ta σ H fun vs H1 => ∃ j : Int, vs = [.int j] ∧ -(2 ^ 62) ≤ j ∧ j < 2 ^ 62 ∧ R (Itr 0 j.toNat) H1
theorem pi_range1 {a : Expr} {ta : TA} {p pos : Pos} (hg : Gl X "range") (hm : X.mg "range" = none) (ha : PA X [a] ta) (hs : starEach [a] X.env = [(false, eval a X.env)] := by rfl) : PI X tg (.Call (.Name "range" p) [a] [] pos) (iRng1 ta) := by
  intro pins s σ H R I h
  refine Call_ (ld_blt I hg hm boot_range (PyProof.Rows.callWith_type1 (thn (ha pos pins s σ H _ I h) fun us s1 ⟨vs, H1, I1, r1, q1⟩ => ?_) hs rfl))
  obtain ⟨j, e, q1, q2, q⟩ := q1
  subst e
  cases r1 with
  | cons r rr =>
    cases rr
    obtain ⟨t, rfl⟩ := r
    exact call_range_1 (range_it I1 (by omega) (by omega) q1 q2 (by simpa using q))
def tFor (wi : TI) (g : TG) (tb : TS) : TS := fun D σ H => wi σ H fun J H1 => ∃ W : Nat → Nat → St → Hp → Prop, (∃ m, W 0 m σ H1) ∧ ∀ i m σ H, W i m σ H →
  (J.stop i H ∧ D.nx σ H) ∨ (J.go i H ∧ ∃ N : St → Hp → Prop, (∀ σ' H', N σ' H' → ∃ m', m' < m ∧ W (i + 1) m' σ' H') ∧ ∀ x H', J.yld i H x H' → g x σ H' fun σ2 H2 => tb { D with nx := N, ct := N, bk := D.nx } σ2 H2)
def pinsAt (fp : List Addr) (h : Heap) : List (Addr × Obj) := fp.filterMap fun b => (h.get? b).map fun o => (b, o)
theorem mem_pinsAt {fp : List Addr} {h : Heap} {b : Addr} {o : Obj} (hb : b ∈ fp) (e : h.get? b = some o) : (b, o) ∈ pinsAt fp h := List.mem_filterMap.mpr ⟨b, hb, by rw [e]; rfl⟩
theorem of_pinsAt {fp : List Addr} {h : Heap} {p : Addr × Obj} (hp : p ∈ pinsAt fp h) : p.1 ∈ fp ∧ h.get? p.1 = some p.2 := by
  obtain ⟨b, hb, e⟩ := List.mem_filterMap.mp hp
  cases q : h.get? b with
  | none => rw [q] at e; cases e
  | some o =>
    rw [q] at e
    have e' : (b, o) = p := Option.some.inj e
    subst e'
    exact ⟨hb, q⟩
theorem Inv.pinned {pins : List (Addr × Obj)} {σ : St} {H : Hp} {s : Shared} {fp : List Addr} (I : Inv X pins σ H s) (hf : ∀ b ∈ fp, FpOk X pins H b) (ho : ∀ b ∈ fp, ∃ o, s.heap.get? b = some o ∧ ∀ v, o.data ≠ .cell v) : Inv X (pins ++ pinsAt fp s.heap) σ H s :=
  I.pins_of fun p hp => (List.mem_append.mp hp).elim (fun z => I.pin p (List.mem_append_right _ z)) fun z => by
    obtain ⟨hb, e⟩ := of_pinsAt z
    obtain ⟨f0, f1, f2, _⟩ := hf p.1 hb
    obtain ⟨o, e', d⟩ := ho p.1 hb
    rw [e] at e'; cases e'
    exact ⟨e, f0, f1, f2, d⟩
theorem Inv.unpinned {pins pl : List (Addr × Obj)} {σ : St} {H : Hp} {s : Shared} (I : Inv X (pins ++ pl) σ H s) : Inv X pins σ H s := I.pins_of fun p hp => I.pin p (List.mem_append_right _ (List.mem_append_left _ hp))
theorem ps_for {iter : Expr} {body : List Stmt} {wi : TI} {g : TG} {tb : TS} {pos : Pos} (hp : PassesOwn (model X.prog X.w) X.A X.env X.xe) (hc : X.calm = true) (hi : PI X tg iter wi) (hg : PG X tg g) (hb : PSs X body tb)
    (hs : ∀ x, foldedSetIterable iter X.env x = pure x := by intro _; rfl) : PS X (.For tg iter body [] pos) (tFor wi g tb) := by
  intro pins s σ H D I h
  refine wpAny_For (thn (hi pins s σ H _ I h) fun v s1 h1 => thn h1 fun itv s2 h2 => ?_) hs
  obtain ⟨it, fp, tn, J, H2, e, I2, T, st2, f2, W, ⟨m0, w0⟩, turn⟩ := h2
  subst e
  -- what stays true of the iterator's objects through the loop
  have stat : ∀ {H' : Hp}, (∀ b ∈ fp, H' b = none) → ∀ b ∈ fp, FpOk X pins H' b := fun hn b hb => ⟨hn b hb, (f2 b hb).2⟩
  refine codeAny_forLoop_any (fun n s' => ∃ i σ' H', Inv X pins σ' H' s' ∧ tn i s'.heap ∧ (∀ b ∈ fp, H' b = none) ∧ W i n σ' H') ?_ m0 ⟨0, σ, H2, I2, st2, fun b hb => (f2 b hb).1, w0⟩
  rintro n s3 ⟨i, σ3, H3, I3, st3, fr3, w3⟩
  rcases turn i n σ3 H3 w3 with ⟨stop, qn⟩ | ⟨go, N, hN, step⟩
  · refine wpAny_passesOwn hp (thn (T.done X rfl rfl rfl hc i pins s3 σ3 H3 X.xe I3 (stat fr3) st3 stop) fun r s4 ⟨hr, I4⟩ => ?_)
    subst hr
    exact wpAny_execs_nil ⟨σ3, H3, I4, qn⟩
  · refine wpAny_passesOwn hp (thn (T.item X rfl rfl rfl hc i pins s3 σ3 H3 X.xe I3 (stat fr3) st3 go) fun r s4 ⟨u, hr, h4⟩ => ?_)
    subst hr
    refine wpAny_passesOwn hp (thn h4 fun _ s5 ⟨x, H5, I5, r5, y5, st5, fr5⟩ => ?_)
    have I5' := I5.pinned (stat fr5) (T.obj _ _ st5)
    refine wpAny_passesOwn hp (thn (hg _ s5 σ3 H5 x u _ I5' r5 (step x H5 y5)) fun _ s6 ⟨σ6, H6, I6, q6⟩ => ?_)
    refine wpAny_passesOwn hp (thn (hb _ s6 σ6 H6 _ I6 q6) fun f s7 q7 => ?_)
    have again : ∀ {σ7 : St} {H7 : Hp}, Inv X (pins ++ pinsAt fp s5.heap) σ7 H7 s7 → N σ7 H7 → ∃ m, m < n ∧ ∃ i σ' H', Inv X pins σ' H' s7 ∧ tn i s7.heap ∧ (∀ b ∈ fp, H' b = none) ∧ W i m σ' H' := fun {σ7 H7} I7 n7 => by
      obtain ⟨m', hm, w7⟩ := hN σ7 H7 n7
      refine ⟨m', hm, i + 1, σ7, H7, I7.unpinned, T.keep _ _ _ st5 fun b hb o e => (I7.pin (b, o) (List.mem_append_right _ (List.mem_append_right _ (mem_pinsAt hb e)))).1, fun b hb => ?_, w7⟩
      obtain ⟨o, e, d⟩ := T.obj _ _ st5 b hb
      exact (I7.pin (b, o) (List.mem_append_right _ (List.mem_append_right _ (mem_pinsAt hb e)))).2.1
    cases f with
    | next => obtain ⟨σ7, H7, I7, n7⟩ := q7; exact again I7 n7
    | cont => obtain ⟨σ7, H7, I7, n7⟩ := q7; exact again I7 n7
    | brk => obtain ⟨σ7, H7, I7, q7⟩ := q7; exact ⟨σ7, H7, I7.unpinned, q7⟩
    | ret v => obtain ⟨x7, σ7, H7, I7, r7, q7⟩ := q7; exact ⟨x7, σ7, H7, I7.unpinned, r7, q7⟩
end
theorem for_list {K : PySem.W.Frag} {a : Addr} {xs : List V} {g : TG} {tb : TS} {D : Ends} {σ : St} {H : Hp} (Pv : Nat → St → Hp → Prop) (h0 : Pv 0 σ H) (hl : ∀ i σ H, i ≤ xs.length → Pv i σ H → SqL K H a xs)
    (hs : ∀ i x σ H, xs[i]? = some x → Pv i σ H → g x σ H fun σ2 H2 => tb { D with nx := Pv (i + 1), ct := Pv (i + 1), bk := D.nx } σ2 H2) (hd : ∀ σ H, Pv xs.length σ H → D.nx σ H) :
    ∃ W : Nat → Nat → St → Hp → Prop, (∃ m, W 0 m σ H) ∧ ∀ i m σ H, W i m σ H →
      ((Itl K a).stop i H ∧ D.nx σ H) ∨ ((Itl K a).go i H ∧ ∃ N : St → Hp → Prop, (∀ σ' H', N σ' H' → ∃ m', m' < m ∧ W (i + 1) m' σ' H') ∧ ∀ x H', (Itl K a).yld i H x H' → g x σ H' fun σ2 H2 => tb { D with nx := N, ct := N, bk := D.nx } σ2 H2) := by
  refine ⟨fun i m σ H => m = xs.length - i ∧ i ≤ xs.length ∧ Pv i σ H, ⟨xs.length, by simp, Nat.zero_le _, h0⟩, ?_⟩
  rintro i m σ H ⟨rfl, hi, p⟩
  have q := hl i σ H hi p
  by_cases hlt : i < xs.length
  · refine .inr ⟨⟨xs, xs[i], q, by simp [hlt]⟩, Pv (i + 1), fun σ' H' p' => ⟨xs.length - (i + 1), by omega, rfl, hlt, p'⟩, fun x H' y => ?_⟩
    obtain ⟨e, y⟩ := y
    subst e
    exact hs i x σ _ (y xs q) p
  · have e : i = xs.length := by omega
    subst e
    exact .inl ⟨⟨xs, q, Nat.le_refl _⟩, hd σ H p⟩
theorem for_tup {K : PySem.W.Frag} {a : Addr} {xs : List V} {g : TG} {tb : TS} {D : Ends} {σ : St} {H : Hp} (Pv : Nat → St → Hp → Prop) (h0 : Pv 0 σ H) (hl : ∀ i σ H, i ≤ xs.length → Pv i σ H → SqT K H a xs)
    (hs : ∀ i x σ H, xs[i]? = some x → Pv i σ H → g x σ H fun σ2 H2 => tb { D with nx := Pv (i + 1), ct := Pv (i + 1), bk := D.nx } σ2 H2) (hd : ∀ σ H, Pv xs.length σ H → D.nx σ H) :
    ∃ W : Nat → Nat → St → Hp → Prop, (∃ m, W 0 m σ H) ∧ ∀ i m σ H, W i m σ H →
      ((Itt K a).stop i H ∧ D.nx σ H) ∨ ((Itt K a).go i H ∧ ∃ N : St → Hp → Prop, (∀ σ' H', N σ' H' → ∃ m', m' < m ∧ W (i + 1) m' σ' H') ∧ ∀ x H', (Itt K a).yld i H x H' → g x σ H' fun σ2 H2 => tb { D with nx := N, ct := N, bk := D.nx } σ2 H2) := by
  refine ⟨fun i m σ H => m = xs.length - i ∧ i ≤ xs.length ∧ Pv i σ H, ⟨xs.length, by simp, Nat.zero_le _, h0⟩, ?_⟩
  rintro i m σ H ⟨rfl, hi, p⟩
  have q := hl i σ H hi p
  by_cases hlt : i < xs.length
  · refine .inr ⟨⟨xs, xs[i], q, by simp [hlt]⟩, Pv (i + 1), fun σ' H' p' => ⟨xs.length - (i + 1), by omega, rfl, hlt, p'⟩, fun x H' y => ?_⟩
    obtain ⟨e, y⟩ := y
    subst e
    exact hs i x σ _ (y xs q) p
  · have e : i = xs.length := by omega
    subst e
    exact .inl ⟨⟨xs, q, Nat.le_refl _⟩, hd σ H p⟩
theorem for_range {lo : Int} {n : Nat} {g : TG} {tb : TS} {D : Ends} {σ : St} {H : Hp} (Pv : Nat → St → Hp → Prop) (h0 : Pv 0 σ H)
    (hs : ∀ i σ H, i < n → Pv i σ H → g (.int (lo + i)) σ H fun σ2 H2 => tb { D with nx := Pv (i + 1), ct := Pv (i + 1), bk := D.nx } σ2 H2) (hd : ∀ σ H, Pv n σ H → D.nx σ H) :
    ∃ W : Nat → Nat → St → Hp → Prop, (∃ m, W 0 m σ H) ∧ ∀ i m σ H, W i m σ H →
      ((Itr lo n).stop i H ∧ D.nx σ H) ∨ ((Itr lo n).go i H ∧ ∃ N : St → Hp → Prop, (∀ σ' H', N σ' H' → ∃ m', m' < m ∧ W (i + 1) m' σ' H') ∧ ∀ x H', (Itr lo n).yld i H x H' → g x σ H' fun σ2 H2 => tb { D with nx := N, ct := N, bk := D.nx } σ2 H2) := by
  refine ⟨fun i m σ H => m = n - i ∧ i ≤ n ∧ Pv i σ H, ⟨n, by simp, Nat.zero_le _, h0⟩, ?_⟩
  rintro i m σ H ⟨rfl, hi, p⟩
  by_cases hlt : i < n
  · refine .inr ⟨hlt, Pv (i + 1), fun σ' H' p' => ⟨n - (i + 1), by omega, rfl, hlt, p'⟩, fun x H' y => ?_⟩
    obtain ⟨e, y⟩ := y
    subst e y
    exact hs i σ _ hlt p
  · have e : i = n := by omega
    subst e
    exact .inl ⟨Nat.le_refl _, hd σ H p⟩
end L2
namespace L2
open PySem PySem.Spec PyProof.Rows
abbrev R2 := V → V → Hp → VK → Prop
def OpR (X : Cx) (f : Value → Value → Sem Value) (r : R2) : Prop :=
  ∀ (pins : List (Addr × Obj)) (s : Shared) (σ : St) (H : Hp) (x y : V) (v u : Value) (Q : VK), Inv X pins σ H s → RelV x v → RelV y u → r x y H Q →
    wpAny (model X.prog X.w) X.A (f v u) (EP X pins σ Q) X.xe s
def CallR (X : Cx) (f : Value) (r : List V → Hp → VK → Prop) : Prop :=
  ∀ (pins : List (Addr × Obj)) (s : Shared) (σ : St) (H : Hp) (xs : List V) (us : List Value) (Q : VK), Inv X pins σ H s → Vals xs us → r xs H Q →
    wpAny (model X.prog X.w) X.A (call f us) (EP X pins σ Q) X.xe s
def tOp (r : R2) (ta tb : TE) : TE := fun σ H Q => ta σ H fun x H1 => tb σ H1 fun y H2 => r x y H2 Q
def rI (C : Int → Int → Prop) (g : Int → Int → V) : R2 := fun x y H Q => ∃ i j, x = .int i ∧ y = .int j ∧ C i j ∧ Q (g i j) H
def rI0 (g : Int → Int → V) : R2 := fun x y H Q => ∃ i j, x = .int i ∧ y = .int j ∧ Q (g i j) H
section
variable {X : Cx} {a b c : Expr} {ta tb tc : TE} {pos : Pos}
theorem binT (ha : PE X a ta) (hb : PE X b tb) {pins : List (Addr × Obj)} {s : Shared} {σ : St} {H : Hp} {R : V → V → Hp → Prop} (I : Inv X pins σ H s)
    (h : ta σ H fun x H1 => tb σ H1 fun y H2 => R x y H2) {Q : Value → Shared → Prop} {f : Value → Value → Sem Value}
    (hf : ∀ v u s2 x y H2, Inv X pins σ H2 s2 → RelV x v → RelV y u → R x y H2 → wpAny (model X.prog X.w) X.A (f v u) Q X.xe s2) :
    wpAny (model X.prog X.w) X.A (eval a X.env) (fun v s₁ => wpAny (model X.prog X.w) X.A (eval b X.env) (fun u s₂ => wpAny (model X.prog X.w) X.A (f v u) Q X.xe s₂) X.xe s₁) X.xe s := by
  refine thn (ha pins s σ H _ I h) fun v s1 ⟨x, H1, I1, r1, q1⟩ => ?_
  refine thn (hb pins s1 σ H1 _ I1 q1) fun u s2 ⟨y, H2, I2, r2, q2⟩ => ?_
  exact hf v u s2 x y H2 I2 r1 r2 q2
theorem pe_op {op : Operator} {r : R2} (ho : OpR X (binaryOp op) r) (ha : PE X a ta) (hb : PE X b tb) : PE X (.BinOp a op b pos) (tOp r ta tb) := by
  intro pins s σ H Q I h
  exact wpAny_BinOp (binT ha hb I h fun v u s2 x y H2 I2 rx ry q => ho pins s2 σ H2 x y v u Q I2 rx ry q)
theorem opI {f : Value → Value → Sem Value} {C : Int → Int → Prop} {g : Int → Int → Int}
    (rule : ∀ (i j : Int) (t u : Tok) (s : Shared) (Q : Value → Shared → Prop) (E : Value → Shared → Prop), C i j → Q (.int (g i j) s.toks) { s with toks := s.toks + 1 } → wpAny (model X.prog X.w) X.A (f (.int i t) (.int j u)) Q E s) :
    OpR X f (rI C fun i j => .int (g i j)) := by
  intro pins s σ H x y v u Q I rx ry h
  obtain ⟨i, j, rfl, rfl, hc, q⟩ := h
  obtain ⟨t, rfl⟩ := rx
  obtain ⟨t', rfl⟩ := ry
  exact rule i j t t' s _ _ hc ⟨.int (g i j), H, I.tok _, ⟨_, rfl⟩, q⟩
theorem opI0 {f : Value → Value → Sem Value} {g : Int → Int → Int}
    (rule : ∀ (i j : Int) (t u : Tok) (s : Shared) (Q : Value → Shared → Prop) (E : Value → Shared → Prop), Q (.int (g i j) s.toks) { s with toks := s.toks + 1 } → wpAny (model X.prog X.w) X.A (f (.int i t) (.int j u)) Q E s) :
    OpR X f (rI0 fun i j => .int (g i j)) := by
  intro pins s σ H x y v u Q I rx ry h
  obtain ⟨i, j, rfl, rfl, q⟩ := h
  obtain ⟨t, rfl⟩ := rx
  obtain ⟨t', rfl⟩ := ry
  exact rule i j t t' s _ _ ⟨.int (g i j), H, I.tok _, ⟨_, rfl⟩, q⟩
theorem opB0 {f : Value → Value → Sem Value} {g : Int → Int → Bool}
    (rule : ∀ (i j : Int) (t u : Tok) (s : Shared) (Q : Value → Shared → Prop) (E : Value → Shared → Prop), Q (.bool (g i j)) s → wpAny (model X.prog X.w) X.A (f (.int i t) (.int j u)) Q E s) :
    OpR X f (rI0 fun i j => .bl (g i j)) := by
  intro pins s σ H x y v u Q I rx ry h
  obtain ⟨i, j, rfl, rfl, q⟩ := h
  obtain ⟨t, rfl⟩ := rx
  obtain ⟨t', rfl⟩ := ry
  exact rule i j t t' s _ _ ⟨.bl (g i j), H, I, rfl, q⟩
def CDiv (i j : Int) : Prop := 0 < j ∧ j < 1073741824
def CPow (i j : Int) : Prop := 0 ≤ j ∧ j ≤ 1000000 ∧ i.natAbs < 2 ^ 64
def CMul (i j : Int) : Prop := (-(2 ^ 64) < i ∧ i < 2 ^ 64) ∨ (-(2 ^ 64) < j ∧ j < 2 ^ 64)
theorem CMul.ok {i j : Int} (h : CMul i j) : IntMulOk i j := by
  rcases h with ⟨h1, h2⟩ | ⟨h1, h2⟩
  · exact .of_left (intBits_le_64 h1 h2)
  · exact .of_right (intBits_le_64 h1 h2)
theorem op_add : OpR X (binaryOp .Add) (rI0 fun i j => .int (i + j)) := opI0 fun _ _ _ _ _ _ _ q => add_int q
theorem op_sub : OpR X (binaryOp .Sub) (rI0 fun i j => .int (i - j)) := opI0 fun _ _ _ _ _ _ _ q => sub_int q
theorem op_mul : OpR X (binaryOp .Mult) (rI CMul fun i j => .int (i * j)) := opI fun _ _ _ _ _ _ _ hc q => mul_int q hc.ok
theorem op_fdiv : OpR X (binaryOp .FloorDiv) (rI CDiv fun i j => .int (i / j)) := opI fun i j _ _ _ _ _ hc q => by
  have h1 : (0 : Int) < j := hc.1
  have h2 : j < 1073741824 := hc.2
  exact floordiv_int (by omega) (by rw [Int.fdiv_eq_ediv_of_nonneg i (by omega)]; exact q) (.inl (PyProof.noPylong_small (by omega)))
theorem op_mod : OpR X (binaryOp .Mod) (rI (fun _ j => 0 < j) fun i j => .int (i % j)) := opI fun i j _ _ _ _ _ hc q => by
  have h1 : (0 : Int) < j := hc
  exact mod_int' (by omega) (by rw [Int.fmod_eq_emod_of_nonneg i (by omega)]; exact q)
theorem op_pow : OpR X (binaryOp .Pow) (rI CPow fun i j => .int (i ^ j.toNat)) := opI fun _ _ _ _ _ _ _ hc q => pow_int_small hc.1 hc.2.1 hc.2.2 q
end
def scal : V → V → Bool
  | .non, .non => true | .non, .int _ => true | .int _, .non => true | .non, .bl _ => true | .bl _, .non => true | .non, .str _ => true | .str _, .non => true
  | .int _, .int _ => true | .bl _, .bl _ => true | .str _, .str _ => true | .byt _, .byt _ => true
  | .int _, .str _ => true | .str _, .int _ => true | .bl _, .str _ => true | .str _, .bl _ => true
  | _, _ => false
def rEq : R2 := fun x y H Q => scal x y = true ∧ Q (.bl (decide (x = y))) H
theorem dec_int {i j : Int} : decide (V.int i = V.int j) = (i == j) := by
  rw [Bool.eq_iff_iff]
  simp
theorem dec_bl {i j : Bool} : decide (V.bl i = V.bl j) = (i == j) := by
  rw [Bool.eq_iff_iff]
  simp
theorem dec_str {i j : Str} : decide (V.str i = V.str j) = (i == j) := by
  rw [Bool.eq_iff_iff]
  simp
theorem dec_byt {i j : Array UInt8} : decide (V.byt i = V.byt j) = (i.toList == j.toList) := by
  rw [Bool.eq_iff_iff]
  cases i
  cases j
  simp
section
variable {X : Cx} {a b c : Expr} {ta tb tc : TE} {pos : Pos}
theorem fin_bl {pins : List (Addr × Obj)} {σ : St} {H : Hp} {s : Shared} {Q : VK} {k k' : Bool} (I : Inv X pins σ H s) (q : Q (.bl k) H) (e : k = k') : EP X pins σ Q (.bool k') s := by
  subst e
  exact ⟨.bl k, H, I, rfl, q⟩
theorem op_eq : OpR X (compareOp .Eq) rEq := by
  intro pins s σ H x y v u Q I rx ry h
  obtain ⟨hs, q⟩ := h
  cases x with
  | non =>
    cases rx
    cases y with
    | non => cases ry; exact PySem.EqNone.eq_none_none (fin_bl I q (by simp))
    | bl j => cases ry; exact PySem.EqNone.eq_none_bool (fin_bl I q (by simp))
    | int j => obtain ⟨t', rfl⟩ := ry; exact PySem.EqNone.eq_none_int (fin_bl I q (by simp))
    | str j => obtain ⟨t', rfl⟩ := ry; exact PySem.EqNone.eq_none_str (fin_bl I q (by simp))
    | _ => exact absurd (show false = true from hs) Bool.false_ne_true
  | bl i =>
    cases rx
    cases y with
    | non => cases ry; exact PySem.EqNone.eq_bool_none (fin_bl I q (by simp))
    | bl j => cases ry; exact eq_bool (fin_bl I q dec_bl)
    | str j => obtain ⟨t', rfl⟩ := ry; exact PySem.EqMixed.eq_bool_str (fin_bl I q (by simp))
    | _ => exact absurd (show false = true from hs) Bool.false_ne_true
  | int i =>
    obtain ⟨t, rfl⟩ := rx
    cases y with
    | non => cases ry; exact PySem.EqNone.eq_int_none (fin_bl I q (by simp))
    | int j => obtain ⟨t', rfl⟩ := ry; exact eq_int (fin_bl I q dec_int)
    | str j => obtain ⟨t', rfl⟩ := ry; exact PySem.EqMixed.eq_int_str (fin_bl I q (by simp))
    | _ => exact absurd (show false = true from hs) Bool.false_ne_true
  | str i =>
    obtain ⟨t, rfl⟩ := rx
    cases y with
    | non => cases ry; exact PySem.EqNone.eq_str_none (fin_bl I q (by simp))
    | bl j => cases ry; exact PySem.EqMixed.eq_str_bool (fin_bl I q (by simp))
    | int j => obtain ⟨t', rfl⟩ := ry; exact PySem.EqMixed.eq_str_int (fin_bl I q (by simp))
    | str j => obtain ⟨t', rfl⟩ := ry; exact eq_str (fin_bl I q dec_str)
    | _ => exact absurd (show false = true from hs) Bool.false_ne_true
  | byt i =>
    obtain ⟨t, rfl⟩ := rx
    cases y with
    | byt j => obtain ⟨t', rfl⟩ := ry; exact PySem.W.eq_bytes (fin_bl I q dec_byt)
    | _ => exact absurd (show false = true from hs) Bool.false_ne_true
  | _ => cases y <;> exact absurd (show false = true from hs) Bool.false_ne_true
theorem op_lt : OpR X (compareOp .Lt) (rI0 fun i j => .bl (decide (i < j))) := opB0 fun _ _ _ _ _ _ _ q => lt_int q
theorem op_gt : OpR X (compareOp .Gt) (rI0 fun i j => .bl (decide (j < i))) := opB0 fun _ _ _ _ _ _ _ q => gt_int q
theorem op_ge : OpR X (compareOp .GtE) (rI0 fun i j => .bl (decide (j ≤ i))) := opB0 fun _ _ _ _ _ _ _ q => ge_int q
theorem nomark (b : Expr) {op : CmpOp} (h : op ≠ .In := by decide) (h2 : op ≠ .NotIn := by decide) : behindInMarks op b = false := by
  have e1 : (op == CmpOp.In) = false := by cases op <;> first | rfl | exact absurd rfl h
  have e2 : (op == CmpOp.NotIn) = false := by cases op <;> first | rfl | exact absurd rfl h2
  cases b <;> simp [behindInMarks, e1, e2]
theorem pe_cmpR {op : CmpOp} {r : R2} (ho : OpR X (compareOp op) r) (ha : PE X a ta) (hb : PE X b tb) (hm : behindInMarks op b = false) : PE X (.Compare a [op] [b] pos) (tOp r ta tb) := by
  intro pins s σ H Q I h
  exact wpAny_Compare1 (binT ha hb I h fun v u s2 x y H2 I2 rx ry q => ho pins s2 σ H2 x y v u Q I2 rx ry q) hm
def tTest (t : TE) : TT := fun σ H Q => t σ H fun x H' => ∃ k, x = .bl k ∧ Q k H'
theorem pt_cmpR {op : CmpOp} {r : R2} (ho : OpR X (compareOp op) r) (ha : PE X a ta) (hb : PE X b tb) (hm : behindInMarks op b = false) : PT X (.Compare a [op] [b] pos) (tTest (tOp r ta tb)) := by
  intro pins s σ H Q I h
  refine wpAny_isTrue_Compare1 (thn (ha pins s σ H _ I h) fun v s1 ⟨x, H1, I1, r1, q1⟩ => thn (hb pins s1 σ H1 _ I1 q1) fun u s2 ⟨y, H2, I2, r2, q2⟩ =>
    thn (ho pins s2 σ H2 x y v u _ I2 r1 r2 q2) fun c s3 ⟨z, H3, I3, r3, k, e, q3⟩ => ?_) hm
  subst e
  cases r3
  exact wpAny_truthy_bool ⟨H3, I3, q3⟩
def tChain (r r' : R2) (ta tb tc : TE) : TE := fun σ H Q => ta σ H fun x H1 => tb σ H1 fun y H2 => r x y H2 fun z H3 => ∃ k, z = .bl k ∧
  (if k = true then tc σ H3 fun w' H4 => r' y w' H4 Q else Q (.bl false) H3)
theorem pe_chain {op op' : CmpOp} {r r' : R2} (ho : OpR X (compareOp op) r) (ho' : OpR X (compareOp op') r') (ha : PE X a ta) (hb : PE X b tb) (hc : PE X c tc)
    (hm : lastMarks [op, op'] [b, c] = false := by with_unfolding_all rfl) : PE X (.Compare a [op, op'] [b, c] pos) (tChain r r' ta tb tc) := by
  intro pins s σ H Q I h
  refine Compare_chain (thn (ha pins s σ H _ I h) fun v s1 ⟨x, H1, I1, r1, q1⟩ => chain_link (thn (hb pins s1 σ H1 _ I1 q1) fun u s2 ⟨y, H2, I2, r2, q2⟩ =>
    thn (ho pins s2 σ H2 x y v u _ I2 r1 r2 q2) fun d s3 ⟨z, H3, I3, r3, k, e, q3⟩ => ?_)) hm
  subst e
  cases r3
  refine wpAny_truthy_bool ?_
  cases k with
  | false => exact ite_ff ⟨.bl false, H3, I3, rfl, q3⟩
  | true => exact ite_tt (chain_last (thn (hc pins s3 σ H3 _ I3 q3) fun w' s4 ⟨z', H4, I4, r4, q4⟩ => ho' pins s4 σ H4 y z' u w' Q I4 r2 r4 q4))
theorem line63 : (sizeLine : Nat) < 2 ^ 63 := by rw [sizeLine_eq]; decide
theorem op_add_str : OpR X (binaryOp .Add) (fun x y H Q => ∃ i j, x = .str i ∧ y = .str j ∧ i.length + j.length ≤ sizeLine ∧ Q (.str (i ++ j)) H) := by
  intro pins s σ H x y v u Q I rx ry h
  obtain ⟨i, j, rfl, rfl, hz, q⟩ := h
  obtain ⟨t, rfl⟩ := rx
  obtain ⟨t', rfl⟩ := ry
  exact add_str (fun t' tk => ⟨.str (i ++ j), H, I.tok _, ⟨_, rfl⟩, q⟩) hz
theorem vals1 {x : V} {us : List Value} (r : Vals [x] us) : ∃ u, us = [u] ∧ RelV x u := by
  cases r with
  | cons r1 r2 => cases r2; exact ⟨_, rfl, r1⟩
theorem vals2 {x y : V} {us : List Value} (r : Vals [x, y] us) : ∃ u w', us = [u, w'] ∧ RelV x u ∧ RelV y w' := by
  cases r with
  | cons r1 r2 =>
    cases r2 with
    | cons r3 r4 => cases r4; exact ⟨_, _, rfl, r1, r3⟩
theorem call_abs : CallR X (.builtin "abs") (fun xs H Q => ∃ i, xs = [.int i] ∧ Q (.int (if i < 0 then -i else i)) H) := by
  intro pins s σ H xs us Q I r h
  obtain ⟨i, rfl, q⟩ := h
  obtain ⟨u, rfl, t, rfl⟩ := vals1 r
  exact call_abs_int fun u tk => ⟨.int (if i < 0 then -i else i), H, I.tok _, ⟨_, rfl⟩, q⟩
theorem call_max2 (hc : X.calm = true) : CallR X (.builtin "max") (fun xs H Q => ∃ i j, xs = [.int i, .int j] ∧ Q (.int (if j > i then j else i)) H) := by
  intro pins s σ H xs us Q I r h
  obtain ⟨i, j, rfl, q⟩ := h
  obtain ⟨u, w', rfl, ⟨t, rfl⟩, ⟨t', rfl⟩⟩ := vals2 r
  refine max_two_ints (I.ok.hd hc) fun h' tk k => ⟨_, H, I.kept k, ?_, q⟩
  by_cases hj : j > i
  · rw [if_pos hj, if_pos hj]; exact ⟨_, rfl⟩
  · rw [if_neg hj, if_neg hj]; exact ⟨_, rfl⟩
theorem call_min2 (hc : X.calm = true) : CallR X (.builtin "min") (fun xs H Q => ∃ i j, xs = [.int i, .int j] ∧ Q (.int (if j < i then j else i)) H) := by
  intro pins s σ H xs us Q I r h
  obtain ⟨i, j, rfl, q⟩ := h
  obtain ⟨u, w', rfl, ⟨t, rfl⟩, ⟨t', rfl⟩⟩ := vals2 r
  refine min_two_ints (I.ok.hd hc) fun h' tk k => ⟨_, H, I.kept k, ?_, q⟩
  by_cases hj : j < i
  · rw [if_pos hj, if_pos hj]; exact ⟨_, rfl⟩
  · rw [if_neg hj, if_neg hj]; exact ⟨_, rfl⟩
theorem call_int1 : CallR X (.type "int") (fun xs H Q => (∃ i, xs = [.int i] ∧ Q (.int i) H) ∨ ∃ k, xs = [.bl k] ∧ Q (.int (if k then 1 else 0)) H) := by
  intro pins s σ H xs us Q I r h
  rcases h with ⟨i, rfl, q⟩ | ⟨k, rfl, q⟩
  · obtain ⟨u, rfl, t, rfl⟩ := vals1 r
    exact call_int_int ⟨.int i, H, I, ⟨_, rfl⟩, q⟩
  · obtain ⟨u, rfl, r1⟩ := vals1 r
    cases r1
    exact call_int_bool ⟨.int (if k then 1 else 0), H, I.tok _, ⟨_, rfl⟩, q⟩
def LenV (K : PySem.W.Frag) (x : V) (H : Hp) (n : Nat) : Prop :=
  match x with
  | .str y => y.length ≤ sizeLine ∧ n = y.length
  | .byt y => y.size ≤ sizeLine ∧ n = y.size
  | .ref p => (∃ xs, SqL K H p xs ∧ n = xs.length) ∨ ∃ xs, SqT K H p xs ∧ n = xs.length
  | _ => False
theorem call_len : CallR X (.builtin "len") (fun xs H Q => ∃ x n, xs = [x] ∧ LenV X.K x H n ∧ Q (.int n) H) := by
  intro pins s σ H xs us Q I r h
  obtain ⟨x, n, rfl, e, q⟩ := h
  obtain ⟨u, rfl, rx⟩ := vals1 r
  have hl := line63
  have hs : sizeLine = 16777216 := sizeLine_eq
  cases x with
  | str y =>
    obtain ⟨t, rfl⟩ := rx
    obtain ⟨hy, e'⟩ : y.length ≤ sizeLine ∧ n = y.length := e
    subst e'
    exact len_str (by omega) ⟨.int _, H, I.tok _, ⟨_, rfl⟩, q⟩
  | byt y =>
    obtain ⟨t, rfl⟩ := rx
    obtain ⟨hy, e'⟩ : y.size ≤ sizeLine ∧ n = y.size := e
    subst e'
    exact PySem.W.len_bytes (by omega) ⟨.int _, H, I.tok _, ⟨_, rfl⟩, q⟩
  | ref p =>
    cases rx
    have e' : (∃ xs, SqL X.K H p xs ∧ n = xs.length) ∨ ∃ xs, SqT X.K H p xs ∧ n = xs.length := e
    rcases e' with ⟨xs, hx, e'⟩ | ⟨xs, hx, e'⟩
    · subst e'
      obtain ⟨its, r', pl, hz⟩ := I.list hx
      have hlen := r'.length
      exact Calls.call_len_list pl.isList (by simp only [List.size_toArray]; omega) ⟨.int xs.length, H, I.tok _, ⟨_, by simp only [List.size_toArray]; rw [hlen]⟩, q⟩
    · subst e'
      obtain ⟨its, r', pl, hz⟩ := I.tuple hx
      have hlen := r'.length
      exact len_tuple pl (by simp only [List.size_toArray]; omega) ⟨.int xs.length, H, I.tok _, ⟨_, by simp only [List.size_toArray]; rw [hlen]⟩, q⟩
  | _ => exact (show False from e).elim
theorem call_divmod : CallR X (.builtin "divmod") (fun xs H Q => ∃ i j, xs = [.int i, .int j] ∧ CDiv i j ∧ ∀ p, H p = none → Q (.ref p) (upd H p (.tup [.int (i / j), .int (i % j)]))) := by
  intro pins s σ H xs us Q I r h
  obtain ⟨i, j, rfl, ⟨h1, h2⟩, q⟩ := h
  obtain ⟨u, w', rfl, ⟨t, rfl⟩, ⟨t', rfl⟩⟩ := vals2 r
  refine divmod_int (by omega) ?_ (.inl (PyProof.noPylong_small (by omega)))
  rw [Int.fdiv_eq_ediv_of_nonneg i (by omega), Int.fmod_eq_emod_of_nonneg i (by omega)]
  have hn : H s.heap.objs.size = none := I.hok.fresh (Nat.le_refl _)
  refine ⟨.ref s.heap.objs.size, _, ?_, rfl, q _ hn⟩
  refine I.laid (fun b o e => Heap.get?_push_of_some _ e) (Nat.le_refl _) ⟨by simp only [List.length_cons, List.length_nil]; rw [sizeLine_eq]; decide, [.int (i / j) s.toks, .int (i % j) (s.toks + 1)], .cons ⟨_, rfl⟩ (.cons ⟨_, rfl⟩ .nil), ?_⟩
  exact ⟨_, Heap.get?_push_size s.heap rfl, rfl, ⟨0, rfl⟩, rfl⟩
end
end L2
namespace L2
open PySem PySem.Spec PyProof.Rows
structure ObjM (h : Heap) (x dx C : Addr) (mA : Str → Option Value) : Prop where
  obj : h.get? x = some (PySem.W.instObj C dx)
  ns : h.Ns1 dx mA
  ne : dx ≠ x
theorem lookIn_ns {h : Heap} {dx : Addr} {mA : Str → Option Value} (n : h.Ns1 dx mA) : ∃ od, h.get? dx = some od ∧ ∀ name, PySem.W.lookIn name od = some (mA name) := by
  obtain ⟨o, es, ep, ho, hd, hk, _, hm⟩ := n
  refine ⟨o, ho, fun name => ?_⟩
  have e := hm name
  unfold nsFind findBy at e
  rw [← Array.find?_toList] at e
  unfold PySem.W.lookIn
  rw [hd]
  dsimp only
  split
  · rename_i y q
    rw [q] at e
    exact congrArg some e
  · rename_i q
    rw [q] at e
    have a : es.toList.any (·.refKey) = false := by
      rw [List.any_eq_false]
      intro y hy
      obtain ⟨z, t, hkey⟩ := hk y (Array.mem_toList_iff.mp hy)
      simp [DictEntry.refKey, hkey]
    have a' : ¬ es.toList.any (·.refKey) = true := by rw [a]; exact Bool.false_ne_true
    rw [if_neg a']
    exact congrArg some e
theorem ObjM.look {h : Heap} {x dx C : Addr} {mA : Str → Option Value} (I : ObjM h x dx C mA) : ∃ od, PySem.W.InstAt h x (PySem.W.instObj C dx) C (some od) ∧ ∀ name, PySem.W.lookIn name od = some (mA name) :=
  let ⟨od, ho, hl⟩ := lookIn_ns I.ns
  ⟨od, ⟨I.obj, rfl, rfl, ho⟩, hl⟩
section
variable {prog : Program} {w : World} {A : Around} {E : Value → Shared → Prop} {s : Shared} {K : PySem.W.Frag} {x dx C f : Addr} {mA : Str → Option Value} {name : Str} {v : Value}
end
theorem RelO.some_of {v : V} {o : Option Value} (r : RelO (some v) o) : ∃ u, o = some u ∧ RelV v u := by
  cases o with
  | none => exact (show False from r).elim
  | some u => exact ⟨u, rfl, r⟩
section
variable {P : Program} {w : World} {H H' : Hp} {h h' : Heap} {a C dx : Addr} {fs fs' : List (Str × V)}
theorem ins_get (hok : HOk P w H h) (e : H a = some (.ins C dx fs)) : ∃ mA, ObjM h a dx C mA ∧ (∀ f, RelO (fs.lookup f) (mA f)) ∧ PySem.Within mA (fs.map (·.1)) ∧ fs.length ≤ 1000 ∧ H dx = some (.own a) := by
  obtain ⟨d, z, ne, ob, mA, n, r, q⟩ := (show ObjOk P w H h a (.ins C dx fs) from hok a _ e)
  exact ⟨mA, ⟨ob, n, ne⟩, r, q, z, d⟩
end
structure Cls (K : PySem.W.Frag) (C : Addr) : Prop where
  pg : PySem.W.plainGet K C Str.empty = true
  hd : PySem.W.hasDictIn K C = true
  po : PySem.W.plainOver K C = true
  sa : PySem.W.findIn K (.ref C) "__setattr__" = some (some (.builtin "object.__setattr__"))
theorem Cls.get {K : PySem.W.Frag} {C : Addr} (c : Cls K C) (f : Str) : PySem.W.plainGet K C f = true := c.pg
section
variable {X : Cx} {pins : List (Addr × Obj)} {σ : St} {H : Hp} {s : Shared} {a C dx : Addr} {fs : List (Str × V)} {f : Str} {v : V} {A : Around} {E : Value → Shared → Prop}
end
section
variable {X : Cx} {o e value : Expr} {f : Str} {pos pos' tpos : Pos} {ta tv : TE}
end
section
variable {X : Cx} {pins : List (Addr × Obj)} {σ : St} {H : Hp} {s : Shared} {A : Around} {E : Value → Shared → Prop} {Q : Value → Shared → Prop} {c : Value} {b : Bool}
inductive TyOf (K : PySem.W.Frag) (H : Hp) : V → Value → Prop where
  | non : TyOf K H .non (.type "NoneType")
  | bl (x : Bool) : TyOf K H (.bl x) (.type "bool")
  | int (i : Int) : TyOf K H (.int i) (.type "int")
  | str (x : Str) : TyOf K H (.str x) (.type "str")
  | flt (x : UInt64) : TyOf K H (.flt x) (.type "float")
  | lst {a : Addr} {xs : List V} (e : H a = some (.lst xs)) : TyOf K H (.ref a) (.type "list")
  | frz {a : Addr} {o : Obj} {xs : List V} (e : H a = some (.frz o (.lst xs))) : TyOf K H (.ref a) (.type "list")
  | tup {a : Addr} {xs : List V} (e : H a = some (.tup xs)) : TyOf K H (.ref a) (.type "tuple")
  | dK {a : Addr} {kvs : List (Key × V)} (e : H a = some (.dK kvs)) : TyOf K H (.ref a) (.type "dict")
  | dT {a : Addr} {kvs : List (List Key × V)} (e : H a = some (.dT kvs)) : TyOf K H (.ref a) (.type "dict")
  | ins {a C dx : Addr} {fs : List (Str × V)} (e : H a = some (.ins C dx fs)) (cl : Cls K C) (ha : PySem.W.findIn K (.ref C) "__class__" = some (some (.builtin "object.__class__")))
      (hn : PySem.W.specialIn K (.builtin "object.__class__") "__get__" = some (some (.builtin "getset_descriptor.__get__"))) (htk : PySem.W.takesIn K (.builtin "object.__class__") = some true)
      (hm : PySem.W.mroIn K C (.type "object") = some true) : TyOf K H (.ref a) (.ref C)
theorem isinst_ok {x : V} {u t : Value} (I : Inv X pins σ H s) (rx : RelV x u) (ty : TyOf X.K H x t) (e : PySem.W.kitOne X.K t c = some b) (h : ∀ tk, Q (.bool b) { s with toks := tk }) :
    wpAny (model X.prog X.w) A (call (.builtin "isinstance") [u, c]) Q E s := by
  cases ty with
  | non => cases (show u = Value.none from rx); exact PySem.W.kia_one PySem.W.kitx_none I.kIn True.intro e (fun z => nomatch z) h
  | bl y => cases (show u = Value.bool y from rx); exact PySem.W.kia_one PySem.W.kitx_bool I.kIn True.intro e (fun z => nomatch z) h
  | int i => obtain ⟨t, q⟩ := (show ∃ t, u = Value.int i t from rx); cases q; exact PySem.W.kia_one PySem.W.kitx_int I.kIn True.intro e (fun z => nomatch z) h
  | str y => obtain ⟨t, q⟩ := (show ∃ t, u = Value.str y t from rx); cases q; exact PySem.W.kia_one PySem.W.kitx_str I.kIn True.intro e (fun z => nomatch z) h
  | flt y => obtain ⟨t, q⟩ := (show ∃ t, u = Value.float y t from rx); cases q; exact PySem.W.kia_one PySem.W.kitx_float I.kIn True.intro e (fun z => nomatch z) h
  | @lst a xs ea =>
    cases (show u = Value.ref a from rx)
    obtain ⟨_, _, n, _, h1⟩ := (show ObjOk X.prog X.w H s.heap a (.lst xs) from I.hok a _ ea)
    exact PySem.W.kia_one PySem.W.kitx_list I.kIn ⟨_, h1, rfl⟩ e (fun z => nomatch z) h
  | @frz a ob xs ea =>
    cases (show u = Value.ref a from rx)
    obtain ⟨_, _, _, n, _, h1⟩ := (show ObjOk X.prog X.w H s.heap a (.frz ob (.lst xs)) from I.hok a _ ea)
    exact PySem.W.kia_one PySem.W.kitx_list I.kIn ⟨_, h1, rfl⟩ e (fun z => nomatch z) h
  | @tup a xs ea =>
    cases (show u = Value.ref a from rx)
    obtain ⟨_, _, _, p⟩ := (show ObjOk X.prog X.w H s.heap a (.tup xs) from I.hok a _ ea)
    obtain ⟨o, h1, h2, _⟩ := p
    exact PySem.W.kia_one PySem.W.kitx_tuple I.kIn ⟨o, h1, h2⟩ e (fun z => nomatch z) h
  | @dK a kvs ea =>
    cases (show u = Value.ref a from rx)
    obtain ⟨_, _, vs, _, p⟩ := (show ObjOk X.prog X.w H s.heap a (.dK kvs) from I.hok a _ ea)
    obtain ⟨o, es, ep, h1, h2, _⟩ := p
    exact PySem.W.kia_one PySem.W.kitx_dict I.kIn ⟨o, h1, h2.1⟩ e (fun z => nomatch z) h
  | @dT a kvs ea =>
    cases (show u = Value.ref a from rx)
    obtain ⟨_, _, xs, _, o, es, ep, h1, h2, _⟩ := (show ObjOk X.prog X.w H s.heap a (.dT kvs) from I.hok a _ ea)
    exact PySem.W.kia_one PySem.W.kitx_dict I.kIn ⟨o, h1, h2.1⟩ e (fun z => nomatch z) h
  | @ins a C dx fs ea cl ha hn htk hm =>
    cases (show u = Value.ref a from rx)
    obtain ⟨mA, O, _⟩ := ins_get I.hok ea
    obtain ⟨od, J, _⟩ := O.look
    exact PySem.W.kia_one (PySem.W.kitx_own (cl.get _) cl.hd ha hn htk hm) I.kIn J e (fun z => nomatch z) h
end
end L2
namespace L2
open PySem PySem.Spec PyProof.Rows
structure Room (k : Nat) (A : Around) : Prop where
  hd : A.handled = none
  dp : A.depth + 3 * k + 5 < recursionLimit
  un : A.units + 16 * k + 200 < cLine
theorem Room.mono {j k : Nat} {A : Around} (r : Room k A) (h : j ≤ k) : Room j A := ⟨r.hd, by have := r.dp; omega, by have := r.un; omega⟩
theorem Room.deeper {k : Nat} {A : Around} (r : Room (k + 1) A) (env : Env) : Room k (A.deeper env) :=
  ⟨r.hd, by have := r.dp; show A.depth + 1 + 3 * k + 5 < _; omega, by have := r.un; show A.units + 3 + 16 * k + 200 < _; omega⟩
theorem Room.depth {k : Nat} {A : Around} (r : Room k A) : A.depth < recursionLimit := by have := r.dp; omega
theorem Room.units {k : Nat} {A : Around} (r : Room k A) : A.units + 64 < cLine := by have := r.un; omega
def tNil : TA := fun _ H Q => Q [] H
def tCons (ta : TE) (tr : TA) : TA := fun σ H Q => ta σ H fun x H1 => tr σ H1 fun xs H2 => Q (x :: xs) H2
section
variable {X : Cx} {e : Expr} {es : List Expr} {te : TE} {t : TA} {pos : Pos}
theorem pa_nil : PA X [] tNil := fun _ _ _ _ H Q I h => Calls.spliced_nil ⟨[], H, I, .nil, h⟩
theorem pa_cons (ha : PE X e te) (hr : PA X es t) (hs : starEach (e :: es) X.env = (false, eval e X.env) :: starEach es X.env := by rfl) : PA X (e :: es) (tCons te t) := by
  intro pos pins s σ H Q I h
  rw [hs]
  show wpAny _ _ (spliced ((false, eval e X.env) :: backTo pos (starEach es X.env))) _ _ s
  refine Calls.spliced_cons (thn (ha pins s σ H _ I h) fun u s1 ⟨x, H1, I1, r1, q1⟩ => ?_)
  exact thn (hr pos pins s1 σ H1 _ I1 q1) fun us s2 ⟨xs, H2, I2, r2, q2⟩ => ⟨x :: xs, H2, I2, .cons r1 r2, q2⟩
def tTup (t : TA) : TE := fun σ H Q => t σ H fun xs H1 => xs.length ≤ sizeLine ∧ ∀ p, H1 p = none → Q (.ref p) (upd H1 p (.tup xs))
def tLst (t : TA) : TE := fun σ H Q => t σ H fun xs H1 => xs.length ≤ sizeLine ∧ ∀ p, H1 p = none → Q (.ref p) (upd H1 p (.lst xs))
theorem pe_tup {x1} (h : PA X es t) : PE X (.Tuple es x1 pos) (tTup t) := by
  intro pins s σ H Q I hq
  refine wpAny_Tuple_spliced (thn (h pos pins s σ H _ I hq) fun us s1 ⟨xs, H1, I1, r, z, q⟩ => ⟨by rw [← r.length]; exact z, ?_⟩)
  have hf : H1 s1.heap.objs.size = none := I1.hok.fresh (Nat.le_refl _)
  refine ⟨.ref s1.heap.objs.size, upd H1 s1.heap.objs.size (.tup xs), I1.laid (t' := s1.toks) (fun b u e => Heap.get?_push_of_some _ e) (Nat.le_refl _) ?_, rfl, q _ hf⟩
  exact ⟨z, us, r, ⟨_, Heap.get?_push_size _ rfl, rfl, ⟨_, rfl⟩, rfl⟩⟩
theorem pe_lst (h : PA X es t) : PE X (.List es pos) (tLst t) := by
  intro pins s σ H Q I hq
  refine wpAny_List_spliced (thn (h pos pins s σ H _ I hq) fun us s1 ⟨xs, H1, I1, r, z, q⟩ => ⟨by rw [← r.length]; exact z, ?_⟩)
  have hf : H1 s1.heap.objs.size = none := I1.hok.fresh (Nat.le_refl _)
  refine ⟨.ref s1.heap.objs.size, upd H1 s1.heap.objs.size (.lst xs), I1.laid (t' := s1.toks) (fun b u e => Heap.get?_push_of_some _ e) (Nat.le_refl _) ?_, rfl, q _ hf⟩
  exact ⟨z, us, 0, r, Heap.get?_push_size _ rfl⟩
end
abbrev Sp := List V → Hp → VK → XK → Prop
abbrev CXT := List Env → Hp → Shared → XK → Value → Shared → Prop
structure Env0 (P : Program) (w : World) (K : PySem.W.Frag) (mg : Str → Option Value) (base : Heap) (A : Around) (outer : List Env) (s : Shared) (H : Hp) : Prop where
  frames : A.frames = some outer
  mod : Mod K mg base
  bs : ∀ b o, base.get? b = some o → s.heap.get? b = some o ∧ H b = none
  bsz : base.objs.size ≤ s.heap.objs.size
  funs : s.heap.FunFrames base outer
  frf : ∀ b ∈ frs outer, H b = none
  hok : HOk P w H s.heap
  bare : AllBare s.gens
def CE (outer : List Env) (P : Program) (w : World) (H : Hp) (s : Shared) (Q : VK) (u : Value) (s' : Shared) : Prop :=
  ∃ v H', s'.os = s.os ∧ AllBare s'.gens ∧ Un (frs outer) [] H H' s.heap s'.heap ∧ HOk P w H' s'.heap ∧ RelV v u ∧ Q v H'
def CR (CX : CXT) (outer : List Env) (P : Program) (w : World) (H : Hp) (s : Shared) (Q : VK) (E : XK) (r : Result) (s' : Shared) : Prop :=
  match r with
  | .ok (.ret u) => CE outer P w H s Q u s'
  | .ok _ => False
  | .error e => CX outer H s E e s'
structure FnOk (P : Program) (w : World) (K : PySem.W.Frag) (mg : Str → Option Value) (base : Heap) (CX : CXT) (k : Nat) (f : Addr) (fd : FuncData) (ps : List Str) (sp : Sp) : Prop where
  len : ∀ vs H Q E, sp vs H Q E → vs.length = ps.length
  run : ∀ (A : Around) (outer : List Env) (s : Shared) (H : Hp) (args : Args) (us : List Value) (vs : List V) (Q : VK) (E : XK), Room k A → Env0 P w K mg base A outer s H → BindsTo s fd args (ps.zip us) → Vals vs us → sp vs H Q E →
    codeAny (model P w) A (.call (.ref f) args) (CR CX outer P w H s Q E) s
section
variable {X : Cx} {pins : List (Addr × Obj)} {σ : St} {H : Hp} {s s' : Shared}
theorem Inv.env0 (I : Inv X pins σ H s) : Env0 X.prog X.w X.K X.mg X.base X.A X.stack s H :=
  ⟨I.ok.frames, I.ok.mod, I.bs, Nat.le_trans I.ok.bsz I.sz, I.stack, I.stkFree, I.hok, I.bare⟩
theorem Inv.after {Q : VK} {u : Value} (I : Inv X pins σ H s) (h : CE X.stack X.prog X.w H s Q u s') : EP X pins σ Q u s' := by
  obtain ⟨v, H', os, bare, un, hok, r, q⟩ := h
  obtain ⟨hh, g, d, t, os'⟩ := s'
  obtain rfl : os' = s.os := os
  exact ⟨v, H', I.call (h' := hh) (g' := g) (d' := d) (t' := t) (ch := []) un hok bare (fun b z => absurd z (by simp)), r, q⟩
end
def tCall (sp : Sp) (dvs : List V) (E : XK) (t : TA) : TE := fun σ H Q => t σ H fun vs H1 => sp (vs ++ dvs) H1 Q E
def Binds (K : PySem.W.Frag) (fd : FuncData) (ps : List Str) (ds : List Value) : Prop :=
  ∀ (s : Shared) (us : List Value), K.In s.heap → (us ++ ds).length = ps.length → BindsTo s fd ⟨us, []⟩ (ps.zip (us ++ ds))
theorem Binds.all {K : PySem.W.Frag} {fd : FuncData} {ps : List Str} (h : ∀ us : List Value, us.length = ps.length → bindArgs fd ⟨us, []⟩ = pure (ps.zip us)) : Binds K fd ps [] := fun s us _ hl => by
  rw [List.append_nil] at hl ⊢
  exact .of_eq (h us hl)
def Passes (CX : CXT) (X : Cx) (E : XK) : Prop := ∀ (pins : List (Addr × Obj)) (σ : St) (H : Hp) (s : Shared) (e : Value) (s' : Shared), Inv X pins σ H s → CX X.stack H s E e s' → X.xe e s'
section
theorem run_fn {pins : List (Addr × Obj)} {σ : St} {H : Hp} {s : Shared} {Q : VK} {us : List Value} {vs : List V} (F : FnOk X.prog X.w X.K X.mg X.base CX k f fd ps sp) (hr : Room k X.A) (hb : Binds X.K fd ps ds) (hd : Vals dvs ds) (hx : Passes CX X E)
    (I : Inv X pins σ H s) (r : Vals vs us) (h : sp (vs ++ dvs) H Q E) : wpAny (model X.prog X.w) X.A (call (.ref f) us) (EP X pins σ Q) X.xe s := by
  have r2 : Vals (vs ++ dvs) (us ++ ds) := r.append hd
  have hl : (us ++ ds).length = ps.length := by rw [← r2.length]; exact F.len _ _ _ _ h
  refine wpAny_call (codeAny_mono (F.run X.A X.stack s H ⟨us, []⟩ (us ++ ds) (vs ++ dvs) Q E hr I.env0 (hb s us I.kIn hl) r2 h) fun r s' hq => ?_)
  cases r with
  | error e => exact hx pins σ H s e s' I hq
  | ok fl =>
    cases fl with
    | ret u => exact I.after hq
    | next => exact False.elim hq
    | brk => exact False.elim hq
    | cont => exact False.elim hq
theorem pe_call (F : FnOk X.prog X.w X.K X.mg X.base CX k f fd ps sp) (hr : Room k X.A) (hg : Gl X x) (hm : X.mg x = some (.ref f)) (hk : PySem.W.keepIn X.K (.ref f) = true) (hb : Binds X.K fd ps ds) (hd : Vals dvs ds) (hx : Passes CX X E)
    (ha : PA X (e :: es) t) (hdb : (x == ("__debug__" : Str)) = false := by decide) (he : starEach (e :: es) X.env = (false, eval e X.env) :: starEach es X.env := by rfl) (hpl : (backTo pos (starEach es X.env)).any (·.1) = false := by rfl) :
    PE X (.Call (.Name x p) (e :: es) [] pos) (tCall sp dvs E t) := by
  intro pins s σ H Q I h
  refine wpAny_Call_Name_kw (ld_glob I hg hm ?_ hdb)
  refine PySem.W.callWith_K (h₀ := X.base) I.ok.mod.kin hk (thn (ha pos pins s σ H _ I h) fun us s1 ⟨vs, H1, I1, r, q⟩ => ⟨I1.kIn, ?_⟩) he hpl
  exact run_fn F hr hb hd hx I1 r q
end
section
variable {g : List Value → List Value → List Value} {gV : List V → List V → List V}
end
structure FnScope (N P : List Str) (sc : Scope) : Prop where
  kind : sc.kind = .function
  co : sc.isCoroutine = false
  gen : sc.isGenerator = false
  nd : N.Nodup
  pre : N.take P.length = P
  par : ∀ x ∈ P, sc.names.lookup x = some .local ∨ sc.names.lookup x = some .cell
  nofree : ∀ y ∈ sc.names, y.2 ≠ .free
theorem bindL_out {kindOf : Str → Option NameKind} {x : Str} : ∀ {binds : List (Str × Value)} {m : Str → Option Value}, (∀ v, (x, v) ∉ binds) → bindL kindOf binds m x = m x
  | [], _, _ => rfl
  | (n, v) :: r, m, h => by
    unfold bindL
    rw [bindL_out fun w hw => h w (List.mem_cons_of_mem _ hw)]
    split
    · have : x ≠ n := by rintro rfl; exact h v List.mem_cons_self
      simp [this]
    · rfl
theorem bindC_out {kindOf : Str → Option NameKind} {x : Str} : ∀ {binds : List (Str × Value)} {m : Str → Option Value}, (∀ v, (x, v) ∉ binds) → bindC kindOf binds m x = m x
  | [], _, _ => rfl
  | (n, v) :: r, m, h => by
    unfold bindC
    rw [bindC_out fun w hw => h w (List.mem_cons_of_mem _ hw)]
    split
    · rfl
    · have : x ≠ n := by rintro rfl; exact h v List.mem_cons_self
      simp [this]
theorem bindL_get {kindOf : Str → Option NameKind} {x : Str} {v : Value} : ∀ {P : List Str} {vs : List Value} {i : Nat} {m : Str → Option Value}, P.Nodup → P[i]? = some x → vs[i]? = some v → kindOf x = some .local →
    bindL kindOf (P.zip vs) m x = some v
  | [], _, _, _, _, h, _, _ => by simp at h
  | _ :: _, [], _, _, _, _, h, _ => by simp at h
  | p :: P, w :: vs, 0, m, nd, h1, h2, hk => by
    simp at h1 h2; subst h1; subst h2
    show bindL kindOf ((p, w) :: P.zip vs) m p = _
    unfold bindL
    rw [bindL_out fun v hv => (List.nodup_cons.mp nd).1 (List.of_mem_zip hv).1, if_pos hk]
    simp
  | p :: P, w :: vs, i + 1, m, nd, h1, h2, hk => by
    show bindL kindOf ((p, w) :: P.zip vs) m x = _
    unfold bindL
    exact bindL_get (i := i) (List.nodup_cons.mp nd).2 (by simpa using h1) (by simpa using h2) hk
theorem bindC_get {kindOf : Str → Option NameKind} {x : Str} {v : Value} : ∀ {P : List Str} {vs : List Value} {i : Nat} {m : Str → Option Value}, P.Nodup → P[i]? = some x → vs[i]? = some v → kindOf x ≠ some .local →
    bindC kindOf (P.zip vs) m x = some v
  | [], _, _, _, _, h, _, _ => by simp at h
  | _ :: _, [], _, _, _, _, h, _ => by simp at h
  | p :: P, w :: vs, 0, m, nd, h1, h2, hk => by
    simp at h1 h2; subst h1; subst h2
    show bindC kindOf ((p, w) :: P.zip vs) m p = _
    unfold bindC
    rw [bindC_out fun v hv => (List.nodup_cons.mp nd).1 (List.of_mem_zip hv).1, if_neg hk]
    simp
  | p :: P, w :: vs, i + 1, m, nd, h1, h2, hk => by
    show bindC kindOf ((p, w) :: P.zip vs) m x = _
    unfold bindC
    exact bindC_get (i := i) (List.nodup_cons.mp nd).2 (by simpa using h1) (by simpa using h2) hk
def start (N : List Str) (vs : List V) : St := vs.map some ++ List.replicate (N.length - vs.length) none
def cxOf (CX : CXT) (P : Program) (w : World) (K : PySem.W.Frag) (mg : Str → Option Value) (base : Heap) (N : List Str) (qual : Str) (scope : Scope) (f : Addr) (cd : Value) (A : Around) (outer : List Env) (s : Shared) (H : Hp) (E : XK) : Cx where
  prog := P
  w := w
  K := K
  mg := mg
  base := base
  A := A.deeper (envOfC qual scope s.heap.objs.size f cd)
  N := N
  s₀ := s
  H₀ := H
  env := envOfC qual scope s.heap.objs.size f cd
  outer := outer
  stack := envOfC qual scope s.heap.objs.size f cd :: outer
  ex := []
  calm := true
  fn := fun _ => true
  pn := []
  xe := fun e s' => wpAny (model P w) (A.deeper (envOfC qual scope s.heap.objs.size f cd)) (leaving (envOfC qual scope s.heap.objs.size f cd) e) (fun _ s'' => CX outer H s E e s'') (fun e' s'' => CX outer H s E e' s'') s'
theorem cell_has {sc : Scope} {n : Nat} {x : Str} (h : sc.names.lookup x = some .cell) : ∃ c, (cellsFrom n sc.names []).lookup x = some c := by
  have q := PySem.W.cellsFrom_some sc.names n [] (.inl h)
  exact Option.isSome_iff_exists.mp q
theorem inv_start {CX : CXT} {P : Program} {w : World} {K : PySem.W.Frag} {mg : Str → Option Value} {base : Heap} {N ps : List Str} {qual : Str} {scope : Scope} {f : Addr} {cd : Value} {A : Around} {outer : List Env} {s s1 : Shared} {H : Hp} {E : XK} {us : List Value} {vs : List V}
    (S : FnScope N ps scope) (hd : A.handled = none) (e0 : Env0 P w K mg base A outer s H) (hl : vs.length = ps.length) (r : Vals vs us)
    (x : InCallC s s.heap.objs.size (bindL (envOfC qual scope s.heap.objs.size f cd).kindOf (ps.zip us) fun _ => none) (cellsFrom (s.heap.objs.size + 1) scope.names []) (bindC (envOfC qual scope s.heap.objs.size f cd).kindOf (ps.zip us) fun _ => none) s1) :
    Inv (cxOf CX P w K mg base N qual scope f cd A outer s H E) [] (start N vs) H s1 := by
  have hpl : ps.length ≤ N.length := by have := congrArg List.length S.pre; rw [List.length_take] at this; omega
  obtain ⟨h1, tk, rfl, hk⟩ := x.done
  have noA : ∀ b : Addr, b ∉ (cxOf CX P w K mg base N qual scope f cd A outer s H E).ex := fun b z => absurd (show b ∈ ([] : List Addr) from z) (by simp)
  refine ⟨⟨e0.mod, S.kind, rfl, rfl, Nat.le_refl _, fun y z c h1 h2 => ?_, fun y hy => ?_, fun y c _ h => ?_, fun _ => hd, Around.frames_deeper e0.frames, .inr ⟨rfl, rfl⟩, fun b z => absurd z (noA b), e0.bs, e0.bsz, fun b _ _ => noA b, fun b z => absurd z (noA b), e0.funs, e0.frf⟩,
    rfl, e0.bare, Un.kept hk, ⟨_, x.toInCall.ns, fun i y v h1 h2 h3 => ?_⟩, fun y c h => ⟨_, x.cell y c h⟩, e0.hok.fresh (Nat.le_refl _), fun y c h => ?_, fun p hp => absurd (show p ∈ ([] : List (Addr × Obj)) from hp) (by simp), e0.hok.kept hk, ?_⟩
  · exact name_of_addr x.apart (PySem.mem_of_lookup h1) (PySem.mem_of_lookup h2)
  · have hy : scope.names.lookup y = some .cell ∨ scope.names.lookup y = some .free := hy
    rcases hy with hy | hy
    · exact cell_has hy
    · exact absurd rfl (S.nofree _ (PySem.mem_of_lookup hy))
  · exact Nat.le_of_lt (x.above y c (PySem.mem_of_lookup h))
  · have hi : i < vs.length := by
      unfold start at h2
      by_cases hi : i < vs.length
      · exact hi
      · rw [List.getElem?_append_right (by simpa using hi)] at h2
        rw [List.getElem?_replicate] at h2
        split at h2 <;> cases h2
    have ha : vs[i]? = some v := by
      unfold start at h2
      rw [List.getElem?_append_left (by simpa using hi), List.getElem?_map] at h2
      cases e : vs[i]? with
      | none => rw [e] at h2; cases h2
      | some a => rw [e] at h2; cases h2; rfl
    obtain ⟨u, hu, rv⟩ := r.get ha
    have hp : ps[i]? = some y := by
      rw [← S.pre, List.getElem?_take_of_lt (by omega)]; exact h1
    have ndP : ps.Nodup := by rw [← S.pre]; exact S.nd.sublist (List.take_sublist _ _)
    refine ⟨u, rv, ?_⟩
    rcases S.par y (List.mem_of_getElem? hp) with k | k
    · exact .inl ⟨k, bindL_get ndP hp hu k⟩
    · obtain ⟨c, e⟩ := cell_has (n := s.heap.objs.size + 1) k
      refine .inr ⟨.inl k, c, e, ?_⟩
      have q := x.cell y c e
      rw [bindC_get ndP hp hu (by show scope.names.lookup y ≠ _; rw [k]; decide)] at q
      exact q
  · exact e0.hok.fresh (Nat.le_of_lt (x.above y c (PySem.mem_of_lookup h)))
  · unfold start
    show _ = N.length
    rw [List.length_append, List.length_map, List.length_replicate]
    omega
theorem fn_of {CX : CXT} {P : Program} {w : World} {K : PySem.W.Frag} {mg : Str → Option Value} {base : Heap} {k : Nat} {f : Addr} {name qual : Str} {params : Arguments} {body : List Stmt} {scope : Scope} {dV kV doc pm cdv ct oc : Value} {an od : Option Addr}
    {osl : Array (Option Value)} {N ps : List Str} {sp : Sp} (lk : K.lookup f = some ⟨oc, od, .func (PySem.W.fnOf name qual params body scope dV kV doc pm an cdv ct), osl⟩) (hcd : PySem.W.codeIn K cdv qual = true) (S : FnScope N ps scope)
    (len : ∀ vs H Q E, sp vs H Q E → vs.length = ps.length)
    (hbody : ∀ (A : Around) (outer : List Env) (s : Shared) (H : Hp) (vs : List V) (Q : VK) (E : XK), Room k (A.deeper (envOfC qual scope s.heap.objs.size f cdv)) → sp vs H Q E →
      ∃ t, PSs (cxOf CX P w K mg base N qual scope f cdv A outer s H E) body t ∧ t { nx := fun _ H' => Q .non H', rt := Q } (start N vs) H) :
    FnOk P w K mg base CX (k + 1) f (PySem.W.fnOf name qual params body scope dV kV doc pm an cdv ct) ps sp := by
  refine ⟨len, fun A outer s H args us vs Q E hr e0 hb r hsp => ?_⟩
  have hl := len _ _ _ _ hsp
  have KX : K.In s.heap := e0.mod.kin.keeps fun b o e => (e0.bs b o e).1
  have lim : s.heap.NoLimit := e0.mod.nolimit.keeps fun b o e => (e0.bs b o e).1
  have hkind : ∀ y ∈ ps.zip us, scope.names.lookup y.1 = some .local ∨ (scope.names.lookup y.1 = some .cell ∧ ((cellsFrom (s.heap.objs.size + 1) scope.names []).lookup y.1).isSome = true) := fun ⟨n, v⟩ hy => by
    rcases S.par n (List.of_mem_zip hy).1 with q | q
    · exact .inl q
    · exact .inr ⟨q, PySem.W.cellsFrom_some _ _ _ (.inl q)⟩
  refine codeAny_call_function hr.depth (KX _ _ lk) rfl S.co S.gen rfl (PySem.W.codeRec_of KX hcd) (hb _ _ _ _ ?_)
  refine wpAny_newFunctionEnv_cells S.kind hkind fun env he s1 x => ?_
  subst he
  refine ⟨lim.keeps x.toInCall.keep, codeAny_func ?_⟩
  obtain ⟨t, ht, hq⟩ := hbody A outer s H vs Q E (hr.deeper _) hsp
  have I : Inv (cxOf CX P w K mg base N qual scope f cdv A outer s H E) [] (start N vs) H s1 := inv_start S hr.hd e0 hl r x
  refine wpAny_mono (ht [] s1 (start N vs) H _ I hq) (fun fl s' hs => ?_) fun e s' hs => hs
  have fin : ∀ {σ' : St} {H' : Hp} {v : V} {u : Value}, Inv (cxOf CX P w K mg base N qual scope f cdv A outer s H E) [] σ' H' s' → RelV v u → Q v H' → CE outer P w H s Q u s' :=
    fun {σ' H' v u} J rv q => ⟨v, H', J.os, J.bare, J.base, J.hok, rv, q⟩
  cases fl with
  | ret u =>
    obtain ⟨v, σ', H', J, rv, q⟩ := hs
    exact fin J rv q
  | next =>
    obtain ⟨σ', H', J, q⟩ := hs
    exact fin (v := V.non) (u := Value.none) J rfl q
  | brk =>
    obtain ⟨_, _, _, q⟩ := hs
    exact False.elim q
  | cont =>
    obtain ⟨_, _, _, q⟩ := hs
    exact False.elim q
end L2
namespace L2
open PySem PySem.Spec PyProof.Rows
section
variable {X : Cx} {x : Str} {p pos : Pos} {e : Expr} {es : List Expr} {t : TA} {id T : String} {r : List V → Hp → VK → Prop}
def tCB (r : List V → Hp → VK → Prop) (t : TA) : TE := fun σ H Q => t σ H fun vs H1 => r vs H1 Q
theorem pe_callB (hc : CallR X (.builtin id) r) (hg : Gl X x) (hm : X.mg x = none) (hv : bootBuiltins x = some (.builtin id)) (ha : PA X (e :: es) t) (hn : x ≠ "__name__" := by decide) (hdb : (x == ("__debug__" : Str)) = false := by decide)
    (he : starEach (e :: es) X.env = (false, eval e X.env) :: starEach es X.env := by rfl) (hpl : (backTo pos (starEach es X.env)).any (·.1) = false := by rfl) : PE X (.Call (.Name x p) (e :: es) [] pos) (tCB r t) := by
  intro pins s σ H Q I h
  refine wpAny_Call_Name_kw (ld_blt I hg hm hv ?_ hn hdb)
  exact PyProof.Rows.callWith_builtin1 (thn (ha pos pins s σ H _ I h) fun us s1 ⟨vs, H1, I1, r1, q1⟩ => hc pins s1 σ H1 vs us Q I1 r1 q1) he hpl
theorem pe_callTy (hc : CallR X (.type T) r) (hg : Gl X x) (hm : X.mg x = none) (hv : bootBuiltins x = some (.type T)) (ha : PA X (e :: es) t) (hn : x ≠ "__name__" := by decide) (hdb : (x == ("__debug__" : Str)) = false := by decide)
    (he : starEach (e :: es) X.env = (false, eval e X.env) :: starEach es X.env := by rfl) (hpl : (backTo pos (starEach es X.env)).any (·.1) = false := by rfl) : PE X (.Call (.Name x p) (e :: es) [] pos) (tCB r t) := by
  intro pins s σ H Q I h
  refine wpAny_Call_Name_kw (ld_blt I hg hm hv ?_ hn hdb)
  exact PyProof.Rows.callWith_type1 (thn (ha pos pins s σ H _ I h) fun us s1 ⟨vs, H1, I1, r1, q1⟩ => hc pins s1 σ H1 vs us Q I1 r1 q1) he hpl
end
end L2
namespace HT
open PySem PyProof.Rows
section
open PySem.SeqAt
open PySem.AutoSeq1 (wpAny_loadPart')
open PySem.MeetsSeq PySem.MeetsSeq2 PySem.MeetsSeq3
end
section
variable {prog : Program} {w : World} {A : Around} {E : Value → Shared → Prop} {s : Shared}
theorem cat_tup {t b : Addr} {vs ws : List Value} {Q : Value → Shared → Prop} (ht : IsTup s.heap t vs.toArray) (hb : IsTup s.heap b ws.toArray) (hv : vs ≠ [])
    (h1 : ws = [] → Q (.ref t) s) (h2 : ws ≠ [] → Q (.ref s.heap.objs.size) { s with heap := s.heap.push { cls := .type "tuple", data := .seq (vs ++ ws).toArray } })
    (hsz : vs.length + ws.length ≤ sizeLine) : wpAny (model prog w) A (binaryOp .Add (.ref t) (.ref b)) Q E s := by
  obtain ⟨⟨cls, dd, data, sl⟩, ho, hc, n, hd⟩ := id ht
  obtain ⟨⟨cls2, dd2, data2, sl2⟩, ho2, hc2, n2, hd2⟩ := id hb
  simp only at hc hd hc2 hd2
  subst hc hd hc2 hd2
  have e : vs.toArray ++ ws.toArray = (vs ++ ws).toArray := by simp
  by_cases hw : ws = []
  · exact concat_meets ⟨_, ho, rfl⟩ ⟨_, ho2, rfl⟩ noFill_tuple_add seq_tuple_add PySem.F.slot_tuple_add PySem.F.entry_tuple_add (PySem.F.args_tuple_add_2 _ _)
      (tuple_addW1 t b vs.toArray ws.toArray n n2 dd dd2 sl sl2 (by simpa using hv) (by simp [hw])) ⟨ho, ho2, h1 hw⟩
  · refine concat_meets ⟨_, ho, rfl⟩ ⟨_, ho2, rfl⟩ noFill_tuple_add seq_tuple_add PySem.F.slot_tuple_add PySem.F.entry_tuple_add (PySem.F.args_tuple_add_2 _ _)
      (tuple_addW2 t b vs.toArray ws.toArray n n2 dd dd2 sl sl2 (by simpa using hv) (by simpa using hw) (by rw [List.size_toArray, List.size_toArray]; exact hsz)) ⟨ho, ho2, ?_⟩
    rw [e]
    exact h2 hw
def sIx (n d : Nat) : Option Int → Nat
  | none => d
  | some v => if v < 0 then (v + (n : Int)).toNat else min v.toNat n
theorem sIx_none (n d : Nat) : sIx n d none = d := rfl
theorem sIx_nat (n d k : Nat) : sIx n d (some (k : Int)) = min k n := by
  show (if (k : Int) < 0 then ((k : Int) + (n : Int)).toNat else min (k : Int).toNat n) = min k n
  rw [if_neg (by omega), Int.toNat_natCast]
theorem sIx_le (n d : Nat) (hd : d ≤ n) (o : Option Int) : sIx n d o ≤ n := by
  cases o with
  | none => exact hd
  | some v =>
    show (if v < 0 then (v + (n : Int)).toNat else min v.toNat n) ≤ n
    by_cases hv : v < 0
    · rw [if_pos hv]; omega
    · rw [if_neg hv]; exact Nat.min_le_right _ _
theorem clip_eq (v : Int) (n d : Nat) : (if v < 0 then max (v + (n : Int)) 0 else min v (n : Int)) = ((sIx n d (some v) : Nat) : Int) := by
  show (if v < 0 then max (v + (n : Int)) 0 else min v (n : Int)) = (((if v < 0 then (v + (n : Int)).toNat else min v.toNat n) : Nat) : Int)
  by_cases hv : v < 0
  · simp only [if_pos hv]; omega
  · simp only [if_neg hv]; omega
theorem adjust_gen (lo hi : Option Int) (n : Nat) : Builtin.Slice.sliceAdjust lo hi 1 (n : Int) = (((sIx n 0 lo : Nat) : Int), ((sIx n n hi : Nat) : Int)) := by
  have h1 : ¬ ((1 : Int) < 0) := by omega
  unfold Builtin.Slice.sliceAdjust
  simp only [h1, if_false]
  refine Prod.ext ?_ ?_
  · cases lo with
    | none => rfl
    | some v => exact clip_eq v n 0
  · cases hi with
    | none => rfl
    | some v => exact clip_eq v n n
theorem places_gen (i j : Nat) : Builtin.Slice.slicePlaces (i : Int) (j : Int) 1 = j - i := by
  unfold Builtin.Slice.slicePlaces
  have h1 : (1 : Int) > 0 := by omega
  simp only [h1, if_true, Int.ediv_one]
  split <;> omega
theorem slicePart_ {v : Value} {o : Option Int} {Q : Option Int → Shared → Prop} (p : IsPart v o) (h : Q o s) : wpAny (model prog w) A (Builtin.Slice.slicePartIndex v) Q E s := by
  cases p with
  | none => exact slicePart_none h
  | int i t => exact slicePart_int h
theorem sliceApplied_gen {sl : Addr} {vl vu : Value} {lo hi : Option Int} {n : Nat} {Q : Int × Int × Nat → Shared → Prop} (hs : s.heap.IsSliceOf sl vl vu .none) (pl : IsPart vl lo) (pu : IsPart vu hi)
    (h : Q (((sIx n 0 lo : Nat) : Int), 1, sIx n n hi - sIx n 0 lo) s) : wpAny (model prog w) A (Builtin.Slice.sliceApplied (.ref sl) (pure (n : Int))) Q E s := by
  obtain ⟨os, hos, hcs, hds⟩ := id hs
  unfold Builtin.Slice.sliceApplied Builtin.Slice.sliceFields
  refine wpAny_bind (wpAny_bind (wpAny_field hos hds (x := vl) rfl (wpAny_bind (wpAny_field hos hds (x := vu) rfl (wpAny_bind (wpAny_field hos hds (x := .none) rfl (wpAny_pure ?_)))))))
  refine wpAny_bind (slicePart_none ?_)
  show wpAny _ _ (if ((1 : Int) == 0) = true then _ else _) _ _ s
  rw [if_neg (by decide)]
  refine wpAny_bind (slicePart_ pl (wpAny_bind (slicePart_ pu (wpAny_bind (wpAny_pure ?_)))))
  show wpAny _ _ (match Builtin.Slice.sliceAdjust lo hi 1 (n : Int) with | (lo, hi) => pure (lo, (1 : Int), Builtin.Slice.slicePlaces lo hi 1)) _ _ s
  rw [adjust_gen lo hi n]
  show wpAny _ _ (pure (((sIx n 0 lo : Nat) : Int), (1 : Int), Builtin.Slice.slicePlaces ((sIx n 0 lo : Nat) : Int) ((sIx n n hi : Nat) : Int) 1)) _ _ s
  rw [places_gen]
  exact wpAny_pure h
theorem pick_gen (xs : Array Value) (i k : Nat) : ((List.range k).filterMap fun (m : Nat) => xs[((i : Int) + (m : Int) * 1).toNat]?).toArray = ((xs.toList.drop i).take k).toArray := by
  have e : (fun (m : Nat) => xs[((i : Int) + (m : Int) * 1).toNat]?) = fun m => xs[i + m]? := by
    funext m
    have : ((i : Int) + (m : Int) * 1).toNat = i + m := by omega
    rw [this]
  rw [e]
  have := pick_run xs i k
  rw [List.filterMap_map] at this
  have e2 : ((fun x => xs[x]?) ∘ fun x => i + x) = fun m => xs[i + m]? := rfl
  rw [e2] at this
  rw [this]
theorem getItem_tuple_cut {t sl : Addr} {items : Array Value} {vl vu : Value} {lo hi : Option Int} {Q : Value → Shared → Prop} (ht : IsTup s.heap t items) (hs : s.heap.IsSliceOf sl vl vu .none) (pl : IsPart vl lo) (pu : IsPart vu hi)
    (hw : ¬ (sIx items.size 0 lo = 0 ∧ sIx items.size items.size hi = items.size))
    (h : Q (.ref s.heap.objs.size) { s with heap := s.heap.push { cls := .type "tuple", data := .seq ((items.toList.drop (sIx items.size 0 lo)).take (sIx items.size items.size hi - sIx items.size 0 lo)).toArray } })
    (hsz : items.size ≤ sizeLine) : wpAny (model prog w) A (getItem (.ref t) (.ref sl)) Q E s := by
  have htake : sizeOk (.seq ((items.toList.drop (sIx items.size 0 lo)).take (sIx items.size items.size hi - sIx items.size 0 lo)).toArray) := by
    show ((items.toList.drop (sIx items.size 0 lo)).take (sIx items.size items.size hi - sIx items.size 0 lo)).toArray.size ≤ sizeLine
    rw [List.size_toArray, List.length_take, List.length_drop, Array.length_toList]
    omega
  have hj : sIx items.size items.size hi ≤ items.size := sIx_le _ _ (Nat.le_refl _) hi
  obtain ⟨os, hos, hcs, hds⟩ := id hs
  have hTs : s.TypeIs (.ref sl) "slice" := ⟨os, hos, hcs⟩
  unfold getItem
  try with_reducible refine wpAny_holding ?_
  first | refine wpAny_bind (wpAny_pure ?_) | skip
  refine wpAny_bind (wpAny_sequenceKey ht.typeIs (by decide) ?_)
  refine wpAny_bind (wpAny_callSpecial?_slot (name := Str.ofString "__getitem__") ht.typeIs PyProof.Rows.slot_tuple_getitem
    (wpAny_call_entry PyProof.Rows.slot_tuple_getitem ht.typeIs entry_tuple_getitem ?_ (args_tuple_getitem _ _)))
  show wpAny _ _ (Builtin.Tuple.tupleItemsOf (.ref t) >>= _) _ _ s
  refine wpAny_bind (tupleItemsOf_ ht ?_)
  refine wpAny_bind (wpAny_typeOf hTs ?_)
  rw [if_pos (by decide)]
  refine wpAny_bind (sliceApplied_gen hs pl pu ?_)
  have hno : ¬ ((((sIx items.size 0 lo : Nat) : Int) == 0 && (1 : Int) == 1 && (sIx items.size items.size hi - sIx items.size 0 lo) == items.size) = true) := by
    intro q
    rw [Bool.and_eq_true, Bool.and_eq_true] at q
    have q1 : ((sIx items.size 0 lo : Nat) : Int) = 0 := eq_of_beq q.1.1
    have q2 : sIx items.size items.size hi - sIx items.size 0 lo = items.size := eq_of_beq q.2
    exact hw ⟨by omega, by omega⟩
  show wpAny _ _ (if (((sIx items.size 0 lo : Nat) : Int) == 0 && (1 : Int) == 1 && (sIx items.size items.size hi - sIx items.size 0 lo) == items.size) = true then _ else _) _ _ s
  rw [if_neg hno, pick_gen]
  first
    | exact wpAny_bind (m := Builtin.Tuple.tupleExact _) (wpAny_newObj_type (wpAny_pure ⟨_, rfl, wpAny_pure h⟩) htake)
    | exact wpAny_bind (m := Builtin.Tuple.tupleExact _) (wpAny_newObj_type (wpAny_bind (wpAny_pure (wpAny_pure ⟨_, rfl, wpAny_pure h⟩))) htake)
    | exact wpAny_bind (wpAny_bind (m := Builtin.Tuple.tupleExact _) (wpAny_newObj_type (wpAny_pure (wpAny_pure ⟨_, rfl, wpAny_pure h⟩)) htake))
    | exact wpAny_bind (wpAny_bind (m := Builtin.Tuple.tupleExact _) (wpAny_newObj_type (wpAny_pure ⟨_, rfl, wpAny_pure h⟩) htake))
end
end HT
namespace L2
open PySem PySem.Spec PyProof.Rows
abbrev TO := St → Hp → (Option Int → Hp → Prop) → Prop
def PO (X : Cx) (e : Option Expr) (t : TO) : Prop :=
  ∀ (pins : List (Addr × Obj)) (s : Shared) (σ : St) (H : Hp) (Q : Option Int → Hp → Prop), Inv X pins σ H s → t σ H Q →
    wpAny (model X.prog X.w) X.A (evalPart e X.env) (fun u s' => ∃ o H', Inv X pins σ H' s' ∧ IsPart u o ∧ Q o H') X.xe s
def tNoPart : TO := fun _ H Q => Q none H
def tPart (t : TE) : TO := fun σ H Q => t σ H fun x H1 => ∃ i, x = .int i ∧ Q (some i) H1
section
variable {X : Cx} {e : Expr} {te : TE} {lo hi : Option Expr} {tl th : TO} {pos p2 : Pos}
theorem po_none : PO X none tNoPart := by
  intro pins s σ H Q I h
  rw [evalPart_none]
  exact wpAny_pure ⟨none, H, I, .none, h⟩
theorem po_some (h : PE X e te) : PO X (some e) (tPart te) := by
  intro pins s σ H Q I hw
  rw [evalPart_some]
  refine thn (h pins s σ H _ I hw) fun u s1 ⟨x, H1, I1, r1, q1⟩ => ?_
  obtain ⟨i, rfl, q⟩ := q1
  obtain ⟨t, rfl⟩ := r1
  exact ⟨some i, H1, I1, .int i t, q⟩
def SlR (X : Cx) (r : V → Option Int → Option Int → Hp → VK → Prop) : Prop :=
  ∀ (pins : List (Addr × Obj)) (s : Shared) (σ : St) (H : Hp) (x : V) (v vl vu : Value) (lo hi : Option Int) (sl : Addr) (Q : VK), Inv X pins σ H s → RelV x v → s.heap.IsSliceOf sl vl vu .none → IsPart vl lo → IsPart vu hi → r x lo hi H Q →
    ∃ T id, typeLookup (.type T) "__getitem__" = pure (some (.builtin id)) ∧ s.TypeIs v T ∧ wpAny (model X.prog X.w) X.A (getItem v (.ref sl)) (EP X pins σ Q) X.xe s
theorem SlR.or {r r' : V → Option Int → Option Int → Hp → VK → Prop} (h : SlR X r) (h' : SlR X r') : SlR X (fun x lo hi H Q => r x lo hi H Q ∨ r' x lo hi H Q) := by
  intro pins s σ H x v vl vu lo hi sl Q I rx hs pl pu q
  rcases q with q | q
  · exact h pins s σ H x v vl vu lo hi sl Q I rx hs pl pu q
  · exact h' pins s σ H x v vl vu lo hi sl Q I rx hs pl pu q
def tSl (r : V → Option Int → Option Int → Hp → VK → Prop) (te : TE) (tl th : TO) : TE := fun σ H Q => te σ H fun x H1 => tl σ H1 fun l H2 => th σ H2 fun u H3 => r x l u H3 Q
theorem pe_slice {r : V → Option Int → Option Int → Hp → VK → Prop} (hr : SlR X r) (he : PE X e te) (hl : PO X lo tl) (hu : PO X hi th) : PE X (.Subscript e (.Slice lo hi none p2) pos) (tSl r te tl th) := by
  intro pins s σ H Q I h
  refine Subscript_ (thn (he pins s σ H _ I h) fun v s1 ⟨x, H1, I1, r1, q1⟩ => ?_)
  refine wpAny_Slice (thn (hl pins s1 σ H1 _ I1 q1) fun vl s2 ⟨l, H2, I2, pl, q2⟩ => thn (hu pins s2 σ H2 _ I2 q2) fun vu s3 ⟨u, H3, I3, pu, q3⟩ => ?_)
  rw [evalPart_none]
  refine wpAny_pure ?_
  have I4 : Inv X pins σ H3 { s3 with heap := s3.heap.push { cls := .type "slice", data := .fields #[vl, vu, .none] } } := I3.kept (t' := s3.toks) fun b ob q => Heap.get?_push_of_some _ q
  obtain ⟨T, id, hT, ht, hg⟩ := hr pins { s3 with heap := s3.heap.push { cls := .type "slice", data := .fields #[vl, vu, .none] } } σ H3 x v vl vu l u s3.heap.objs.size Q I4 r1 (Heap.IsSliceOf.new ..) pl pu q3
  show wpAny (model X.prog X.w) X.A (subscriptTail e (.Slice lo hi none p2) v (.ref s3.heap.objs.size)) (EP X pins σ Q) X.xe { s3 with heap := s3.heap.push { cls := .type "slice", data := .fields #[vl, vu, .none] } }
  exact tail_any (ops := [.ref s3.heap.objs.size, v]) ht hT hg (by with_unfolding_all rfl)
def cutV (xs : List V) (lo hi : Option Int) : List V := (xs.drop (HT.sIx xs.length 0 lo)).take (HT.sIx xs.length xs.length hi - HT.sIx xs.length 0 lo)
theorem cutV_length (xs : List V) (lo hi : Option Int) : (cutV xs lo hi).length ≤ xs.length := by
  unfold cutV
  rw [List.length_take, List.length_drop]
  omega
def rSlT (K : PySem.W.Frag) : V → Option Int → Option Int → Hp → VK → Prop := fun x lo hi H Q => ∃ a xs, x = .ref a ∧ SqT K H a xs ∧
  ¬ (HT.sIx xs.length 0 lo = 0 ∧ HT.sIx xs.length xs.length hi = xs.length) ∧ ∀ p, H p = none → Q (.ref p) (upd H p (.tup (cutV xs lo hi)))
theorem sl_tup : SlR X (rSlT X.K) := by
  intro pins s σ H x v vl vu lo hi sl Q I rx hs pl pu h
  obtain ⟨a, xs, rfl, hx, hw, q⟩ := h
  cases rx
  obtain ⟨its, r, ht, hz⟩ := I.tuple hx
  have hlen : its.toArray.size = xs.length := by rw [List.size_toArray]; exact r.length.symm
  refine ⟨"tuple", _, PyProof.Rows.slot_tuple_getitem.lookup, ht.typeIs, ?_⟩
  refine HT.getItem_tuple_cut ht hs pl pu (by rw [hlen]; exact hw) ?_ (by rw [hlen]; exact hz)
  rw [hlen]
  refine ⟨.ref s.heap.objs.size, _, I.laid (t' := s.toks) (o := .tup (cutV xs lo hi)) (fun b ob q => Heap.get?_push_of_some _ q) (Nat.le_refl _) ?_, rfl, q _ (I.hok.fresh (Nat.le_refl _))⟩
  exact ⟨Nat.le_trans (cutV_length xs lo hi) hz, _, (r.drop (HT.sIx xs.length 0 lo)).take (HT.sIx xs.length xs.length hi - HT.sIx xs.length 0 lo), PTup.new _ _⟩
def rCatT (K : PySem.W.Frag) : R2 := fun x y H Q => ∃ a b xs ys, x = .ref a ∧ y = .ref b ∧ SqT K H a xs ∧ SqT K H b ys ∧ xs ≠ [] ∧ xs.length + ys.length ≤ sizeLine ∧
  (ys = [] → Q (.ref a) H) ∧ (ys ≠ [] → ∀ p, H p = none → Q (.ref p) (upd H p (.tup (xs ++ ys))))
theorem Vals.nil_iff {xs : List V} {us : List Value} (r : Vals xs us) : us = [] ↔ xs = [] := by
  cases r with
  | nil => simp
  | cons _ _ => simp
theorem op_catT : OpR X (binaryOp .Add) (rCatT X.K) := by
  intro pins s σ H x y v u Q I rx ry h
  obtain ⟨a, b, xs, ys, rfl, rfl, ha, hb, hx, hz, q1, q2⟩ := h
  cases rx
  cases ry
  obtain ⟨its, r1, p1, _⟩ := I.tuple ha
  obtain ⟨its2, r2, p2, _⟩ := I.tuple hb
  refine HT.cat_tup p1 p2 (fun z => hx (r1.nil_iff.mp z)) (fun z => ⟨.ref a, H, I, rfl, q1 (r2.nil_iff.mp z)⟩) (fun z => ?_) (by rw [← r1.length, ← r2.length]; exact hz)
  refine ⟨.ref s.heap.objs.size, _, I.laid (t' := s.toks) (o := .tup (xs ++ ys)) (fun b ob q => Heap.get?_push_of_some _ q) (Nat.le_refl _) ?_, rfl, q2 (fun w => z (r2.nil_iff.mpr w)) _ (I.hok.fresh (Nat.le_refl _))⟩
  exact ⟨by rw [List.length_append]; exact hz, _, r1.append r2, PTup.new _ _⟩
end
end L2
namespace L2
open PySem PySem.Spec PyProof.Rows
def ixN (n : Nat) (i : Int) : Option Nat := if 0 ≤ i then (if i < n then some i.toNat else none) else if -(n : Int) ≤ i then some (i + n).toNat else none
def atI {α : Type} (xs : List α) (i : Int) : Option α := (ixN xs.length i).bind fun j => xs[j]?
theorem ixN_seq {n : Nat} {i : Int} {j : Nat} (h : ixN n i = some j) : seqIndex? i n = some j ∧ j < n ∧ -(n : Int) ≤ i ∧ i < n := by
  unfold ixN at h
  by_cases h0 : 0 ≤ i
  · rw [if_pos h0] at h
    by_cases h1 : i < n
    · rw [if_pos h1] at h
      have e : i.toNat = j := Option.some.inj h
      exact ⟨by rw [seqIndex_of h0 h1, e], by omega, by omega, h1⟩
    · rw [if_neg h1] at h; cases h
  · rw [if_neg h0] at h
    by_cases h1 : -(n : Int) ≤ i
    · rw [if_pos h1] at h
      have e : (i + n).toNat = j := Option.some.inj h
      exact ⟨by rw [seqIndex_neg (by omega) h1, e], by omega, h1, by omega⟩
    · rw [if_neg h1] at h; cases h
theorem atI_get {α : Type} {xs : List α} {i : Int} {v : α} (h : atI xs i = some v) : ∃ j, seqIndex? i xs.length = some j ∧ xs[j]? = some v ∧ j < xs.length ∧ -(xs.length : Int) ≤ i ∧ i < xs.length := by
  unfold atI at h
  cases e : ixN xs.length i with
  | none => rw [e] at h; cases h
  | some j =>
    rw [e] at h
    obtain ⟨h1, h2, h3, h4⟩ := ixN_seq e
    exact ⟨j, h1, h, h2, h3, h4⟩
theorem atI_nat {α : Type} {xs : List α} {j : Nat} {v : α} (h : xs[j]? = some v) : atI xs (j : Int) = some v := by
  have hj : j < xs.length := (List.getElem?_eq_some_iff.mp h).1
  have e : ixN xs.length (j : Int) = some j := by
    unfold ixN
    rw [if_pos (by omega), if_pos (by omega)]; simp
  unfold atI; rw [e]; exact h
def PlainIx (b : Expr) : Prop := ∀ o i, subscripted b false o i = operate [o, i] (getItem o i)
def IxR (X : Cx) (r : R2) : Prop :=
  ∀ (value slice : Expr) (pins : List (Addr × Obj)) (s : Shared) (σ : St) (H : Hp) (x y : V) (v u : Value) (Q : VK), Inv X pins σ H s → RelV x v → RelV y u → r x y H Q →
    subscripted slice false v u = operate [v, u] (getItem v u) → wpAny (model X.prog X.w) X.A (subscriptTail value slice v u) (EP X pins σ Q) X.xe s
def MtR (X : Cx) (id : String) (r : V → List V → Hp → VK → Prop) : Prop :=
  ∀ (pins : List (Addr × Obj)) (s : Shared) (σ : St) (H : Hp) (x : V) (xs : List V) (v : Value) (us : List Value) (Q : VK), Inv X pins σ H s → RelV x v → Vals xs us → r x xs H Q →
    wpAny (model X.prog X.w) X.A (call (.builtin id) (v :: us)) (EP X pins σ Q) X.xe s
section
variable {X : Cx} {a b : Expr} {ta tb : TE} {pos : Pos}
theorem IxR.or {r r' : R2} (h : IxR X r) (h' : IxR X r') : IxR X (fun x y H Q => r x y H Q ∨ r' x y H Q) := by
  intro value slice pins s σ H x y v u Q I rx ry q hs
  rcases q with q | q
  · exact h value slice pins s σ H x y v u Q I rx ry q hs
  · exact h' value slice pins s σ H x y v u Q I rx ry q hs
theorem pe_ix {r : R2} (hr : IxR X r) (ha : PE X a ta) (hb : PE X b tb) (hs : PlainIx b) : PE X (.Subscript a b pos) (tOp r ta tb) := by
  intro pins s σ H Q I h
  exact Subscript_ (binT ha hb I h fun v u s2 x y H2 I2 rx ry q => hr a b pins s2 σ H2 x y v u Q I2 rx ry q (hs _ _))
def rIxL (K : PySem.W.Frag) : R2 := fun x y H Q => ∃ p xs i v, x = .ref p ∧ y = .int i ∧ SqL K H p xs ∧ atI xs i = some v ∧ Q v H
def rIxT (K : PySem.W.Frag) : R2 := fun x y H Q => ∃ p xs i v, x = .ref p ∧ y = .int i ∧ SqT K H p xs ∧ atI xs i = some v ∧ Q v H
def rIxS : R2 := fun x y H Q => ∃ z i c, x = .str z ∧ y = .int i ∧ z.length ≤ sizeLine ∧ atI z.cps.toList i = some c ∧ Q (.str ⟨#[c]⟩) H
theorem ix_list : IxR X (rIxL X.K) := by
  intro value slice pins s σ H x y v u Q I rx ry h hs
  obtain ⟨p, xs, i, z, rfl, rfl, hq, he, q⟩ := h
  cases rx
  obtain ⟨t, rfl⟩ := ry
  obtain ⟨its, r, pl, hz⟩ := I.list hq
  obtain ⟨j, h1, h2, h3, h4, h5⟩ := atI_get he
  obtain ⟨w, ew, rw'⟩ := r.get h2
  have hl := r.length
  have hn := line63
  have fin : EP X pins σ Q w s := ⟨z, H, I, rw', q⟩
  by_cases h0 : 0 ≤ i
  · have hj : i.toNat = j := by
      rw [seqIndex_of h0 h5] at h1
      exact Option.some.inj h1
    exact item_listR pl.isList h0 (by omega) (by rw [hj]; simpa using ew) fin hs
  · have hj : (i + (its.toArray.size : Int)).toNat = j := by
      rw [seqIndex_neg (by omega) h4] at h1
      rw [List.size_toArray, ← hl]
      exact Option.some.inj h1
    exact subscriptTail_builtinR (x := w) pl.isList.typeIs slot_list_getitem.lookup
      (wpAny_getItem_list_neg (Q := fun r s' => r = w ∧ EP X pins σ Q r s') pl.isList (by omega) (by rw [List.size_toArray] <;> omega) (by omega) (by rw [hj]; simpa using ew) ⟨rfl, fin⟩) hs
theorem ix_tup : IxR X (rIxT X.K) := by
  intro value slice pins s σ H x y v u Q I rx ry h hs
  obtain ⟨p, xs, i, z, rfl, rfl, hq, he, q⟩ := h
  cases rx
  obtain ⟨t, rfl⟩ := ry
  obtain ⟨its, r, pl, hz⟩ := I.tuple hq
  obtain ⟨j, h1, h2, h3, h4, h5⟩ := atI_get he
  obtain ⟨w, ew, rw'⟩ := r.get h2
  have hl := r.length
  have hn := line63
  have fin : EP X pins σ Q w s := ⟨z, H, I, rw', q⟩
  exact subscriptTail_builtinR (x := w) pl.typeIs slot_tuple_getitem.lookup
    (getItem_tuple (j := j) (Q := fun r s' => r = w ∧ EP X pins σ Q r s') pl (by omega) (by omega) (by rw [List.size_toArray, ← hl]; exact h1) (by simpa using ew) ⟨rfl, fin⟩) hs
theorem ix_str : IxR X rIxS := by
  intro value slice pins s σ H x y v u Q I rx ry h hs
  obtain ⟨z, i, c, rfl, rfl, hz, he, q⟩ := h
  obtain ⟨t, rfl⟩ := rx
  obtain ⟨t', rfl⟩ := ry
  obtain ⟨j, h1, h2, h3, h4, h5⟩ := atI_get he
  have hl : z.cps.toList.length = z.length := by simp [Str.length]
  rw [hl] at h1 h4 h5
  have hn := line63
  exact tail_any (typeIs_str s z t) slot_str_getitem.lookup (getItem_str (c := c) (by
    have e1 : decide (i < -(2 ^ 63 : Int)) = false := decide_eq_false (by omega)
    have e2 : decide (i ≥ 2 ^ 63) = false := decide_eq_false (by omega)
    rw [e1, e2, Bool.or_false]) (by rw [h1]; simpa using h2) ⟨.str ⟨#[c]⟩, H, I.tok _, ⟨_, rfl⟩, q⟩) hs
def rIx (K : PySem.W.Frag) : R2 := fun x y H Q => rIxL K x y H Q ∨ rIxT K x y H Q ∨ rIxS x y H Q
theorem ix_seq : IxR X (rIx X.K) := ix_list.or (ix_tup.or ix_str)
theorem mapSeq_set (its : List Value) (n j : Nat) (u : Value) : Obj.mapSeq (·.setIfInBounds j u) { cls := .type "list", data := .seq its.toArray n } = { cls := .type "list", data := .seq (its.set j u).toArray n } := by
  simp [Obj.mapSeq]
theorem Inv.lst {pins : List (Addr × Obj)} {σ : St} {H : Hp} {s : Shared} {p : Addr} {xs : List V} (I : Inv X pins σ H s) (h : H p = some (.lst xs)) :
    ∃ (its : List Value) (n : Nat), Vals xs its ∧ s.heap.get? p = some { cls := .type "list", data := .seq its.toArray n } ∧ xs.length ≤ sizeLine := by
  obtain ⟨z, its, n, r, e⟩ := I.hok p _ h
  exact ⟨its, n, r, e, z⟩
theorem Inv.lstUpd {pins : List (Addr × Obj)} {σ : St} {H : Hp} {s : Shared} {p : Addr} {xs ys : List V} {its its' : List Value} {n n' : Nat} {f : Obj → Obj} (I : Inv X pins σ H s) (h : H p = some (.lst xs))
    (ho : s.heap.get? p = some { cls := .type "list", data := .seq its.toArray n }) (hf : f { cls := .type "list", data := .seq its.toArray n } = { cls := .type "list", data := .seq its'.toArray n' }) (r : Vals ys its') (hz : ys.length ≤ sizeLine) (t : Nat) :
    Inv X pins σ (upd H p (.lst ys)) { s with heap := s.heap.update p f, toks := t } := by
  have e : (s.heap.update p f).get? p = some { cls := .type "list", data := .seq its'.toArray n' } := by
    rw [Heap.get?_update_self f ho (by rw [hf] <;> rfl), hf]
  refine I.write (x := p) (e := p) (by rw [h]; trivial) (.inl rfl) (fun b u hb q => (Heap.get?_update_other _ _ (Ne.symm hb)).trans q) ⟨_, e⟩ ?_
  exact ⟨hz, its', n', r, e⟩
def rSetL : V → V → V → Hp → (Hp → Prop) → Prop := fun o i v H Q => ∃ p xs k j, o = .ref p ∧ i = .int k ∧ H p = some (.lst xs) ∧ ixN xs.length k = some j ∧ Q (upd H p (.lst (xs.set j v)))
theorem set_list : PSet X rSetL := by
  intro pins s σ H o i v ov iv u Q I ro ri rv h
  obtain ⟨p, xs, k, j, rfl, rfl, hp, hj, q⟩ := h
  cases ro
  obtain ⟨t, rfl⟩ := ri
  obtain ⟨its, n, r, ho, hz⟩ := I.lst hp
  obtain ⟨h1, h2, h3, h4⟩ := ixN_seq hj
  have hl := r.length
  have hn := line63
  have I' : Inv X pins σ (upd H p (.lst (xs.set j v))) { s with heap := s.heap.update p (Obj.mapSeq (·.setIfInBounds j u)) } :=
    I.lstUpd hp ho (mapSeq_set its n j u) (r.set rv j) (by rw [List.length_set]; exact hz) s.toks
  by_cases h0 : 0 ≤ k
  · have hk : k.toNat = j := by
      rw [seqIndex_of h0 h4] at h1
      exact Option.some.inj h1
    exact PySem.W.ki_setAt ho h0 (by omega) (by rw [List.size_toArray, ← hl]; exact h4) (by rw [hk]; exact ⟨_, I', q⟩)
  · have hk : (k + (its.toArray.size : Int)).toNat = j := by
      rw [seqIndex_neg (by omega) h3] at h1
      rw [List.size_toArray, ← hl]
      exact Option.some.inj h1
    exact PySem.W.ki_setBack ho (by omega) (by rw [List.size_toArray, ← hl]; exact h3) (by omega) (by rw [hk]; exact ⟨_, I', q⟩)
theorem slice_bounds (lo hi : Option Int) (n : Nat) : (sliceBounds lo hi none n).1 = ((HT.sIx n 0 lo : Nat) : Int) ∧ (sliceBounds lo hi none n).2.1 = ((HT.sIx n n hi : Nat) : Int) ∧ (sliceBounds lo hi none n).2.2 = 1 := by
  refine ⟨?_, ?_, rfl⟩
  · cases lo with
    | none => simp [sliceBounds, HT.sIx]
    | some i =>
      simp only [sliceBounds, HT.sIx, Option.getD_none, show (1 : Int) > 0 by decide, if_true]
      by_cases h : i < 0
      · simp only [h, if_true] <;> omega
      · simp only [h, if_false] <;> omega
  · cases hi with
    | none => simp [sliceBounds, HT.sIx]
    | some i =>
      simp only [sliceBounds, HT.sIx, Option.getD_none, show (1 : Int) > 0 by decide, if_true]
      by_cases h : i < 0
      · simp only [h, if_true] <;> omega
      · simp only [h, if_false] <;> omega
theorem slicePick_cut (its : List Value) (lo hi : Option Int) : slicePick its.toArray lo hi none = ((its.drop (HT.sIx its.length 0 lo)).take (HT.sIx its.length its.length hi - HT.sIx its.length 0 lo)).toArray := by
  obtain ⟨h1, h2, h3⟩ := slice_bounds lo hi its.toArray.size
  unfold slicePick
  rw [h1, h2, h3]
  simp only [sliceRange_one, pick_run, List.size_toArray] <;> rfl
def rSlL (K : PySem.W.Frag) : V → Option Int → Option Int → Hp → VK → Prop := fun x lo hi H Q => ∃ a xs, x = .ref a ∧ SqL K H a xs ∧ ∀ p, H p = none → Q (.ref p) (upd H p (.lst (cutV xs lo hi)))
theorem sl_list : SlR X (rSlL X.K) := by
  intro pins s σ H x v vl vu lo hi sl Q I rx hs pl pu h
  obtain ⟨a, xs, rfl, hx, q⟩ := h
  cases rx
  obtain ⟨its, r, ht, hz⟩ := I.list hx
  have hlen := r.length
  refine ⟨"list", _, slot_list_getitem.lookup, ht.isList.typeIs, ?_⟩
  refine wpAny_getItem_list_slice ht.isList hs pl pu .none (by simp) ?_ (by rw [List.size_toArray] <;> omega)
  rw [slicePick_cut, ← hlen]
  refine ⟨.ref s.heap.objs.size, _, I.laid (t' := s.toks) (o := .lst (cutV xs lo hi)) (fun b ob q => Heap.get?_push_of_some _ q) (Nat.le_refl _) ?_, rfl, q _ (I.hok.fresh (Nat.le_refl _))⟩
  exact ⟨Nat.le_trans (cutV_length xs lo hi) hz, _, 0, (r.drop (HT.sIx xs.length 0 lo)).take (HT.sIx xs.length xs.length hi - HT.sIx xs.length 0 lo), Heap.get?_push_size _ rfl⟩
def flatV : V → Bool
  | .non => true
  | .bl _ => true
  | .int _ => true
  | .str _ => true
  | _ => false
def eqV : V → V → Bool
  | .non, .non => true
  | .bl a, .bl b => a == b
  | .bl a, .int b => (if a then 1 else 0) == b
  | .int a, .bl b => a == (if b then 1 else 0)
  | .int a, .int b => a == b
  | .str a, .str b => a == b
  | _, _ => false
theorem eqAt_V {A : Around} {s : Shared} {y x : V} {u v : Value} (ry : RelV y u) (rx : RelV x v) (fy : flatV y = true) (fx : flatV x = true) : SeqAt.EqAt A s u v (eqV y x) := by
  cases y with
  | non =>
    cases ry
    cases x with
    | non => cases rx; exact SeqAt.EqAt.same _
    | bl b => cases rx; exact SeqAt.EqAt.none_bool b
    | int b => obtain ⟨t, rfl⟩ := rx; exact SeqAt.EqAt.none_int b t
    | str b => obtain ⟨t, rfl⟩ := rx; exact SeqAt.EqAt.none_str b t
    | _ => exact absurd (show false = true from fx) Bool.false_ne_true
  | bl a =>
    cases ry
    cases x with
    | non => cases rx; exact SeqAt.EqAt.bool_none a
    | bl b => cases rx; exact SeqAt.EqAt.bool_bool a b
    | int b => obtain ⟨t, rfl⟩ := rx; exact SeqAt.EqAt.bool_int a b t
    | str b => obtain ⟨t, rfl⟩ := rx; exact SeqAt.EqAt.bool_str a b t
    | _ => exact absurd (show false = true from fx) Bool.false_ne_true
  | int a =>
    obtain ⟨t', rfl⟩ := ry
    cases x with
    | non => cases rx; exact SeqAt.EqAt.int_none a t'
    | bl b => cases rx; exact SeqAt.EqAt.int_bool a t' b
    | int b => obtain ⟨t, rfl⟩ := rx; exact SeqAt.EqAt.int_int a t' b t
    | str b => obtain ⟨t, rfl⟩ := rx; exact SeqAt.EqAt.int_str a t' b t
    | _ => exact absurd (show false = true from fx) Bool.false_ne_true
  | str a =>
    obtain ⟨t', rfl⟩ := ry
    cases x with
    | non => cases rx; exact SeqAt.EqAt.str_none a t'
    | bl b => cases rx; exact SeqAt.EqAt.str_bool a t' b
    | int b => obtain ⟨t, rfl⟩ := rx; exact SeqAt.EqAt.str_int a t' b t
    | str b => obtain ⟨t, rfl⟩ := rx; exact SeqAt.EqAt.str_str a t' b t
    | _ => exact absurd (show false = true from fx) Bool.false_ne_true
  | _ => exact absurd (show false = true from fy) Bool.false_ne_true
def eqU (x : V) (u : Value) : Bool := match u with
  | .none => eqV .non x
  | .bool b => eqV (.bl b) x
  | .int i _ => eqV (.int i) x
  | .str z _ => eqV (.str z) x
  | _ => false
theorem eqU_of {x y : V} {u : Value} (r : RelV y u) (f : flatV y = true) : eqU x u = eqV y x := by
  cases y with
  | non => cases r; rfl
  | bl b => cases r; rfl
  | int i => obtain ⟨t, rfl⟩ := r; rfl
  | str z => obtain ⟨t, rfl⟩ := r; rfl
  | _ => exact absurd (show false = true from f) Bool.false_ne_true
theorem any_eqU {x : V} : ∀ {xs : List V} {us : List Value}, Vals xs us → xs.all flatV = true → us.any (eqU x) = xs.any fun y => eqV y x
  | _, _, .nil, _ => rfl
  | y :: xs, u :: us, .cons r t, f => by
    rw [List.all_cons, Bool.and_eq_true] at f
    rw [List.any_cons, List.any_cons, eqU_of r f.1, any_eqU t f.2]
theorem mem_eqAt {A : Around} {s : Shared} {x : V} {v : Value} (rx : RelV x v) (fx : flatV x = true) : ∀ {xs : List V} {us : List Value}, Vals xs us → xs.all flatV = true → ∀ u ∈ us, SeqAt.EqAt A s u v (eqU x u)
  | _, _, .nil, _ => fun u hu => by cases hu
  | y :: xs, u :: us, .cons r t, f => fun u' hu => by
    rw [List.all_cons, Bool.and_eq_true] at f
    rcases List.mem_cons.mp hu with rfl | hu
    · rw [eqU_of r f.1]; exact eqAt_V r rx f.1 fx
    · exact mem_eqAt rx fx t f.2 u' hu
def inV (x : V) (xs : List V) : Bool := xs.any fun y => eqV y x
def rIn (K : PySem.W.Frag) (neg : Bool) : R2 := fun x y H Q => ∃ p xs, y = .ref p ∧ (SqL K H p xs ∨ SqT K H p xs) ∧ flatV x = true ∧ xs.all flatV = true ∧ Q (.bl (if neg then !inV x xs else inV x xs)) H
theorem op_in_seq : OpR X (compareOp .In) (rIn X.K false) := by
  intro pins s σ H x y v u Q I rx ry h
  obtain ⟨p, xs, rfl, hq, fx, fs, q⟩ := h
  cases ry
  rcases hq with hq | hq
  · obtain ⟨its, r, pl, hz⟩ := I.list hq
    refine SeqAt.in_listAt (eqU x) pl.isList (fun w hw => mem_eqAt rx fx r fs w (by simpa using hw)) ⟨.bl _, H, I, rfl, ?_⟩
    rw [show its.toArray.any (eqU x) = its.any (eqU x) by simp, any_eqU r fs]
    exact q
  · obtain ⟨its, r, pl, hz⟩ := I.tuple hq
    refine SeqAt.in_tupleAt (eqU x) pl (fun w hw => mem_eqAt rx fx r fs w (by simpa using hw)) ⟨.bl _, H, I, rfl, ?_⟩
    rw [show its.toArray.any (eqU x) = its.any (eqU x) by simp, any_eqU r fs]
    exact q
theorem call_list_of : CallR X (.type "list") (fun xs H Q => ∃ p ys, xs = [.ref p] ∧ (SqL X.K H p ys ∨ SqT X.K H p ys) ∧ ∀ l, H l = none → Q (.ref l) (upd H l (.lst ys))) := by
  intro pins s σ H xs us Q I r h
  obtain ⟨p, ys, rfl, hq, q⟩ := h
  obtain ⟨u, rfl, rx⟩ := vals1 r
  cases rx
  have fin : ∀ (its : List Value), Vals ys its → ys.length ≤ sizeLine → ∀ (h' : Heap) (c' : Nat), (∀ b o', s.heap.get? b = some o' → h'.get? b = some o') →
      h'.get? s.heap.objs.size = some { cls := .type "list", dict := none, data := .seq its.toArray c', slots := #[] } → EP X pins σ Q (.ref s.heap.objs.size) { s with heap := h' } := fun its r' hz h' c' kp e =>
    ⟨.ref s.heap.objs.size, _, I.laid (t' := s.toks) kp (Nat.le_refl _) (show ObjOk X.prog X.w _ h' _ (.lst ys) from ⟨hz, its, c', r', e⟩), rfl, q _ (I.hok.fresh (Nat.le_refl _))⟩
  rcases hq with hq | hq
  · obtain ⟨its, r', pl, hz⟩ := I.list hq
    have hlen := r'.length
    obtain ⟨o, ho, hc, n, hd⟩ := pl.isList
    exact call_list_seq p (.inl rfl) ho hc hd (fun h' c' kp e => fin its r' hz h' c' kp e) (by simp only [List.size_toArray] <;> omega)
  · obtain ⟨its, r', pl, hz⟩ := I.tuple hq
    have hlen := r'.length
    obtain ⟨o, ho, hc, n, hd⟩ := pl
    exact call_list_seq p (.inr rfl) ho hc hd (fun h' c' kp e => fin its r' hz h' c' kp e) (by simp only [List.size_toArray] <;> omega)
theorem call_tuple_of : CallR X (.type "tuple") (fun xs H Q => ∃ p ys, xs = [.ref p] ∧ ((SqL X.K H p ys ∧ ∀ l, H l = none → Q (.ref l) (upd H l (.tup ys))) ∨ (SqT X.K H p ys ∧ Q (.ref p) H))) := by
  intro pins s σ H xs us Q I r h
  obtain ⟨p, ys, rfl, h⟩ := h
  obtain ⟨u, rfl, rx⟩ := vals1 r
  cases rx
  rcases h with ⟨hq, q⟩ | ⟨hq, q⟩
  · obtain ⟨its, r', pl, hz⟩ := I.list hq
    have hlen := r'.length
    refine call_tuple_list pl.isList (fun h' kp => ?_) (by simp only [List.size_toArray] <;> omega)
    have I1 : Inv X pins σ H { s with heap := h' } := I.kept (t' := s.toks) kp
    have I2 : Inv X pins σ (upd H h'.objs.size (.tup ys)) { s with heap := h'.push { cls := .type "tuple", data := .seq its.toArray } } :=
      I1.laid (t' := s.toks) (fun b o e => Heap.get?_push_of_some _ e) (Nat.le_refl _) (show ObjOk X.prog X.w _ _ _ (.tup ys) from ⟨hz, its, r', PTup.new _ _⟩)
    exact ⟨.ref h'.objs.size, _, I2, rfl, q _ (I1.hok.fresh (Nat.le_refl _))⟩
  · obtain ⟨its, r', pl, hz⟩ := I.tuple hq
    exact call_tuple_same pl ⟨.ref p, H, I, rfl, q⟩
def tyV (K : PySem.W.Frag) (T : String) (x : V) (H : Hp) : Prop := match x with
  | .str _ => T = "str"
  | .int _ => T = "int"
  | .ref p => (T = "list" ∧ ∃ xs, SqL K H p xs) ∨ (T = "tuple" ∧ ∃ o, K.lookup p = some o ∧ o.cls = .type "tuple" ∧ o.dict = none) ∨
      (T = "dict" ∧ ((∃ kvs, H p = some (.dK kvs)) ∨ ∃ kvs, H p = some (.dT kvs))) ∨ (T = "set" ∧ ∃ S n, H p = some (.set S n)) ∨ (T = "tuple" ∧ ∃ xs, H p = some (.tup xs))
  | _ => False
theorem tyV_is {pins : List (Addr × Obj)} {σ : St} {H : Hp} {s : Shared} {T : String} {x : V} {v : Value} (I : Inv X pins σ H s) (r : RelV x v) (ty : tyV X.K T x H) :
    s.TypeIs v T ∧ ∀ a, v = .ref a → ∃ ob, s.heap.get? a = some ob ∧ ob.dict = none := by
  cases x with
  | str z =>
    obtain ⟨t, rfl⟩ := r
    cases (show T = "str" from ty)
    exact ⟨typeIs_str s z t, fun _ e => nomatch e⟩
  | int i =>
    obtain ⟨t, rfl⟩ := r
    cases (show T = "int" from ty)
    exact ⟨typeIs_int s i t, fun _ e => nomatch e⟩
  | ref p =>
    cases r
    rcases ty with ⟨rfl, xs, hq⟩ | ⟨rfl, o, hk, hc, hd⟩ | ⟨rfl, hk⟩ | ⟨rfl, S, n, hk⟩ | ⟨rfl, xs, hk⟩
    rotate_left 4
    · obtain ⟨_, its, _, o, e, c, _, hd⟩ := I.hok p _ hk
      exact ⟨⟨o, e, c⟩, fun a e2 => by cases e2; exact ⟨o, e, hd⟩⟩
    · obtain ⟨its, _, pl, _⟩ := I.list hq
      refine ⟨pl.isList.typeIs, fun a e => ?_⟩
      cases e
      obtain ⟨o, n, e, c, hd, _⟩ := pl
      exact ⟨o, e, hd⟩
    · refine ⟨⟨o, I.kIn p o hk, hc⟩, fun a e => ?_⟩
      cases e
      exact ⟨o, I.kIn _ o hk, hd⟩
    · have z : ∃ o, s.heap.get? p = some o ∧ o.ExactDict := by
        rcases hk with ⟨kvs, hk⟩ | ⟨kvs, hk⟩
        · obtain ⟨_, _, _, _, o, _, _, e, ex, _⟩ := I.hok p _ hk
          exact ⟨o, e, ex⟩
        · obtain ⟨_, _, _, _, o, _, _, e, ex, _⟩ := I.hok p _ hk
          exact ⟨o, e, ex⟩
      obtain ⟨o, e, ex⟩ := z
      refine ⟨⟨o, e, ex.1⟩, fun a e2 => ?_⟩
      cases e2
      exact ⟨o, e, ex.2.1⟩
    · obtain ⟨o, _, _, _, e, ex, _⟩ := I.hok p _ hk
      refine ⟨⟨o, e, ex.1⟩, fun a e2 => ?_⟩
      cases e2
      exact ⟨o, e, ex.2.1⟩
  | _ => exact False.elim ty
def tBM0 (K : PySem.W.Frag) (T : String) (r : V → List V → Hp → VK → Prop) (to : TE) : TE := fun σ H Q => to σ H fun x H1 => tyV K T x H1 ∧ r x [] H1 Q
def tBM (K : PySem.W.Frag) (T : String) (r : V → List V → Hp → VK → Prop) (to : TE) (t : TA) : TE := fun σ H Q => to σ H fun x H1 => tyV K T x H1 ∧ t σ H1 fun xs H2 => r x xs H2 Q
variable {o e : Expr} {es : List Expr} {to : TE} {t : TA} {name : Str} {apos cpos : Pos} {T id : String} {r : V → List V → Hp → VK → Prop}
theorem pe_bm0 (pa : PlainAttrs T) (slot : Slot T name id) (hty : typeOf (.builtin id) = pure (.type "method_descriptor")) (hm : MtR X id r) (ho : PE X o to)
    (hbase : attributeBase o name X.env (eval o X.env) = eval o X.env := by rfl) (hline : (apos.endLine == cpos.line) = true := by rfl) : PE X (.Call (.Attribute o name apos) [] [] cpos) (tBM0 X.K T r to) := by
  intro pins s σ H Q I h
  refine wpAny_Call_method0_late hbase hline (thn (ho pins s σ H _ I h) fun v s1 ⟨x, H1, I1, r1, ty, q1⟩ => ?_)
  obtain ⟨h1, h2⟩ := tyV_is I1 r1 ty
  exact ⟨T, id, pa, slot, hty, h1, h2, Calls.callWith_builtin rfl (PySem.evalArgs_none (hm pins s1 σ H1 x [] v [] Q I1 r1 .nil q1))⟩
theorem pe_bm (pa : PlainAttrs T) (slot : Slot T name id) (hty : typeOf (.builtin id) = pure (.type "method_descriptor")) (hm : MtR X id r) (ho : PE X o to) (ha : PA X (e :: es) t)
    (hbase : attributeBase o name X.env (eval o X.env) = eval o X.env := by rfl)
    (hfew : ((backTo cpos (starEach (e :: es) X.env)).all (fun x => !x.1) && (backToKw cpos (keywordEach [] X.env)).all (fun x => x.1.isSome)
      && decide ((e :: es).length + ([] : List Keyword).length + (if ([] : List Keyword).isEmpty then 0 else 1) < 30)) = true := by rfl)
    (hline : (apos.endLine == cpos.line) = true := by rfl) (hs : starEach (e :: es) X.env = (false, eval e X.env) :: starEach es X.env := by rfl) (hplain : (backTo cpos (starEach es X.env)).any (·.1) = false := by rfl) :
    PE X (.Call (.Attribute o name apos) (e :: es) [] cpos) (tBM X.K T r to t) := by
  intro pins s σ H Q I h
  refine wpAny_Call_method_late hbase hfew hline rfl (thn (ho pins s σ H _ I h) fun v s1 ⟨x, H1, I1, r1, ty, q1⟩ => ?_)
  obtain ⟨h1, h2⟩ := tyV_is I1 r1 ty
  refine ⟨T, id, pa, slot, hty, h1, h2, ?_⟩
  have hA := ha cpos pins s1 σ H1 _ I1 q1
  rw [hs] at hA ⊢
  refine Calls.callWith_builtin (by show (false || (backTo cpos (starEach es X.env)).any (·.1)) = false; rw [hplain] <;> rfl) (Calls.evalArgs_plain ?_)
  exact thn hA fun us s2 ⟨vs, H2, I2, r2, q2⟩ => hm pins s2 σ H2 x vs v us Q I2 r1 r2 q2
/- xs.append(e), list.index on a module's tuple .. are MtR facts of 06m -/
end
end L2
namespace L2
open PySem PySem.Spec PyProof.Rows
def MtM (X : Cx) (id : String) (r : V → List V → Hp → VK → Prop) : Prop :=
  ∀ (pins : List (Addr × Obj)) (s : Shared) (σ : St) (H : Hp) (x : V) (xs : List V) (v : Value) (us : List Value) (Q : VK), Inv X pins σ H s → RelV x v → Vals xs us → r x xs H Q →
    wpAny (model X.prog X.w) X.A (call (.builtin id) (v :: us)) (EP X pins σ Q) X.xe s
theorem Vals.one : ∀ {x : V} {us : List Value}, Vals [x] us → ∃ u, us = [u] ∧ RelV x u
  | _, _, .cons r .nil => ⟨_, rfl, r⟩
theorem Vals.zero : ∀ {us : List Value}, Vals [] us → us = []
  | _, .nil => rfl
theorem Vals.dropLast {xs : List V} {us : List Value} (h : Vals xs us) : Vals xs.dropLast us.dropLast := by
  induction h with
  | nil => exact .nil
  | cons r t ih =>
    cases t with
    | nil => exact .nil
    | cons q t' => exact .cons r ih
theorem Vals.eraseIdx : ∀ {xs : List V} {us : List Value} (i : Nat), Vals xs us → Vals (xs.eraseIdx i) (us.eraseIdx i)
  | _, _, _, .nil => .nil
  | _, _, 0, .cons _ t => t
  | _, _, i + 1, .cons r t => .cons r (Vals.eraseIdx i t)
theorem Vals.rep {xs : List V} {us : List Value} (h : Vals xs us) : ∀ k : Nat, Vals (List.replicate k xs).flatten (List.replicate k us).flatten
  | 0 => .nil
  | k + 1 => by
    rw [List.replicate_succ, List.replicate_succ, List.flatten_cons, List.flatten_cons]
    exact Vals.append h (Vals.rep h k)
theorem erase_last {α : Type} (l : List α) : l.eraseIdx (l.length - 1) = l.dropLast := by
  induction l with
  | nil => rfl
  | cons a r ih =>
    cases r with
    | nil => rfl
    | cons b r =>
      have e : (a :: b :: r).length - 1 = ((b :: r).length - 1) + 1 := by
        have h1 : (a :: b :: r).length = r.length + 2 := rfl
        have h2 : (b :: r).length = r.length + 1 := rfl
        omega
      rw [e, List.eraseIdx_cons_succ, ih]
      all_goals rfl
theorem len_erase {α : Type} : ∀ (l : List α) (i : Nat), (l.eraseIdx i).length ≤ l.length
  | [], _ => Nat.le_refl _
  | _ :: _, 0 => Nat.le_succ _
  | _ :: r, i + 1 => Nat.succ_le_succ (len_erase r i)
theorem foldl_rep (its : List Value) : ∀ (k : Nat) (acc : List Value),
    List.foldl (fun x1 x2 => x1 ++ x2) acc.toArray (List.replicate k its.toArray) = (acc ++ (List.replicate k its).flatten).toArray
  | 0, acc => by simp
  | k + 1, acc => by
    have e : acc.toArray ++ its.toArray = (acc ++ its).toArray := by simp
    have e2 : (acc ++ its) ++ (List.replicate k its).flatten = acc ++ (List.replicate (k + 1) its).flatten := by
      rw [List.replicate_succ, List.flatten_cons, List.append_assoc]
    rw [← e2, ← foldl_rep its k (acc ++ its), ← e, List.replicate_succ, List.foldl_cons]
section
variable {X : Cx} {pins : List (Addr × Obj)} {σ : St} {H : Hp} {s : Shared} {l b : Addr} {xs ys zs : List V}
theorem Inv.lset {its its' : List Value} {n : Nat} {f : Array Value → Array Value} {t' : Nat} (I : Inv X pins σ H s) (hH : H l = some (.lst xs))
    (e : s.heap.get? l = some { cls := .type "list", data := .seq its.toArray n }) (hf : f its.toArray = its'.toArray) (hv : Vals ys its') (hz : ys.length ≤ sizeLine) :
    Inv X pins σ (upd H l (.lst ys)) { s with heap := s.heap.update l (Obj.mapSeq f), toks := t' } := by
  have q := PySem.IsL.update e f
  rw [hf] at q
  refine I.write (x := l) (e := l) (by rw [hH]; exact trivial) (.inl rfl) (fun b' u hb hu => (Heap.get?_update_other s.heap (Obj.mapSeq f) (Ne.symm hb)).trans hu) ⟨_, q⟩ ?_
  exact ⟨hz, its', _, hv, q⟩
theorem Inv.lnew {its : List Value} {t' : Nat} (I : Inv X pins σ H s) (hv : Vals ys its) (hz : ys.length ≤ sizeLine) :
    Inv X pins σ (upd H s.heap.objs.size (.lst ys)) { s with heap := s.heap.push { cls := .type "list", data := .seq its.toArray }, toks := t' } :=
  I.laid (fun _ _ q => Heap.get?_push_of_some _ q) (Nat.le_refl _) ⟨hz, its, 0, hv, Heap.get?_push_size _ rfl⟩
theorem Inv.fresh (I : Inv X pins σ H s) : H s.heap.objs.size = none := I.hok.fresh (Nat.le_refl _)
theorem Inv.lstM (I : Inv X pins σ H s) (hH : H l = some (.lst xs)) : xs.length ≤ sizeLine ∧ ∃ (its : List Value) (n : Nat), Vals xs its ∧ xs.length = its.length ∧ s.heap.get? l = some { cls := .type "list", data := .seq its.toArray n } := by
  obtain ⟨z, its, n, r, e⟩ := I.hok l _ hH
  exact ⟨z, its, n, r, r.length, e⟩
theorem notLongL {n : Nat} (h : n ≤ sizeLine) : Builtin.List.listTooLong n = false := by
  unfold Builtin.List.listTooLong
  exact decide_eq_false (by omega)
end
section
variable {X : Cx}
def rAppend : V → List V → Hp → VK → Prop := fun x vs H Q => ∃ l xs y, x = .ref l ∧ vs = [y] ∧ H l = some (.lst xs) ∧ xs.length < sizeLine ∧ Q .non (upd H l (.lst (xs ++ [y])))
theorem mt_append : MtM X "list.append" rAppend := by
  intro pins s σ H x vs v us Q I rx rv h
  obtain ⟨l, xs, y, rfl, rfl, hH, hz, q⟩ := h
  cases rx
  obtain ⟨u, rfl, ru⟩ := rv.one
  obtain ⟨z, its, n, r, hl, e⟩ := I.lstM hH
  refine call_meets F.slot_list_append ⟨_, e, rfl⟩ F.entry_list_append (F.args_list_append_2 _ _) (PySem.list_append l its.toArray n u (by rw [List.size_toArray]; omega)) ⟨e, ?_⟩
  refine ⟨.non, _, I.lset (its' := its ++ [u]) hH e (by simp) (r.append (.cons ru .nil)) ?_, rfl, q⟩
  rw [List.length_append, List.length_singleton]
  omega
def rExtend : V → List V → Hp → VK → Prop := fun x vs H Q => ∃ l b xs zs, x = .ref l ∧ vs = [.ref b] ∧ H l = some (.lst xs) ∧ H b = some (.lst zs) ∧ xs.length + zs.length ≤ sizeLine ∧ Q .non (upd H l (.lst (xs ++ zs)))
theorem mt_extend : MtM X "list.extend" rExtend := by
  intro pins s σ H x vs v us Q I rx rv h
  obtain ⟨l, b, xs, zs, rfl, rfl, hH, hB, hz, q⟩ := h
  cases rx
  obtain ⟨u, rfl, ru⟩ := rv.one
  cases ru
  obtain ⟨z, its, n, r, hl, e⟩ := I.lstM hH
  obtain ⟨z2, its2, n2, r2, hl2, e2⟩ := I.lstM hB
  have hsz : its.toArray.size + its2.toArray.size ≤ sizeLine := by rw [List.size_toArray, List.size_toArray]; omega
  have hlong : ¬ (!its.toArray.isEmpty && Builtin.List.listTooLong (its.toArray.size + its2.toArray.size)) = true := by
    rw [notLongL hsz, Bool.and_false]
    exact Bool.false_ne_true
  refine call_meets F.slot_list_extend ⟨_, e, rfl⟩ F.entry_list_extend (F.args_list_extend_2 _ _)
    (AutoSeq1.list_extend_list_list_0 l its.toArray n b its2.toArray n2 hlong (by rw [List.size_toArray]; omega) (by omega)) ⟨e, e2, ?_⟩
  refine ⟨.non, _, I.lset (its' := its ++ its2) hH e (by simp) (r.append r2) ?_, rfl, q⟩
  rw [List.length_append]
  omega
def rPop : V → List V → Hp → VK → Prop := fun x vs H Q => ∃ l xs y, x = .ref l ∧ vs = [] ∧ H l = some (.lst xs) ∧ xs[xs.length - 1]? = some y ∧ Q y (upd H l (.lst xs.dropLast))
theorem mt_pop : MtM X "list.pop" rPop := by
  intro pins s σ H x vs v us Q I rx rv h
  obtain ⟨l, xs, y, rfl, rfl, hH, hy, q⟩ := h
  cases rx
  have hus := rv.zero
  subst hus
  obtain ⟨z, its, n, r, hl, e⟩ := I.lstM hH
  obtain ⟨u, hu, ru⟩ := r.get hy
  have hy' : its.toArray[its.toArray.size - 1]? = some u := by
    show its.toArray[its.length - 1]? = some u
    rw [← Array.getElem?_toList, ← hl]
    exact hu
  refine call_meets F.slot_list_pop ⟨_, e, rfl⟩ F.entry_list_pop (F.args_list_pop_1 _) (MeetsSeq.list_pop_last l its.toArray n u hy' (by rw [List.size_toArray]; omega)) ⟨e, ?_⟩
  refine ⟨y, _, I.lset (its' := its.dropLast) hH e ?_ r.dropLast ?_, ru, q⟩
  · show its.toArray.eraseIdxIfInBounds (its.toArray.size - 1) = its.dropLast.toArray
    rw [List.size_toArray, List.eraseIdxIfInBounds_toArray, erase_last]
  · rw [List.length_dropLast]
    omega
def rPopAt : V → List V → Hp → VK → Prop := fun x vs H Q => ∃ l xs i k y, x = .ref l ∧ vs = [.int i] ∧ H l = some (.lst xs) ∧ -(2 ^ 63) ≤ i ∧ i < 2 ^ 63 ∧ seqIndex? i xs.length = some k ∧ xs[k]? = some y ∧ Q y (upd H l (.lst (xs.eraseIdx k)))
theorem mt_popAt : MtM X "list.pop" rPopAt := by
  intro pins s σ H x vs v us Q I rx rv h
  obtain ⟨l, xs, i, k, y, rfl, rfl, hH, h1, h2, hk, hy, q⟩ := h
  cases rx
  obtain ⟨u, rfl, ru⟩ := rv.one
  obtain ⟨t, rfl⟩ := ru
  obtain ⟨z, its, n, r, hl, e⟩ := I.lstM hH
  obtain ⟨w, hw, rw'⟩ := r.get hy
  refine call_meets F.slot_list_pop ⟨_, e, rfl⟩ F.entry_list_pop (F.args_list_pop_2 _ _)
    (MeetsSeq.list_pop_at l its.toArray n i t k w (fitsIndex_both h1 h2) (by rw [List.size_toArray, ← hl]; exact hk) (by rw [← Array.getElem?_toList]; exact hw) (by rw [List.size_toArray]; omega)) ⟨e, ?_⟩
  refine ⟨y, _, I.lset (its' := its.eraseIdx k) hH e ?_ (r.eraseIdx k) ?_, rw', q⟩
  · show its.toArray.eraseIdxIfInBounds k = (its.eraseIdx k).toArray
    rw [List.eraseIdxIfInBounds_toArray]
  · have := len_erase xs k
    omega
def rCat : R2 := fun x y H Q => ∃ l b xs zs, x = .ref l ∧ y = .ref b ∧ H l = some (.lst xs) ∧ H b = some (.lst zs) ∧ xs.length + zs.length ≤ sizeLine ∧ ∀ p, H p = none → Q (.ref p) (upd H p (.lst (xs ++ zs)))
theorem op_cat : OpR X (binaryOp .Add) rCat := by
  intro pins s σ H x y v u Q I rx ry h
  obtain ⟨l, b, xs, zs, rfl, rfl, hH, hB, hz, q⟩ := h
  cases rx
  cases ry
  obtain ⟨z, its, n, r, hl, e⟩ := I.lstM hH
  obtain ⟨z2, its2, n2, r2, hl2, e2⟩ := I.lstM hB
  refine PySem.P.add_list e e2 ?_ (by rw [List.size_toArray, List.size_toArray]; omega)
  have ea : its.toArray ++ its2.toArray = (its ++ its2).toArray := by simp
  rw [ea]
  exact ⟨.ref _, _, I.lnew (t' := s.toks) (r.append r2) (by rw [List.length_append]; omega), rfl, q _ I.fresh⟩
theorem len_rep {α : Type} (xs : List α) (k : Nat) : (List.replicate k xs).flatten.length = k * xs.length := by
  induction k with
  | zero => simp
  | succ k ih => rw [List.replicate_succ, List.flatten_cons, List.length_append, ih, Nat.succ_mul, Nat.add_comm]
end
section
variable {prog : Program} {w : World} {A : Around} {E : Value → Shared → Prop} {s : Shared}
set_option maxRecDepth 100000 in
end
section
variable {X : Cx}
end
end L2
namespace Att
open PySem PySem.W PySem.Calls PyProof.Rows
theorem ints_of_wellAll {P : Params} {h : Heap} : ∀ (ns : List Int) (vs : List Value), WellAll P h vs (ns.map WData.int) → IntsAre vs ns := by
  intro ns
  induction ns with
  | nil =>
    intro vs w
    rw [List.map_nil] at w
    cases w
    exact .nil
  | cons n ns ih =>
    intro vs w
    rw [List.map_cons] at w
    cases w with
    | cons a b =>
      cases a
      exact .cons _ _ (ih _ b)
theorem script_of {l : OpenLaw} {n : Nat} (hn : l.most = some n) {P : Params} {h : Heap} {args : List WData} {vals : List Value}
    (hpre : l.row.toRowW.claim.pre args = true) (hwl : WellAll P h vals args) :
    ∃ a vs ns, vals = [Value.ref a] ∧ args = [WData.list (ns.map WData.int)] ∧ h.get? a = some { cls := .type "list", data := .seq vs.toArray } ∧ IntsAre vs ns ∧ ns.length ≤ n := by
  have hsh : WShape.hasAll [] args [.list .int] = true := (pre_splitW hpre).1
  have hc : l.pre.holds [] { args := args } = true := (pre_splitW hpre).2
  obtain ⟨d, r, rfl, h1, h2⟩ := hasAllW_cons hsh
  obtain rfl := hasAllW_nil h2
  obtain ⟨xs, rfl, h3⟩ := hasW_list h1
  obtain ⟨ns, rfl⟩ := items_int h3
  have hlen : ns.length ≤ n := by
    unfold OpenLaw.pre at hc
    have h4 : (WTm.not (.lt (.lit (.int (n : Int))) (.len (.arg 0)))).holds [] { args := [.list (ns.map .int)] } = true := by
      have h4 := (holds_andW hc).1
      rw [hn] at h4
      exact h4
    have h5 := condW_of h4 (w_not (w_lt w_lit (w_len_list (w_arg rfl))))
    rw [List.length_map] at h5
    refine Nat.le_of_not_lt fun q => ?_
    have q' : (n : Int) < ((ns.length : Nat) : Int) := by omega
    first
      | (rw [decide_eq_true q'] at h5; exact absurd h5 (by decide))
      | (simp at h5; omega)
  cases hwl with
  | cons w1 w2 =>
    cases w2
    cases w1 with
    | list ho hall => exact ⟨_, _, ns, rfl, rfl, ho, ints_of_wellAll ns _ hall, hlen⟩
theorem post_true (l : OpenLaw) (args : List WData) : l.row.toRowW.claim.post args (.bool true) args = true :=
  postW_of (r := l.row.toRowW) (X := (true == true))
    (show WShape.has [] (.bool true) .bool = true by first | rfl | decide | simp [WShape.has, WShape.arms, WShape.armsAll])
    (show (WTm.eq .res (.lit (.bool true))).value [] { args := args, res := some (.bool true), after := args } = some (.bool (true == true)) from w_eq_bool (w_res rfl) w_lit) rfl
theorem attach_call {l : OpenLaw} {n : Nat} {q : Program} {loose : List Str} {XP : (Str → Option Value) → Heap → Prop} {YP : World → Heap → Prop} {d : DefRec}
    (hn : l.most = some n) (hdf : d.params.defaults = [])
    (call : ∀ (w : World) (s₀ s₁ : Shared) (mg mb : Str → Option Value) (fa : Addr) (o : Obj) (pm cd doc : Value) (a : Addr) (vs : List Value) (ns : List Int),
      Ground q loose [] XP w s₀ mg mb s₁.heap → YP w s₁.heap →
      s₁.heap.get? fa = some o → o.data = .func (docDef d.name d.params d.body d.scope pm cd doc) → s₁.heap.CodeRec cd d.name → mg d.name = some (.ref fa) →
      s₁.heap.get? a = some { cls := .type "list", data := .seq vs.toArray } → IntsAre vs ns → ns.length ≤ n → s₁.gens = #[] →
      codeAny (model l.prog w) callerA (.call (.ref fa) ⟨[.ref a], []⟩) (fun r s' => r = .ok (.ret (.bool true)) ∧ OldK s₁.heap s'.heap ∧ s'.os = s₁.os ∧ AllBare s'.gens) s₁) :
    WalkO q loose XP YP l.row.toRowW d [] (fun f vs => PySem.call f vs) := by
  intro w s₀ s₁ mg mb G Y fa o pm cd doc dV kV ho hd hcd hD hmg hg args vals as hpre hlay hrd hwl hlo
  obtain rfl : dV = .none := Dflts.none hD hdf
  obtain rfl : kV = .none := Dflts.noKw hD
  obtain ⟨a, vs, ns, rfl, rfl, hobj, hints, hlen⟩ := script_of hn hpre hwl
  refine enter_call (codeAny_mono (call w s₀ s₁ mg mb fa o pm cd doc a vs ns G Y ho (fd_plain hd) hcd hmg hobj hints hlen hg) fun r s' hq => ?_)
  obtain ⟨rfl, h2, h3, h4⟩ := hq
  exact ⟨.inl ⟨.bool true, .bool true, [], rfl, fun _ => rfl, .bool true, post_true l _, fun _ => ⟨List.Pairwise.nil, fun _ hm => (nomatch hm)⟩⟩, h2, h3, h4⟩
section
variable {prog : Program} {w : World} {A : Around} {E : Value → Shared → Prop} {s : Shared} {K : Frag}
end
end Att
namespace L2
open PySem PySem.Spec PyProof.Rows
theorem vals_ints : ∀ {vs : List Value} {ns : List Int}, IntsAre vs ns → Vals (ns.map V.int) vs
  | _, _, .nil => .nil
  | _, _, .cons n t h => .cons ⟨t, rfl⟩ (vals_ints h)
def Only (H : Hp) : Prop := ∀ b, H b = none ∨ ∃ o xs, H b = some (.frz o (.lst xs))
theorem law_call {P : Program} {w : World} {K : PySem.W.Frag} {mg mb : Str → Option Value} {CX : CXT} {k : Nat} {fa a : Addr} {fd : FuncData} {x : Str} {sp : Sp} {s₁ : Shared} {vs : List Value} {ns : List Int}
    (KX : K.In s₁.heap) (hns : s₁.heap.Ns mainGlobals mg) (hb : s₁.heap.Ns builtinsNs mb) (hbb : ∀ x : Str, x ≠ "__name__" → mb x = bootBuiltins x) (hlim : s₁.heap.NoLimit) (hg : s₁.gens = #[])
    (ha : s₁.heap.get? a = some { cls := .type "list", data := .seq vs.toArray }) (hi : IntsAre vs ns) (hl : ns.length ≤ sizeLine) (hr : Room k callerA)
    (F : ∀ base : Heap, K.In base → base.Ns mainGlobals mg → FnOk P w K mg base CX k fa fd [x] sp) (hbind : ∀ (s : Shared) (u : Value), BindsTo s fd ⟨[u], []⟩ [(x, u)])
    (hsp : ∀ H : Hp, Only H → SqL K H a (ns.map V.int) → sp [.ref a] H (fun v _ => v = .bl true) fun _ _ _ => False)
    (hCX : ∀ H e s', CX [] H s₁ (fun _ _ _ => False) e s' → False) :
    codeAny (model P w) callerA (.call (.ref fa) ⟨[.ref a], []⟩) (fun r s' => r = .ok (.ret (.bool true)) ∧ OldK s₁.heap s'.heap ∧ s'.os = s₁.os ∧ AllBare s'.gens) s₁ := by
  have rv := vals_ints hi
  have lenV := hi.length
  -- from an abstract heap in which nothing but the script may be tracked
  have core : ∀ H : Hp, Only H → SqL K H a (ns.map V.int) → HOk P w H s₁.heap → (∀ b, H b ≠ none → b = a) → (H a ≠ none → K.lookup a = none) →
      codeAny (model P w) callerA (.call (.ref fa) ⟨[.ref a], []⟩) (fun r s' => r = .ok (.ret (.bool true)) ∧ OldK s₁.heap s'.heap ∧ s'.os = s₁.os ∧ AllBare s'.gens) s₁ := by
    intro H hO hS hok hA hK
    have base_of : ∀ {b : Addr} {o : Obj}, s₁.heap.get? b = some o → H b = none → (hidT s₁.heap H).get? b = some o := fun e n => hidT_get e n
    have noA : ∀ {b : Addr} {o : Obj} {es : Array DictEntry} {ep : Nat}, s₁.heap.get? b = some o → o.data = .dict es ep → H b = none := fun {b o es ep} e d => by
      cases q : H b with
      | none => rfl
      | some u =>
        have e' : b = a := hA b (by rw [q]; simp)
        subst e'
        rw [ha] at e; cases e
        have d' : Data.seq vs.toArray _ = Data.dict es ep := d
        cases d'
    have nsK : ∀ {b : Addr} {m : Str → Option Value}, s₁.heap.Ns b m → (hidT s₁.heap H).Ns b m := fun {b m} ⟨o, es, ep, e, d, r⟩ => ⟨o, es, ep, base_of e (noA e d), d, r⟩
    have hKb : K.In (hidT s₁.heap H) := fun b o e => base_of (KX b o e) (by
      cases q : H b with
      | none => rfl
      | some u =>
        have e' : b = a := hA b (by rw [q]; simp)
        subst e'
        rw [hK (by rw [q]; simp)] at e; cases e)
    have hM : Mod K mg (hidT s₁.heap H) := ⟨hKb, nsK hns, ⟨mb, nsK hb, hbb⟩, let ⟨mc, h1, h2⟩ := hlim; ⟨mc, nsK h1, h2⟩⟩
    have e0 : Env0 P w K mg (hidT s₁.heap H) callerA [] s₁ H := ⟨rfl, hM, fun b o e => of_hidT e, Nat.le_of_eq (hidT_size _ _), trivial, fun b hb => absurd (show b ∈ ([] : List Addr) from hb) (by simp), hok, .of_eq hg⟩
    refine codeAny_mono ((F _ hKb (nsK hns)).run callerA [] s₁ H ⟨[.ref a], []⟩ [.ref a] [.ref a] _ _ hr e0 (hbind s₁ (.ref a)) (.cons rfl .nil) (hsp H hO hS)) fun r s' h => ?_
    cases r with
    | error e => exact (hCX H e s' h).elim
    | ok fl =>
      cases fl with
      | next => exact False.elim h
      | brk => exact False.elim h
      | cont => exact False.elim h
      | ret u =>
        obtain ⟨v, H', os, bare, un, hok', r', q⟩ := h
        have q' : v = .bl true := q
        subst q'
        obtain rfl : u = Value.bool true := r'
        refine ⟨rfl, OldK.of_keep fun b o e => ?_, os, bare⟩
        cases q : H b with
        | none => exact un.keep b o e q (by intro z; exact absurd (show b ∈ ([] : List Addr) from z) (by simp)) (by simp)
        | some u =>
          rcases hO b with z | ⟨ob, xs, z⟩
          · rw [q] at z; cases z
          · have z2 := un.frzs b ob _ z
            obtain ⟨e1, _⟩ := hok b _ z
            obtain ⟨e2, _⟩ := hok' b _ z2
            rw [e] at e1; cases e1
            exact e2
  cases hk : K.lookup a with
  | some o =>
    -- the script is one of the module's own objects
    have e := KX a o hk
    rw [ha] at e
    cases e
    refine core (fun _ => none) (fun _ => .inl rfl) (.inr ⟨_, vs.toArray, _, hk, rfl, rfl, rfl, by rw [List.size_toArray, lenV]; exact hl, by simpa using rv⟩) (fun b u z => by have z' : (none : Option HO) = some u := z; cases z') (fun b z => absurd rfl z) fun z => absurd rfl z
  | none =>
    refine core (fun b => if b = a then some (.frz { cls := .type "list", data := .seq vs.toArray } (.lst (ns.map V.int))) else none) (fun b => ?_) (.inl (.inr ⟨{ cls := .type "list", data := .seq vs.toArray }, if_pos rfl⟩)) (fun b u z => ?_) (fun b z => ?_) fun _ => hk
    · by_cases hb : b = a
      · exact .inr ⟨_, _, if_pos hb⟩
      · exact .inl (if_neg hb)
    · by_cases hb : b = a
      · have z' := (if_pos hb).symm.trans z
        cases z'
        subst hb
        exact ⟨ha, by rw [List.length_map]; exact hl, vs, _, rv, ha⟩
      · have z' := (if_neg hb).symm.trans z
        cases z'
    · by_cases hb : b = a
      · exact hb
      · exact absurd (if_neg hb) z
end L2
namespace L2
open PySem PySem.Spec PyProof.Rows
theorem walk_of {l : PySem.W.OpenLaw} {n k : Nat} {q : Program} {loose : List Str} {XP : (Str → Option Value) → Heap → Prop} {YP : World → Heap → Prop} {d : DefRec} {K : Params → PySem.W.Frag} {CX : World → CXT} {sp : World → Sp} {x : Str}
    (hn : l.most = some n) (hn2 : n ≤ sizeLine) (hdf : d.params.defaults = []) (hr : Room k callerA)
    (hY : ∀ (w : World) (h : Heap), YP w h → (K w.params).In h)
    (F : ∀ (w : World) (mg : Str → Option Value) (fa : Addr) (h : Heap), (K w.params).In h → h.Ns mainGlobals mg → mg d.name = some (.ref fa) →
      ∃ fd : FuncData, (∀ (s : Shared) (u : Value), BindsTo s fd ⟨[u], []⟩ [(x, u)]) ∧
        ∀ base : Heap, (K w.params).In base → base.Ns mainGlobals mg → FnOk l.prog w (K w.params) mg base (CX w) k fa fd [x] (sp w))
    (hsp : ∀ (w : World) (H : Hp) (a : Addr) (ns : List Int), ns.length ≤ n → Only H → SqL (K w.params) H a (ns.map V.int) → sp w [.ref a] H (fun v _ => v = .bl true) fun _ _ _ => False)
    (hCX : ∀ (w : World) (H : Hp) (s : Shared) (e : Value) (s' : Shared), CX w [] H s (fun _ _ _ => False) e s' → False) :
    PySem.W.WalkO q loose XP YP l.row.toRowW d [] (fun f vs => PySem.call f vs) := by
  refine Att.attach_call hn hdf fun w s₀ s₁ mg mb fa o pm cd doc a vs ns G Y ho hd hcd hmg hobj hints hlen hg => ?_
  have KX := hY w _ Y
  obtain ⟨fd, hb, hF⟩ := F w mg fa _ KX G.T.g hmg
  exact law_call KX G.T.g G.T.b G.T.builtins G.T.nolimit hg hobj hints (Nat.le_trans hlen hn2) hr hF hb (fun H hO hS => hsp w H a ns hlen hO hS) fun H e s' => hCX w H s₁ e s'
end L2
/- THE LAST THEOREM (shape; LID, My.* are yours):
   My.Adr: a structure of the addresses that your layer names (classes, functions); My.Txt K t: a structure (Prop) of the equations over K;
   My.txt_mk : {K} {implicit addresses ..} (e1 : nsIn K mainGlobals "law" = some (some (.ref f))) (e2 : K.lookup f = some ⟨oc, od, .func (fnOf "law" "law" params body scope dV kV doc pm an cdv ct), sl⟩) (e3 : codeIn K cdv "law" = true) .. : ∃ t, My.Txt K t
set_option maxRecDepth 100000 in
set_option maxHeartbeats 0 in
theorem PySem.Challenge.cw_LID_holds : PySem.Challenge.rw_LID.Holds := by
  w_on; o_law; k_head; (case hw => w_witness2)
  k_fill
  refine L2.walk_of (l := PySem.Challenge.rw_LID) (n := 63) (k := 40) (x := "script") (CX := fun w => ..) (sp := fun _ => My.sp_law) rfl (by decide) rfl ⟨rfl, by decide, by decide⟩ (fun w h Y => PySem.W.kIn_of Y) ?F ?S ?C
  case F =>
    intro w mg fa h KX G hmg
    have T : ∃ t, My.Txt (L2.KOf KX) t := by
      dsimp only [L2.KOf]                          -- K must stand as «<heap const> w.params» for k_is
      refine' My.txt_mk ?e1 ?e2 ?e3 ..
      (case e1 => PySem.W.k_is)                    -- in the order: a name -> its address -> its object -> its parts
      (case e2 => PySem.W.k_is)
      ..
    obtain ⟨t, T⟩ := T
    have e0 := hmg.symm.trans (PySem.W.mg_of KX G T.law)
    cases e0                                       -- fa is the law's own address
    exact ⟨_, fun s u => .of_eq rfl, fun base kb nb => My.law_fn T kb nb⟩     -- if «.of_eq rfl» comes too early: refine' ⟨_, ?b, fun base kb nb => My.law_fn T kb nb⟩; exact fun s u => .of_eq rfl
  case S => exact fun w H a ns hl hO hS => ..
  case C => exact ..
(the tactic k_is has no namespace: write k_is) -/
namespace L2
open PySem PySem.Spec PyProof.Rows
def defArgs (s : Stmt) : Arguments := match s with
  | .FunctionDef _ a _ _ _ _ _ _ _ _ => a
  | _ => { posonlyargs := [], args := [], vararg := none, kwonlyargs := [], kw_defaults := [], kwarg := none, defaults := [] }
def defBody (s : Stmt) : List Stmt := match s with
  | .FunctionDef _ _ b _ _ _ _ _ _ _ => b
  | _ => []
def defScope (s : Stmt) : Scope := match s with
  | .FunctionDef _ _ _ _ _ _ sc _ _ _ => sc
  | _ => { kind := .function, names := [], isGenerator := false, isCoroutine := false }
abbrev CX0 : CXT := fun _ _ _ _ _ _ => False
abbrev E0 : XK := fun _ _ _ => False
theorem pass0 {X : Cx} : Passes CX0 X E0 := fun _ _ _ _ _ _ _ h => h.elim
structure Fun (K : PySem.W.Frag) (x qual : Str) (st : Stmt) (f : Addr) (fd : FuncData) : Prop where
  ex : ∃ (oc : Value) (od : Option Addr) (kV doc pm : Value) (an : Option Addr) (cdv ct : Value) (osl : Array (Option Value)),
    fd = PySem.W.fnOf x qual (defArgs st) (defBody st) (defScope st) .none kV doc pm an cdv ct ∧ K.lookup f = some ⟨oc, od, .func fd, osl⟩ ∧ PySem.W.codeIn K cdv qual = true
  kp : PySem.W.keepIn K (.ref f) = true
section
variable {P : Program} {w : World} {K : PySem.W.Frag} {mg : Str → Option Value} {base : Heap}
theorem Fun.ok {x qual : Str} {st : Stmt} {f : Addr} {fd : FuncData} {N ps : List Str} {k : Nat} {sp : Sp} (F : Fun K x qual st f fd) (S : FnScope N ps (defScope st)) (len : ∀ vs H Q E, sp vs H Q E → vs.length = ps.length)
    (hbody : ∀ (cdv : Value) (A : Around) (outer : List Env) (s : Shared) (H : Hp) (vs : List V) (Q : VK) (E : XK), Room k (A.deeper (envOfC qual (defScope st) s.heap.objs.size f cdv)) → sp vs H Q E →
      ∃ t, PSs (cxOf CX0 P w K mg base N qual (defScope st) f cdv A outer s H E).nox (defBody st) t ∧ t { nx := fun _ H' => Q .non H', rt := Q } (start N vs) H) : FnOk P w K mg base CX0 (k + 1) f fd ps sp := by
  obtain ⟨oc, od, kV, doc, pm, an, cdv, ct, osl, rfl, lk, hcd⟩ := F.ex
  refine fn_of lk hcd S len fun A outer s H vs Q E hr hsp => ?_
  obtain ⟨t, h, q⟩ := hbody cdv A outer s H vs Q E hr hsp
  exact ⟨t, h.nox, q⟩
theorem Fun.binds {x qual : Str} {st : Stmt} {f : Addr} {fd : FuncData} {ps : List Str} (F : Fun K x qual st f fd)
    (h : ∀ (kV doc pm : Value) (an : Option Addr) (cdv ct : Value) (us : List Value), us.length = ps.length → bindArgs (PySem.W.fnOf x qual (defArgs st) (defBody st) (defScope st) .none kV doc pm an cdv ct) ⟨us, []⟩ = pure (ps.zip us)) : Binds K fd ps [] := by
  obtain ⟨oc, od, kV, doc, pm, an, cdv, ct, osl, rfl, lk, hcd⟩ := F.ex
  exact .all (h kV doc pm an cdv ct)
theorem fun_mk {x qual : Str} {st : Stmt} {f : Addr} {oc : Value} {od an : Option Addr} {osl : Array (Option Value)} {kV doc pm cdv ct : Value} (l : K.lookup f = some ⟨oc, od, .func (PySem.W.fnOf x qual (defArgs st) (defBody st) (defScope st) .none kV doc pm an cdv ct), osl⟩)
    (c : PySem.W.codeIn K cdv qual = true) (k : PySem.W.keepIn K (.ref f) = true) : Fun K x qual st f (PySem.W.fnOf x qual (defArgs st) (defBody st) (defScope st) .none kV doc pm an cdv ct) := ⟨⟨oc, od, kV, doc, pm, an, cdv, ct, osl, rfl, l, c⟩, k⟩
end
theorem hu_of {A : Around} {k : Nat} (hr : Room k A) : A.units + 1 < cLine := Nat.lt_of_le_of_lt (Nat.add_le_add_left (by decide : 1 ≤ 64) _) hr.units
theorem small1000 {n : Nat} (h : n ≤ 1000) : n < sizeLine := Nat.lt_of_le_of_lt h (by decide)
section
variable {X : Cx}
theorem pv (i : Nat) {x : Str} {pos : Pos} (hN : X.N[i]? = some x := by rfl) (hv : Vis X.env.scope x := by first | exact Or.inl rfl | exact Or.inr (Or.inl rfl) | exact Or.inr (Or.inr rfl)) (hd : (x == ("__debug__" : Str)) = false := by decide)
    (hcd : (x == ("__classdict__" : Str)) = false := by decide) : PE X (.Name x pos) (tVar i) := pe_var hN hv hd hcd
end
theorem iteF {A B : Prop} (h : B) : if false = true then A else B := by
  rw [if_neg Bool.false_ne_true]
  exact h
theorem iteT {A B : Prop} (h : A) : if true = true then A else B := by
  rw [if_pos rfl]
  exact h
theorem ite2 {c A B : Prop} [Decidable c] (h1 : c → A) (h2 : ¬ c → B) : if c then A else B := by
  by_cases h : c
  · rw [if_pos h]
    exact h1 h
  · rw [if_neg h]
    exact h2 h
def Same (H H' : Hp) : Prop := ∀ b o, H b = some o → H' b = some o
theorem Same.refl (H : Hp) : Same H H := fun _ _ h => h
theorem Same.trans {H H1 H2 : Hp} (a : Same H H1) (b : Same H1 H2) : Same H H2 := fun c o h => b c o (a c o h)
theorem Same.free {H H' : Hp} (e : Same H H') {l : Addr} (h : H' l = Option.none) : H l = Option.none := by
  cases q : H l with
  | none => rfl
  | some o =>
    rw [e l o q] at h
    cases h
theorem Same.seq {K : PySem.W.Frag} {H H' : Hp} {a : Addr} {xs : List V} (e : Same H H') (h : SqL K H a xs) : SqL K H' a xs := by
  rcases h with (h | ⟨o, h⟩) | h
  · exact .inl (.inl (e _ _ h))
  · exact .inl (.inr ⟨o, e _ _ h⟩)
  · exact .inr h
end L2
namespace L2
open PySem PySem.Spec PyProof.Rows
abbrev NoX : Value → Shared → Prop := fun _ _ => False
theorem wpX {α : Type} {M : Model} {A : Around} {t : Sem α} {Q : α → Shared → Prop} {E : Value → Shared → Prop} {s : Shared} (h : wpAny M A t Q NoX s) : wpAny M A t Q E s :=
  wpAny_mono h (fun _ _ q => q) fun _ _ f => f.elim
def testAll (ifs : List Expr) (env : Env) : Sem Bool :=
  forIn ifs true fun c r => if r = true then do let ok ← isTrue c env (eval c env); pure (ForInStep.yield ok) else pure (ForInStep.yield r)
theorem comp_loop_any {prog : Program} {w : World} {A : Around} {R : Result → Shared → Prop} {s : Shared} {elt tg iter : Expr} {ifs : List Expr} {scope : Scope} {pos : Pos} {it acc : Value} {env : Env} (Iv : Nat → Shared → Prop)
    (turn : ∀ n s, Iv n s → wpAny (model prog w) A (pyNext it) (fun r s1 => match r with
      | none => R (.ok .next) s1
      | some v => wpAny (model prog w) A (letOwnedTupleGo tg it v) (fun _ s2 => wpAny (model prog w) A (assign tg env v) (fun _ s3 => wpAny (model prog w) A (testAll ifs env) (fun ok s4 =>
            if ok = true then wpAny (model prog w) A (eval elt env) (fun x s5 => wpAny (model prog w) A (call (.builtin "list.append") [acc, x]) (fun _ s6 => ∃ m, m < n ∧ Iv m s6) NoX s5) NoX s4
            else ∃ m, m < n ∧ Iv m s4) NoX s3) NoX s2) NoX s1) NoX s)
    (n : Nat) (h : Iv n s) : codeAny (model prog w) A (.compLoop (.ListComp elt [⟨tg, iter, ifs, 0⟩] scope pos) 0 it acc env) R s := by
  refine codeAny_loop rfl Iv (fun n s hI => ?_) n h
  show wpAny (model prog w) A ((compTurn (.ListComp elt [⟨tg, iter, ifs, 0⟩] scope pos) 0 it acc env).onRaise (fun x => do noteFrame x env; theTreesLotGoes x)) _ _ s
  refine wpAny_noted (wpX ?_)
  rw [compTurn_list]
  refine wpAny_bind (wpAny_standAt (wpAny_bind (thn (turn n s hI) fun r s1 h1 => ?_)))
  cases r with
  | none => exact wpAny_pure h1
  | some v =>
    refine wpAny_bind (thn h1 fun _ s2 h2 => wpAny_bind (thn h2 fun _ s3 h3 => wpAny_bind (thn h3 fun ok s4 h4 => ?_)))
    cases ok with
    | false => exact wpAny_pure ⟨rfl, h4⟩
    | true => exact wpAny_bind (wpAny_bind (thn h4 fun x s5 h5 => wpAny_bind (thn h5 fun _ s6 h6 => wpAny_pure (wpAny_pure ⟨rfl, h6⟩))))
def stepCap (env : Env) (y : Str × NameKind) (cs : List (Str × Addr)) : List (Str × Addr) := if (y.2 == NameKind.free) = true then (y.1, (env.cells.lookup y.1).getD 0) :: cs else cs
def capOf (env : Env) (scope : Scope) : List (Str × Addr) := scope.names.foldl (fun c y => stepCap env y c) []
theorem forIn_steps {α β : Type} {f : α → β → Sem (ForInStep β)} {g : β → α → β} : ∀ (l : List α) (c : β), (∀ x ∈ l, ∀ c, f x c = pure (.yield (g c x))) → forIn l c f = pure (l.foldl g c)
  | [], c, _ => rfl
  | x :: l, c, h => by
    rw [List.forIn_cons, h x List.mem_cons_self, pure_bind]
    exact forIn_steps l (g c x) fun y hy => h y (List.mem_cons_of_mem _ hy)
theorem closure_is {env : Env} {scope : Scope} (h : ∀ y ∈ scope.names, y.2 = .free → ∃ c, env.cells.lookup y.1 = some c) : closureFor scope env = pure (capOf env scope) := by
  simp only [closureFor]
  rw [forIn_steps (g := fun c y => stepCap env y c) scope.names [] (fun y hy c => ?_)]
  · rfl
  · obtain ⟨n, k⟩ := y
    by_cases hk : k = .free
    · subst hk
      obtain ⟨a, ha⟩ := h _ hy rfl
      have ha' : env.cells.lookup n = some a := ha
      simp [stepCap, cellOf, ha']
    · have hb : (k == NameKind.free) = false := by simpa using hk
      simp only [stepCap, hb, Bool.false_eq_true, if_false]
theorem fold_cap_sub {env : Env} : ∀ (ns : List (Str × NameKind)) (cs : List (Str × Addr)), (∀ y ∈ ns, y.2 = .free → ∃ c, env.cells.lookup y.1 = some c) → (∀ x c, cs.lookup x = some c → env.cells.lookup x = some c) →
    ∀ x c, (ns.foldl (fun c y => stepCap env y c) cs).lookup x = some c → env.cells.lookup x = some c
  | [], _, _, h => h
  | y :: ns, cs, hf, h => by
    refine fold_cap_sub ns (stepCap env y cs) (fun z hz => hf z (List.mem_cons_of_mem _ hz)) fun x c e => ?_
    unfold stepCap at e
    split at e
    · rename_i hk
      have hk' : y.2 = .free := by simpa using hk
      obtain ⟨a, ha⟩ := hf y List.mem_cons_self hk'
      rw [List.lookup_cons] at e
      split at e
      · rename_i hx
        have hx' : x = y.1 := by simpa using hx
        rw [ha] at e
        rw [hx', ha]
        exact e
      · exact h x c e
    · exact h x c e
theorem fold_cap_has {env : Env} (x : Str) : ∀ (ns : List (Str × NameKind)) (cs : List (Str × Addr)), ((x, NameKind.free) ∈ ns ∨ ∃ c, cs.lookup x = some c) → ∃ c, (ns.foldl (fun c y => stepCap env y c) cs).lookup x = some c
  | [], _, h => by
    rcases h with h | h
    · exact absurd h (by simp)
    · exact h
  | y :: ns, cs, h => by
    refine fold_cap_has x ns (stepCap env y cs) ?_
    rcases h with h | ⟨c, h⟩
    · rcases List.mem_cons.mp h with e | h
      · subst e
        exact .inr ⟨(List.lookup x env.cells).getD 0, by simp [stepCap]⟩
      · exact .inl h
    · refine .inr ?_
      unfold stepCap
      split
      · rw [List.lookup_cons]
        split
        · exact ⟨_, rfl⟩
        · exact ⟨c, h⟩
      · exact ⟨c, h⟩
def relK (env : Env) (n : Str) (k : NameKind) : NameKind := if (k == NameKind.free && env.scope.kind == .function && env.kindOf n == some .cell) = true then .cell else k
def relP (env : Env) (y : Str × NameKind) : Str × NameKind := if (y.2 == NameKind.free && env.scope.kind == .function && env.kindOf y.1 == some .cell) = true then (y.1, NameKind.cell) else (y.1, y.2)
theorem relP_eq (env : Env) (y : Str × NameKind) : relP env y = (y.1, relK env y.1 y.2) := by
  unfold relP relK
  split <;> rfl
theorem lookup_rel {env : Env} (x : Str) : ∀ ns : List (Str × NameKind), (ns.map (relP env)).lookup x = (ns.lookup x).map (relK env x)
  | [] => rfl
  | (n, k) :: r => by
    have ih := lookup_rel (env := env) x r
    rw [List.map_cons, relP_eq, List.lookup_cons, List.lookup_cons]
    cases hx : x == n with
    | true =>
      have e : x = n := by simpa using hx
      subst e
      rfl
    | false => exact ih
theorem relabel_lookup {env : Env} {scope : Scope} (x : Str) : (relabel scope env).names.lookup x = (scope.names.lookup x).map (relK env x) := lookup_rel x scope.names
def capOne (N : List Str) (scope : Scope) (p : Option Nat × Str) : Bool := match p.1 with
  | none => true
  | some j => decide (N[j]? = some p.2) && decide (scope.names.lookup p.2 = some .free)
structure CompOk (N : List Str) (sc : Scope) (N' : List Str) (ix : List (Option Nat)) (scope : Scope) : Prop where
  kind : scope.kind = .function
  nocell : ∀ y ∈ scope.names, y.2 ≠ .cell
  locs : ∀ y ∈ scope.names, y.2 = .local → scope.names.lookup y.1 = some .local
  frees : ∀ y ∈ scope.names, y.2 = .free → (sc.names.lookup y.1 = some .cell ∨ sc.names.lookup y.1 = some .free)
  nd : N'.Nodup
  len : ix.length = N'.length
  cap : (ix.zip N').all (capOne N scope) = true
def ixSt (ix : List (Option Nat)) (σ : St) : St := ix.map fun o => o.bind fun i => (σ[i]?).join
def cxComp (X : Cx) (N' : List Str) (scope : Scope) (C : Addr) (fp : List Addr) (s₀ : Shared) (H₀ : Hp) : Cx where
  prog := X.prog
  w := X.w
  K := X.K
  mg := X.mg
  base := X.base
  A := X.A
  N := N'
  s₀ := s₀
  H₀ := H₀
  env := compEnvC scope (capOf X.env scope) C X.env
  outer := X.stack
  stack := X.stack
  ex := fp
  fn := fun _ => false
  calm := X.calm
  pn := []
  xe := NoX
section
variable {X : Cx} {N' : List Str} {ix : List (Option Nat)} {scope : Scope} {pins : List (Addr × Obj)} {σ : St} {H : Hp} {s : Shared} {fp : List Addr}
theorem CompOk.has (S : CompOk X.N X.env.scope N' ix scope) (ok : X.Ok) : ∀ y ∈ scope.names, y.2 = .free → ∃ c, X.env.cells.lookup y.1 = some c := fun y hy hk => ok.has y.1 (S.frees y hy hk)
theorem CompOk.sub (S : CompOk X.N X.env.scope N' ix scope) (ok : X.Ok) : ∀ x c, (capOf X.env scope).lookup x = some c → X.env.cells.lookup x = some c :=
  fold_cap_sub scope.names [] (S.has ok) fun x c e => by simp at e
theorem CompOk.frK (S : CompOk X.N X.env.scope N' ix scope) {x : Str} (h : (relabel scope X.env).names.lookup x = some .cell ∨ (relabel scope X.env).names.lookup x = some .free) : scope.names.lookup x = some .free := by
  rw [relabel_lookup] at h
  cases e : scope.names.lookup x with
  | none => rw [e] at h; simp at h
  | some k =>
    rw [e] at h
    cases k with
    | free => rfl
    | cell => exact absurd rfl (S.nocell _ (PySem.mem_of_lookup e))
    | «local» => simp [relK] at h
    | globalExplicit => simp [relK] at h
    | globalImplicit => simp [relK] at h
theorem comp_enter {h1 : Heap} {m : Str → Option Value} {tk : Nat} (S : CompOk X.N X.env.scope N' ix scope) (I : Inv X pins σ H s) (hf : ∀ b ∈ fp, FpOk X pins H b) (hlt : ∀ b ∈ fp, b < s.heap.objs.size)
    (ns : h1.Ns s.heap.objs.size m) (kp : ∀ b o, s.heap.get? b = some o → h1.get? b = some o) :
    Inv (cxComp X N' scope s.heap.objs.size fp s H) [] (ixSt ix σ) H { s with heap := h1, toks := tk } := by
  have sub := S.sub I.ok
  have cellS : ∀ x c, (capOf X.env scope).lookup x = some c → c < s.heap.objs.size := fun x c e => by
    obtain ⟨v, q⟩ := I.cell x c (sub x c e)
    exact q.lt
  refine ⟨⟨I.ok.mod, S.kind, I.ok.glob, I.ok.blt, Nat.le_refl _, fun x y c h1 h2 => I.ok.inj x y c (sub x c h1) (sub y c h2), fun x hx => ?_, fun x c z _ => ?_, I.ok.hd, I.ok.frames, .inl rfl, fun b hb => ⟨?_, fun x c e => ?_⟩, I.bs, Nat.le_trans I.ok.bsz I.sz, fun b o e hb => ?_, fun b hb z => ?_, I.stack, I.stkFree⟩,
    rfl, I.bare, Un.kept kp, ⟨m, ns, fun i x v h1 h2 h3 => ?_⟩, fun x c e => ?_, I.hok.fresh (Nat.le_refl _), fun x c e => I.freeC x c (sub x c e), fun p hp => absurd (show p ∈ ([] : List (Addr × Obj)) from hp) (by simp), I.hok.kept kp, ?_⟩
  · exact fold_cap_has x scope.names [] (.inl (PySem.mem_of_lookup (S.frK hx)))
  · exact absurd (show false = true from z) (by simp)
  · exact Nat.ne_of_lt (hlt b hb)
  · exact (hf b hb).2.2.2.2.1 x c (sub x c e)
  · rcases (hf b hb).2.2.2.1 with z | z
    · exact I.ok.noex b o e z
    · exact absurd (Nat.lt_of_lt_of_le (Heap.lt_size e) (Nat.le_trans I.ok.bsz z)) (Nat.lt_irrefl _)
  · rcases List.mem_cons.mp (I.stkSub b z) with e | e
    · exact (hf b hb).2.1 e
    · exact (hf b hb).2.2.1 e
  · have hi : i < ix.length := by
      have := (List.getElem?_eq_some_iff.mp h1).1
      rw [S.len]; exact this
    have e1 : ix[i]? = some ix[i] := List.getElem?_eq_getElem hi
    have h2' : (ixSt ix σ)[i]? = some (some v) := h2
    rw [ixSt, List.getElem?_map, e1] at h2'
    have h2'' : (ix[i].bind fun j => (σ[j]?).join) = some v := Option.some.inj h2'
    cases ej : ix[i] with
    | none => rw [ej] at h2''; cases h2''
    | some j =>
      rw [ej] at h2''
      have h2j : (σ[j]?).join = some v := h2''
      have hz : (ix[i], x) ∈ ix.zip N' := by
        have ez : (ix.zip N')[i]? = some (ix[i], x) := by rw [List.getElem?_zip_eq_some]; exact ⟨e1, h1⟩
        exact List.mem_of_getElem? ez
      have cq := List.all_eq_true.mp S.cap _ hz
      have cq' : (decide (X.N[j]? = some x) && decide (scope.names.lookup x = some .free)) = true := by
        unfold capOne at cq
        simp only [ej] at cq
        exact cq
      rw [Bool.and_eq_true] at cq'
      have c1 := of_decide_eq_true cq'.1
      have c2 := of_decide_eq_true cq'.2
      have kx : X.env.scope.names.lookup x = some .cell ∨ X.env.scope.names.lookup x = some .free := S.frees (x, .free) (PySem.mem_of_lookup c2) rfl
      have hs : σ[j]? = some (some v) := by
        cases q : σ[j]? with
        | none => rw [q] at h2j; cases h2j
        | some o => rw [q] at h2j; have : o = some v := h2j; rw [this]
      obtain ⟨m0, hn0, hl0⟩ := I.loc
      obtain ⟨u, ru, lk⟩ := hl0 j x v c1 hs (kx.elim (fun z => .inr (.inl z)) fun z => .inr (.inr z))
      refine ⟨u, ru, .inr ⟨?_, ?_⟩⟩
      · show (relabel scope X.env).names.lookup x = some .cell ∨ (relabel scope X.env).names.lookup x = some .free
        rw [relabel_lookup, c2]
        simp only [Option.map_some, relK]
        split
        · exact .inl rfl
        · exact .inr rfl
      · rcases lk with ⟨k, _⟩ | ⟨_, c, ec, hc⟩
        · have k' : X.env.scope.names.lookup x = some .local := k
          rw [k'] at kx
          rcases kx with z | z <;> cases z
        · obtain ⟨c', ec'⟩ := fold_cap_has (env := X.env) x scope.names [] (.inl (PySem.mem_of_lookup c2))
          have := sub x c' ec'
          rw [ec] at this; cases this
          exact ⟨c, ec', hc.keeps kp⟩
  · obtain ⟨v, q⟩ := I.cell x c (sub x c e)
    exact ⟨v, q.keeps kp⟩
  · show (ixSt ix σ).length = N'.length
    rw [ixSt, List.length_map, S.len]
def PF (X : Cx) (ifs : List Expr) (t : TT) : Prop := ∀ (pins : List (Addr × Obj)) (s : Shared) (σ : St) (H : Hp) (Q : Bool → Hp → Prop), Inv X pins σ H s → t σ H Q → wpAny (model X.prog X.w) X.A (testAll ifs X.env) (TP X pins σ Q) X.xe s
def tYes : TT := fun _ H Q => Q true H
theorem pf_nil : PF X [] tYes := fun _ _ _ H _ I h => wpAny_tests_nil ⟨H, I, h⟩
theorem pf_one {c : Expr} {t : TT} (hc : PT X c t) : PF X [c] t := fun pins s σ H Q I h => wpAny_tests_one (hc pins s σ H Q I h)
def CompGo (J : It) (g : TG) (tt : TT) (te : TE) (σ0 : St) (H1 : Hp) (Q : VK) (D : Addr) : Prop := ∃ W : Nat → Nat → St → Hp → Prop, (∃ m, W 0 m σ0 (upd H1 D (.lst []))) ∧ ∀ i m σ' H', W i m σ' H' →
  (J.stop i H' ∧ Q (.ref D) H') ∨ (J.go i H' ∧ ∀ x H2, J.yld i H' x H2 → g x σ' H2 fun σ2 H3 => tt σ2 H3 fun b H4 =>
    if b = true then te σ2 H4 fun v H5 => ∃ xs, H5 D = some (.lst xs) ∧ xs.length < sizeLine ∧ ∃ m', m' < m ∧ W (i + 1) m' σ2 (upd H5 D (.lst (xs ++ [v]))) else ∃ m', m' < m ∧ W (i + 1) m' σ2 H4)
def tComp (ix : List (Option Nat)) (wi : TI) (g : TG) (tt : TT) (te : TE) : TE := fun σ H Q => wi σ H fun J H1 => ∀ D, H1 D = none → CompGo J g tt te (ixSt ix σ) H1 Q D
theorem comp_block {elt tg iter : Expr} {ifs : List Expr} {pos : Pos} {g : TG} {tt : TT} {te : TE} {Q : VK} {Z : Value → Addr → Result → Shared → Prop} {it : Addr} {tn : Nat → Heap → Prop} {J : It}
    (S : CompOk X.N X.env.scope N' ix scope) (hc : X.calm = true)
    (hg : ∀ C fp s₀ H₀, PG (cxComp X N' scope C fp s₀ H₀) tg g) (ht : ∀ C fp s₀ H₀, PF (cxComp X N' scope C fp s₀ H₀) ifs tt) (he : ∀ C fp s₀ H₀, PE (cxComp X N' scope C fp s₀ H₀) elt te)
    (I : Inv X pins σ H s) (T : Turn X.prog X.w X.K tg J fp it tn) (st : tn 0 s.heap) (hf : ∀ b ∈ fp, FpOk X pins H b)
    (h : ∀ D, H D = none → ∃ W : Nat → Nat → St → Hp → Prop, (∃ m, W 0 m (ixSt ix σ) (upd H D (.lst []))) ∧ ∀ i m σ' H', W i m σ' H' →
      (J.stop i H' ∧ Q (.ref D) H') ∨ (J.go i H' ∧ ∀ x H2, J.yld i H' x H2 → g x σ' H2 fun σ2 H3 => tt σ2 H3 fun b H4 =>
        if b = true then te σ2 H4 fun v H5 => ∃ xs, H5 D = some (.lst xs) ∧ xs.length < sizeLine ∧ ∃ m', m' < m ∧ W (i + 1) m' σ2 (upd H5 D (.lst (xs ++ [v]))) else ∃ m', m' < m ∧ W (i + 1) m' σ2 H4))
    (hZ : ∀ D C H' s' m, Inv X pins σ H' s' → s'.heap.Ns C m → H' C = none → s.heap.objs.size ≤ C → Q (.ref D) H' → Z (.ref D) C (.ok .next) s') :
    wpAny (model X.prog X.w) X.A (newList []) (fun acc s3 => wpAny (model X.prog X.w) X.A (newFunctionEnv scope X.env.globals (capOf X.env scope) [] X.env.qual none .none (some X.env)) (fun cenv s4 =>
      codeAny (model X.prog X.w) X.A (.compStart (.ListComp elt [⟨tg, iter, ifs, 0⟩] scope pos) 0 (.ref it) acc { cenv with scope := relabel scope X.env }) (Z acc cenv.locals) s4) X.xe s3) X.xe s := by
  refine wpAny_newObj_type (wpAny_newFunctionEnv S.nocell (by intro y hy; simp at hy) (fun h1 ns1 sb1 => ?_) S.kind)
  have I3 : Inv X pins σ (upd H s.heap.objs.size (.lst [])) { s with heap := s.heap.push { cls := .type "list", data := .seq ([] : List Value).toArray }, toks := s.toks } := I.lnew (ys := []) (its := []) .nil (Nat.zero_le _)
  generalize hs3 : ({ s with heap := s.heap.push { cls := .type "list", data := .seq ([] : List Value).toArray } } : Shared) = s3 at ns1 sb1 ⊢
  have I3 : Inv X pins σ (upd H s.heap.objs.size (.lst [])) s3 := by rw [← hs3]; exact I3
  have hsz : s3.heap.objs.size = s.heap.objs.size + 1 := by rw [← hs3]; exact Heap.size_push _ _
  have st3 : tn 0 s3.heap := by
    rw [← hs3]
    exact T.keep _ _ _ st fun b _ o e => Heap.get?_push_of_some _ e
  have blw : ∀ b ∈ fp, b < s.heap.objs.size := fun b hb => by
    obtain ⟨o, e, _⟩ := T.obj _ _ st b hb
    exact Heap.lt_size e
  have hf3 : ∀ b ∈ fp, FpOk X pins (upd H s.heap.objs.size (.lst [])) b := fun b hb => ⟨by rw [upd_ne (Nat.ne_of_lt (blw b hb))]; exact (hf b hb).1, (hf b hb).2⟩
  obtain ⟨W, ⟨m0, w0⟩, turn⟩ := h s.heap.objs.size I.fresh
  have kp : ∀ b o, s3.heap.get? b = some o → h1.get? b = some o := fun b o e => (sb1.2 b (Nat.ne_of_lt (Heap.lt_size e))).trans (Heap.get?_push_of_some _ e)
  have J0 := comp_enter (tk := s3.toks + ([] : List (Str × Value)).length) S I3 hf3 (fun b hb => by rw [hsz]; exact Nat.lt_succ_of_lt (blw b hb)) ns1 kp
  have st4 : tn 0 h1 := T.keep _ _ _ st3 fun b _ o e => kp b o e
  have stat : ∀ {H' : Hp} {pl : List (Addr × Obj)}, (∀ b ∈ fp, H' b = none) → (∀ b ∈ fp, ∀ p ∈ pl, p.1 ≠ b) → ∀ b ∈ fp, FpOk (cxComp X N' scope s3.heap.objs.size fp s3 (upd H s.heap.objs.size (.lst []))) pl H' b := fun hn hp b hb =>
    ⟨hn b hb, (J0.ok.exf b hb).1, J0.ok.exfs b hb, .inl hb, (J0.ok.exf b hb).2, fun p q => hp b hb p q⟩
  have loop : codeAny (model X.prog X.w) X.A (.compLoop (.ListComp elt [⟨tg, iter, ifs, 0⟩] scope pos) 0 (.ref it) (.ref s.heap.objs.size) (cxComp X N' scope s3.heap.objs.size fp s3 (upd H s.heap.objs.size (.lst []))).env) (Z (.ref s.heap.objs.size) s3.heap.objs.size)
      { s3 with heap := h1, toks := s3.toks + ([] : List (Str × Value)).length } := by
    refine comp_loop_any (fun n s' => ∃ i σ' H', Inv (cxComp X N' scope s3.heap.objs.size fp s3 (upd H s.heap.objs.size (.lst []))) [] σ' H' s' ∧ tn i s'.heap ∧ (∀ b ∈ fp, H' b = none) ∧ W i n σ' H') ?_ m0
      ⟨0, _, _, J0, st4, fun b hb => (hf3 b hb).1, w0⟩
    rintro n s5 ⟨i, σ5, H5, I5, st5, fr5, w5⟩
    rcases turn i n σ5 H5 w5 with ⟨stop, q⟩ | ⟨go, step⟩
    · refine thn (T.done (cxComp X N' scope s3.heap.objs.size fp s3 (upd H s.heap.objs.size (.lst []))) rfl rfl rfl hc i [] s5 σ5 H5 NoX I5 (stat (pl := []) fr5 (fun _ _ p hp => absurd hp (by simp))) st5 stop) fun r s6 ⟨hr, I6⟩ => ?_
      subst hr
      have I7 : Inv X pins σ H5 s6 := I3.call' (ch := fp) I6.os I6.base I6.hok I6.bare fun b hb => ⟨(hf3 b hb).2.2.2.1, (hf3 b hb).2.1, (hf3 b hb).2.2.2.2.1, (hf3 b hb).2.2.2.2.2⟩
      obtain ⟨m6, n6, _⟩ := I6.loc
      exact hZ _ _ H5 s6 m6 I7 n6 I6.free (by rw [hsz]; exact Nat.le_succ _) q
    · refine thn (T.item (cxComp X N' scope s3.heap.objs.size fp s3 (upd H s.heap.objs.size (.lst []))) rfl rfl rfl hc i [] s5 σ5 H5 NoX I5 (stat (pl := []) fr5 (fun _ _ p hp => absurd hp (by simp))) st5 go) fun r s6 ⟨u, hr, h6⟩ => ?_
      subst hr
      refine thn h6 fun _ s7 ⟨x, H7, I7, r7, y7, st7, fr7⟩ => ?_
      have I7' := I7.pinned (stat (pl := []) fr7 (fun _ _ p hp => absurd hp (by simp))) (T.obj _ _ st7)
      refine thn (hg _ _ _ _ _ s7 σ5 H7 x u _ I7' r7 (step x H7 y7)) fun _ s8 ⟨σ8, H8, I8, q8⟩ => ?_
      refine thn (ht _ _ _ _ _ s8 σ8 H8 _ I8 q8) fun b s9 ⟨H9, I9, q9⟩ => ?_
      have again : ∀ {σ' : St} {H' : Hp} {s' : Shared} {m' : Nat}, Inv (cxComp X N' scope s3.heap.objs.size fp s3 (upd H s.heap.objs.size (.lst []))) ([] ++ pinsAt fp s7.heap) σ' H' s' → m' < n → W (i + 1) m' σ' H' →
          ∃ m, m < n ∧ ∃ i σ' H', Inv (cxComp X N' scope s3.heap.objs.size fp s3 (upd H s.heap.objs.size (.lst []))) [] σ' H' s' ∧ tn i s'.heap ∧ (∀ b ∈ fp, H' b = none) ∧ W i m σ' H' := fun {σ' H' s' m'} I' hm w' => by
        refine ⟨m', hm, i + 1, σ', H', I'.unpinned, T.keep _ _ _ st7 fun b hb o e => (I'.pin (b, o) (List.mem_append_right _ (List.mem_append_right _ (mem_pinsAt hb e)))).1, fun b hb => ?_, w'⟩
        obtain ⟨o, e, d⟩ := T.obj _ _ st7 b hb
        exact (I'.pin (b, o) (List.mem_append_right _ (List.mem_append_right _ (mem_pinsAt hb e)))).2.1
      cases b with
      | false =>
        obtain ⟨m', hm, w'⟩ := (show ∃ m', m' < n ∧ W (i + 1) m' σ8 H9 from q9)
        exact again I9 hm w'
      | true =>
        refine thn (he _ _ _ _ _ s9 σ8 H9 _ I9 q9) fun v s10 ⟨y, H10, I10, r10, q10⟩ => ?_
        obtain ⟨xs, hx, hl, m', hm, w'⟩ := q10
        refine thn (mt_append _ s10 σ8 H10 (.ref s.heap.objs.size) [y] (.ref s.heap.objs.size) [v] (fun _ H' => W (i + 1) m' σ8 H') I10 rfl (.cons r10 .nil) ⟨_, xs, y, rfl, rfl, hx, hl, w'⟩) fun _ s11 ⟨_, H11, I11, _, q11⟩ => ?_
        exact again I11 hm q11
  exact codeAny_compStart_list loop (T.self _ _ _ _ _ st4 loop)
theorem pe_comp {elt tg iter : Expr} {ifs : List Expr} {pos : Pos} {wi : TI} {g : TG} {tt : TT} {te : TE} (S : CompOk X.N X.env.scope N' ix scope) (hc : X.calm = true) (hi : PI X tg iter wi)
    (hg : ∀ C fp s₀ H₀, PG (cxComp X N' scope C fp s₀ H₀) tg g) (ht : ∀ C fp s₀ H₀, PF (cxComp X N' scope C fp s₀ H₀) ifs tt) (he : ∀ C fp s₀ H₀, PE (cxComp X N' scope C fp s₀ H₀) elt te)
    (hs : ∀ x, foldedSetIterable iter X.env x = pure x := by intro _; rfl) : PE X (.ListComp elt [⟨tg, iter, ifs, 0⟩] scope pos) (tComp ix wi g tt te) := by
  intro pins s σ H Q I h
  rw [eval_ListComp]
  refine wpAny_comprehension_free (use := none) rfl hs (closure_is (S.has I.ok)) S.kind S.locs (thn (hi pins s σ H _ I h) fun v s1 h1 => thn h1 fun itv s2 h2 => ?_)
  obtain ⟨it, fp, tn, J, H2, e, I2, T, st2, f2, q⟩ := h2
  subst e
  refine comp_block (Z := fun acc C => compPost (model X.prog X.w) X.A X.xe none (EP X pins σ Q) acc C) S hc hg ht he I2 T st2 f2 q ?_
  intro D C H' s' m I' hn hC hz qD
  refine ⟨m, hn, fun h' sb => ?_⟩
  have I'' : Inv X pins σ H' { s' with heap := h', toks := s'.toks } := I'.turned (it := C) (fun b o hb e => (sb.2 b hb).trans e) hC (fun z => absurd (Nat.lt_of_lt_of_le I2.lt (by rw [← z]; exact hz)) (Nat.lt_irrefl _))
    (.inr (Nat.le_trans I2.sz hz)) (fun x c e z => by obtain ⟨v, w⟩ := I2.cell x c e; exact absurd (Nat.lt_of_lt_of_le w.lt (by rw [z]; exact hz)) (Nat.lt_irrefl _)) (fun p hp z => absurd (Nat.lt_of_lt_of_le (Heap.lt_size (I2.pin p hp).1) (by rw [z]; exact hz)) (Nat.lt_irrefl _))
  exact ⟨.ref D, H', I'', rfl, qD⟩
theorem ps_setComp {i : Nat} {y : Str} {py spos : Pos} {elt tg iter : Expr} {ifs : List Expr} {pos : Pos} {wi : TI} {g : TG} {tt : TT} {te : TE} (S : CompOk X.N X.env.scope N' ix scope) (hc : X.calm = true) (hi : PI X tg iter wi)
    (hg : ∀ C fp s₀ H₀, PG (cxComp X N' scope C fp s₀ H₀) tg g) (ht : ∀ C fp s₀ H₀, PF (cxComp X N' scope C fp s₀ H₀) ifs tt) (he : ∀ C fp s₀ H₀, PE (cxComp X N' scope C fp s₀ H₀) elt te)
    (hN : X.N.Nodup) (hy : X.N[i]? = some y) (hl : X.env.scope.names.lookup y = some .local) (hsw : swapsWith (.ListComp elt [⟨tg, iter, ifs, 0⟩] scope pos) (some (.Name y py)) spos.line X.env = pure true)
    (hs : ∀ x, foldedSetIterable iter X.env x = pure x := by intro _; rfl) : PS X (.Assign [.Name y py] (.ListComp elt [⟨tg, iter, ifs, 0⟩] scope pos) spos) (tAsg (tComp ix wi g tt te) (gName i)) := by
  intro pins s σ H D I h
  rw [exec_Assign_Name_used _ _ _ _ hsw]
  refine wpAny_bind (wpAny_standAt (wpAny_bind ?_))
  rw [arm_evalThenUse_ListComp]
  refine wpAny_bind (thn (wpAny_comprehension_free (use := some (assign (.Name y py) X.env)) (Q := fun _ s' => SP X pins D .next s') rfl hs (closure_is (S.has I.ok)) S.kind S.locs
    (thn (hi pins s σ H _ I h) fun v s1 h1 => thn h1 fun itv s2 h2 => ?_)) fun _ s' q => wpAny_pure (wpAny_pure q))
  obtain ⟨it, fp, tn, J, H2, e, I2, T, st2, f2, q⟩ := h2
  subst e
  refine comp_block (Q := fun x H1 => gName i x σ H1 D.nx) (Z := fun acc C => compPost (model X.prog X.w) X.A X.xe (some (assign (.Name y py) X.env)) (fun _ s' => SP X pins D .next s') acc C) S hc hg ht he I2 T st2 f2 q ?_
  intro Dl C H' s' m I' hn hC hz qD
  have neL : C ≠ X.env.locals := fun z => absurd (Nat.lt_of_lt_of_le I2.lt (by rw [← z]; exact hz)) (Nat.lt_irrefl _)
  have neC : ∀ x c, X.env.cells.lookup x = some c → c ≠ C := fun x c e z => by obtain ⟨v, w⟩ := I2.cell x c e; exact absurd (Nat.lt_of_lt_of_le w.lt (by rw [z]; exact hz)) (Nat.lt_irrefl _)
  show wpAny (model X.prog X.w) X.A (assign (.Name y py) X.env (.ref Dl)) _ X.xe s'
  refine wpAny_assign_Name (store_ok2 I' hN hy (.inl hl) (show RelV (.ref Dl) (.ref Dl) from rfl) (fun s'' J' ⟨a, sb, ha⟩ => ?_) (.inr hl))
  have na : C ≠ a := by
    rcases ha with z | z
    · rw [z]; exact neL
    · exact Ne.symm (neC y a z)
  refine ⟨m, hn.sameBut sb na, fun h' sb' => ?_⟩
  have I'' : Inv X pins (σ.set i (some (.ref Dl))) H' { s'' with heap := h', toks := s''.toks } := J'.turned (it := C) (fun b o hb e => (sb'.2 b hb).trans e) hC neL (.inr (Nat.le_trans I2.sz hz)) neC
    (fun p hp z => absurd (Nat.lt_of_lt_of_le (Heap.lt_size (I2.pin p hp).1) (by rw [z]; exact hz)) (Nat.lt_irrefl _))
  exact ⟨_, H', I'', qD⟩
end
end L2
namespace L2
open PySem PySem.Spec PyProof.Rows
theorem bt_abs : bootBuiltins "abs" = some (.builtin "abs") := by decide +kernel
theorem bt_len : bootBuiltins "len" = some (.builtin "len") := by decide +kernel
theorem bt_all : bootBuiltins "all" = some (.builtin "all") := by decide +kernel
theorem bt_isinstance : bootBuiltins "isinstance" = some (.builtin "isinstance") := by decide +kernel
theorem bt_int : bootBuiltins "int" = some (.type "int") := by decide +kernel
theorem bt_str : bootBuiltins "str" = some (.type "str") := by decide +kernel
theorem bt_tuple : bootBuiltins "tuple" = some (.type "tuple") := by decide +kernel
theorem bt_list : bootBuiltins "list" = some (.type "list") := by decide +kernel
def Def (P : Program) (w : World) (K : PySem.W.Frag) (mg : Str → Option Value) (base : Heap) (k : Nat) (x : Str) (ps : List Str) (sp : Sp) : Prop :=
  ∃ (f : Addr) (fd : FuncData), FnOk P w K mg base CX0 k f fd ps sp ∧ mg x = some (.ref f) ∧ PySem.W.keepIn K (.ref f) = true ∧ Binds K fd ps []
section
variable {X : Cx}
theorem pe_def {k k' : Nat} {x : Str} {ps : List Str} {sp : Sp} {e : Expr} {es : List Expr} {t : TA} {p pos : Pos} (D : Def X.prog X.w X.K X.mg X.base k x ps sp) (hr : Room k' X.A) (hk : k ≤ k') (hg : Gl X x) (ha : PA X (e :: es) t)
    (hdb : (x == ("__debug__" : Str)) = false := by decide) (he : starEach (e :: es) X.env = (false, eval e X.env) :: starEach es X.env := by rfl) (hpl : (backTo pos (starEach es X.env)).any (·.1) = false := by rfl) :
    PE X (.Call (.Name x p) (e :: es) [] pos) (tCall sp [] E0 t) := by
  obtain ⟨f, fd, F, m, kp, b⟩ := D
  exact pe_call F (hr.mono hk) hg m kp b .nil pass0 ha hdb he hpl
theorem call_isiT : CallR X (.builtin "isinstance") (fun xs H Q => ∃ x n t b, xs = [x, .ty n] ∧ TyOf X.K H x t ∧ PySem.W.kitOne X.K t (.type n) = some b ∧ Q (.bl b) H) := by
  intro pins s σ H xs us Q I r h
  obtain ⟨x, n, t, b, rfl, ty, e, q⟩ := h
  obtain ⟨u, w', rfl, r1, r2⟩ := vals2 r
  cases r2
  exact isinst_ok I r1 ty e fun tk => ⟨.bl b, H, I.tok tk, rfl, q⟩
theorem kit_same {K : PySem.W.Frag} (n : String) : PySem.W.kitOne K (.type n) (.type n) = some true := by simp [PySem.W.kitOne]
def Its (z : Str) : It := ⟨fun i _ => i < z.cps.size, fun i H x H' => H' = H ∧ ∃ c, z.cps[i]? = some c ∧ x = .str ⟨#[c]⟩, fun i _ => z.cps.size ≤ i⟩
def iStr (tl : TE) : TI := fun σ H R => tl σ H fun x H1 => ∃ z, x = .str z ∧ R (Its z) H1
theorem turn_str {P : Program} {w : World} {K : PySem.W.Frag} {tg : Expr} {z : Str} {tk : Tok} {it : Addr} {ty : String} (hty : ty = "str_ascii_iterator" ∨ ty = "str_iterator") :
    Turn P w K tg (Its z) [it] it (fun i h => h.IsStrIter it ty z tk i ∧ i ≤ z.cps.size) where
  mem := by simp
  obj := fun i h st b hb => by
    have e : b = it := by simpa using hb
    subst e
    obtain ⟨⟨o, h1, h2, h3⟩, _⟩ := st
    exact ⟨o, h1, fun v q => by rw [h3] at q; cases q⟩
  keep := fun i h h' st k => by
    obtain ⟨⟨o, h1, h2⟩, h3⟩ := st
    exact ⟨⟨o, k it (by simp) o h1, h2⟩, h3⟩
  item := by
    intro X hP hw hK hc i pins s σ H E I hf st hg
    subst hP hw hK
    obtain ⟨f0, f1, f2, f3, f4, f5⟩ := hf it (by simp)
    have fin : ∀ (v : Value) (h' : Heap) (tk' : Nat), SignAt z i v → h'.IsStrIter it ty z tk (i + 1) → (∀ b o, b ∉ [it] → s.heap.get? b = some o → h'.get? b = some o) →
        ∃ u, some v = some u ∧ wpAny (model X.prog X.w) X.A (letOwnedTupleGo tg (.ref it) u) (fun _ s2 => ∃ x H', Inv X pins σ H' s2 ∧ RelV x u ∧ (Its z).yld i H x H' ∧ (s2.heap.IsStrIter it ty z tk (i + 1) ∧ i + 1 ≤ z.cps.size) ∧ ∀ b ∈ [it], H' b = none) E { s with heap := h', toks := tk' } := by
      intro v h' tk' hv st' kk
      obtain ⟨c, t, hcx, rfl⟩ := hv
      have I1 : Inv X pins σ H { s with heap := h', toks := tk' } := I.turned (fun b o hb e => kk b o (by simpa using hb) e) f0 f1 f3 f4 f5
      obtain ⟨o, h1, h2, h3⟩ := id st'
      refine ⟨_, rfl, go_of (s := { s with heap := h', toks := tk' }) (n := ty) h1 h2 h3 ?_ ⟨.str ⟨#[c]⟩, H, I1, ⟨t, rfl⟩, ⟨rfl, c, hcx, rfl⟩, ⟨st', hg⟩, fun b hb => (hf b hb).1⟩⟩
      rcases hty with rfl | rfl <;> decide
    rcases hty with rfl | rfl
    · exact (Walks.strAscii (I.ok.hd hc) it z tk).item i s _ _ hg st.1 fun v h' tk' hv st' kk => fin v h' tk' hv st' kk
    · exact (Walks.strWide (I.ok.hd hc) it z tk).item i s _ _ hg st.1 fun v h' tk' hv st' kk => fin v h' tk' hv st' kk
  done := by
    intro X hP hw hK hc i pins s σ H E I hf st hg
    subst hP hw hK
    obtain ⟨f0, f1, f2, f3, f4, f5⟩ := hf it (by simp)
    have e : i = z.cps.size := Nat.le_antisymm st.2 hg
    subst e
    rcases hty with rfl | rfl
    · exact (Walks.strAscii (I.ok.hd hc) it z tk).done s _ _ st.1 fun h' tk' kk => ⟨rfl, I.turned (fun b o hb e => kk b o (by simpa using hb) e) f0 f1 f3 f4 f5⟩
    · exact (Walks.strWide (I.ok.hd hc) it z tk).done s _ _ st.1 fun h' tk' kk => ⟨rfl, I.turned (fun b o hb e => kk b o (by simpa using hb) e) f0 f1 f3 f4 f5⟩
  self := fun A i s Q E st h => by
    rcases hty with rfl | rfl
    · exact wpAny_pyIter_striter_ascii st.1 h
    · exact wpAny_pyIter_striter_wide st.1 h
theorem pi_str {tg l : Expr} {tl : TE} (hl : PE X l tl) : PI X tg l (iStr tl) := by
  intro pins s σ H R I h
  refine thn (hl pins s σ H _ I h) fun v s1 ⟨x, H1, I1, r1, q1⟩ => ?_
  obtain ⟨z, rfl, q⟩ := q1
  obtain ⟨t, rfl⟩ := r1
  have fin : ∀ ty : String, ty = "str_ascii_iterator" ∨ ty = "str_iterator" → PIE X pins σ tg R (.ref s1.heap.objs.size) { s1 with heap := s1.heap.push { cls := .type ty, data := .fields #[.str z t, .int 0 0] } } := fun ty hty => by
    refine ⟨s1.heap.objs.size, [s1.heap.objs.size], _, _, H1, rfl, I1.kept (t' := s1.toks) fun b o e => Heap.get?_push_of_some _ e, turn_str (z := z) (tk := t) hty, ⟨⟨_, Heap.get?_push_size _ rfl, rfl, rfl⟩, Nat.zero_le _⟩, fun b hb => ?_, q⟩
    have e : b = s1.heap.objs.size := by simpa using hb
    subst e
    exact I1.fpOk (Nat.le_refl _) (I1.hok.fresh (Nat.le_refl _))
  cases ha : z.cps.all (· < 128)
  · exact wpAny_pyIter_wide ha (fin _ (.inr rfl))
  · exact wpAny_pyIter_ascii ha (fin _ (.inl rfl))
def rSlS : V → Option Int → Option Int → Hp → VK → Prop := fun x lo hi H Q => ∃ z, x = .str z ∧ z.length ≤ sizeLine ∧ Q (.str (PySem.Txt.slice z lo hi)) H
theorem sl_str : SlR X rSlS := by
  intro pins s σ H x v vl vu lo hi sl Q I rx hs pl pu h
  obtain ⟨z, rfl, hz, q⟩ := h
  obtain ⟨t, rfl⟩ := rx
  refine ⟨"str", _, F.slot_str_getitem.lookup, typeIs_str _ _ _, ?_⟩
  cases pl with
  | none =>
    cases pu with
    | none => exact wpAny_getItem_str_slice (l := none) (u := none) (st := none) hs rfl (post_val_or_str ⟨Nat.le_trans (PySem.Txt.slice_le z _ _) hz, fun t' k => ⟨.str _, H, I.tok k, ⟨t', rfl⟩, q⟩⟩)
    | int j uj => exact wpAny_getItem_str_slice (l := none) (u := some (j, uj)) (st := none) hs rfl (post_val_or_str ⟨Nat.le_trans (PySem.Txt.slice_le z _ _) hz, fun t' k => ⟨.str _, H, I.tok k, ⟨t', rfl⟩, q⟩⟩)
  | int i ui =>
    cases pu with
    | none => exact wpAny_getItem_str_slice (l := some (i, ui)) (u := none) (st := none) hs rfl (post_val_or_str ⟨Nat.le_trans (PySem.Txt.slice_le z _ _) hz, fun t' k => ⟨.str _, H, I.tok k, ⟨t', rfl⟩, q⟩⟩)
    | int j uj => exact wpAny_getItem_str_slice (l := some (i, ui)) (u := some (j, uj)) (st := none) hs rfl (post_val_or_str ⟨Nat.le_trans (PySem.Txt.slice_le z _ _) hz, fun t' k => ⟨.str _, H, I.tok k, ⟨t', rfl⟩, q⟩⟩)
theorem sl_any : SlR X (fun x lo hi H Q => rSlL X.K x lo hi H Q ∨ (rSlT X.K x lo hi H Q ∨ rSlS x lo hi H Q)) := sl_list.or (sl_tup.or sl_str)
end
end L2
namespace L2
open PySem PySem.Spec PyProof.Rows
def cW (R : St → Prop) (P : Nat → List V → Hp → Prop) (n : Nat) (D : Addr) : Nat → Nat → St → Hp → Prop := fun i m σ' H => m = n - i ∧ i ≤ n ∧ R σ' ∧ ∃ ys, P i ys H ∧ H D = some (.lst ys)
def cYes (R : St → Prop) (P : Nat → List V → Hp → Prop) (n : Nat) (D : Addr) (σ : St) (i : Nat) : VK := fun v H5 => ∃ xs, H5 D = some (.lst xs) ∧ xs.length < sizeLine ∧ ∃ m', m' < n - i ∧ cW R P n D (i + 1) m' σ (upd H5 D (.lst (xs ++ [v])))
def cNo (R : St → Prop) (P : Nat → List V → Hp → Prop) (n : Nat) (D : Addr) (σ : St) (i : Nat) : Hp → Prop := fun H4 => ∃ m', m' < n - i ∧ cW R P n D (i + 1) m' σ H4
theorem cyes {R : St → Prop} {P : Nat → List V → Hp → Prop} {n : Nat} {D : Addr} {σ : St} {i : Nat} {ys : List V} {v : V} {H : Hp} (hi : i < n) (r : R σ) (h : H D = some (.lst ys)) (hl : ys.length < sizeLine) (p : P (i + 1) (ys ++ [v]) (upd H D (.lst (ys ++ [v])))) : cYes R P n D σ i v H :=
  ⟨ys, h, hl, n - (i + 1), by omega, rfl, hi, r, _, p, upd_same⟩
theorem cno {R : St → Prop} {P : Nat → List V → Hp → Prop} {n : Nat} {D : Addr} {σ : St} {i : Nat} {ys : List V} {H : Hp} (hi : i < n) (r : R σ) (h : H D = some (.lst ys)) (p : P (i + 1) ys H) : cNo R P n D σ i H :=
  ⟨n - (i + 1), by omega, rfl, hi, r, _, p, h⟩
theorem comp_gen {J : It} {g : TG} {tt : TT} {te : TE} {σ0 : St} {H1 : Hp} {Q : VK} {D : Addr} {n : Nat} {xv : Nat → V} {st : Nat → St} (R : St → Prop) (P : Nat → List V → Hp → Prop) (r0 : R σ0) (h0 : P 0 [] (upd H1 D (.lst [])))
    (hj : ∀ i ys H, i < n → P i ys H → H D = some (.lst ys) → J.go i H ∧ ∀ x H2, J.yld i H x H2 → H2 = H ∧ x = xv i) (he : ∀ ys H, P n ys H → H D = some (.lst ys) → J.stop n H)
    (hg : ∀ i ys σ' H (K : St → Hp → Prop), i < n → R σ' → P i ys H → K (st i) H → g (xv i) σ' H K)
    (hs : ∀ i ys H, i < n → P i ys H → H D = some (.lst ys) → tt (st i) H fun b H4 => if b = true then te (st i) H4 (cYes R P n D (st i) i) else cNo R P n D (st i) i H4)
    (hd : ∀ ys H, P n ys H → H D = some (.lst ys) → Q (.ref D) H) :
    CompGo J g tt te σ0 H1 Q D := by
  refine ⟨cW R P n D, ⟨n, by simp [cW, r0]; exact ⟨_, h0, upd_same⟩⟩, ?_⟩
  rintro i m σ' H' ⟨rfl, hi, r, ys, p, hD⟩
  by_cases hlt : i < n
  · obtain ⟨g1, g2⟩ := hj i ys H' hlt p hD
    refine .inr ⟨g1, fun x H2 y => ?_⟩
    obtain ⟨rfl, rfl⟩ := g2 x H2 y
    exact hg i ys σ' H2 _ hlt r p (hs i ys H2 hlt p hD)
  · have e : i = n := by omega
    subst e
    exact .inl ⟨he ys H' p hD, hd ys H' p hD⟩
def Rset (t : Nat) (σ0 : St) : St → Prop := fun σ' => ∀ v, σ'.set t v = σ0.set t v
theorem rset0 {t : Nat} {σ0 : St} : Rset t σ0 σ0 := fun _ => rfl
theorem rset1 {t : Nat} {σ0 : St} {x : Option V} : Rset t σ0 (σ0.set t x) := fun v => by rw [List.set_set]
theorem comp_range {t : Nat} {tt : TT} {te : TE} {σ0 : St} {H1 : Hp} {Q : VK} {D : Addr} {lo : Int} {n : Nat} (P : Nat → List V → Hp → Prop) (h0 : P 0 [] (upd H1 D (.lst [])))
    (hs : ∀ i ys H, i < n → P i ys H → H D = some (.lst ys) → tt (σ0.set t (some (.int (lo + i)))) H fun b H4 => if b = true then te (σ0.set t (some (.int (lo + i)))) H4 (cYes (Rset t σ0) P n D (σ0.set t (some (.int (lo + i)))) i) else cNo (Rset t σ0) P n D (σ0.set t (some (.int (lo + i)))) i H4)
    (hd : ∀ ys H, P n ys H → H D = some (.lst ys) → Q (.ref D) H) :
    CompGo (Itr lo n) (gName t) tt te σ0 H1 Q D :=
  comp_gen (xv := fun i => .int (lo + i)) (st := fun i => σ0.set t (some (.int (lo + i)))) (Rset t σ0) P rset0 h0 (fun i _ H hi _ _ => ⟨hi, fun x H2 y => y⟩) (fun _ _ _ _ => Nat.le_refl n)
    (fun i _ σ' H K _ r _ k => by show K (σ'.set t (some (.int (lo + i)))) H; rw [r]; exact k) hs hd
theorem comp_list {K : PySem.W.Frag} {a : Addr} {xs : List V} {t : Nat} {tt : TT} {te : TE} {σ0 : St} {H1 : Hp} {Q : VK} {D : Addr} (P : Nat → List V → Hp → Prop) (h0 : P 0 [] (upd H1 D (.lst []))) (hl : ∀ i ys H, P i ys H → H D = some (.lst ys) → SqL K H a xs)
    (hs : ∀ i ys H x, xs[i]? = some x → P i ys H → H D = some (.lst ys) → tt (σ0.set t (some x)) H fun b H4 => if b = true then te (σ0.set t (some x)) H4 (cYes (Rset t σ0) P xs.length D (σ0.set t (some x)) i) else cNo (Rset t σ0) P xs.length D (σ0.set t (some x)) i H4)
    (hd : ∀ ys H, P xs.length ys H → H D = some (.lst ys) → Q (.ref D) H) :
    CompGo (Itl K a) (gName t) tt te σ0 H1 Q D := by
  have get : ∀ i, i < xs.length → xs[i]? = some (xs.getD i .non) := fun i hi => by simp [List.getD, hi]
  refine comp_gen (xv := fun i => xs.getD i .non) (st := fun i => σ0.set t (some (xs.getD i .non))) (Rset t σ0) P rset0 h0 (fun i ys H hi p hD => ⟨⟨xs, _, hl i ys H p hD, get i hi⟩, fun x H2 y => ⟨y.1, ?_⟩⟩) (fun ys H p hD => ⟨xs, hl _ ys H p hD, Nat.le_refl _⟩)
    (fun i _ σ' H K _ r _ k => by show K (σ'.set t (some (xs.getD i .non))) H; rw [r]; exact k) (fun i ys H hi p hD => hs i ys H _ (get i hi) p hD) hd
  have e := y.2 xs (hl i ys H p hD)
  rw [get i hi] at e
  exact (Option.some.inj e).symm
theorem comp_tup {K : PySem.W.Frag} {a : Addr} {xs : List V} {t : Nat} {tt : TT} {te : TE} {σ0 : St} {H1 : Hp} {Q : VK} {D : Addr} (P : Nat → List V → Hp → Prop) (h0 : P 0 [] (upd H1 D (.lst []))) (hl : ∀ i ys H, P i ys H → H D = some (.lst ys) → SqT K H a xs)
    (hs : ∀ i ys H x, xs[i]? = some x → P i ys H → H D = some (.lst ys) → tt (σ0.set t (some x)) H fun b H4 => if b = true then te (σ0.set t (some x)) H4 (cYes (Rset t σ0) P xs.length D (σ0.set t (some x)) i) else cNo (Rset t σ0) P xs.length D (σ0.set t (some x)) i H4)
    (hd : ∀ ys H, P xs.length ys H → H D = some (.lst ys) → Q (.ref D) H) :
    CompGo (Itt K a) (gName t) tt te σ0 H1 Q D := by
  have get : ∀ i, i < xs.length → xs[i]? = some (xs.getD i .non) := fun i hi => by simp [List.getD, hi]
  refine comp_gen (xv := fun i => xs.getD i .non) (st := fun i => σ0.set t (some (xs.getD i .non))) (Rset t σ0) P rset0 h0 (fun i ys H hi p hD => ⟨⟨xs, _, hl i ys H p hD, get i hi⟩, fun x H2 y => ⟨y.1, ?_⟩⟩) (fun ys H p hD => ⟨xs, hl _ ys H p hD, Nat.le_refl _⟩)
    (fun i _ σ' H K _ r _ k => by show K (σ'.set t (some (xs.getD i .non))) H; rw [r]; exact k) (fun i ys H hi p hD => hs i ys H _ (get i hi) p hD) hd
  have e := y.2 xs (hl i ys H p hD)
  rw [get i hi] at e
  exact (Option.some.inj e).symm
theorem comp_str {z : Str} {t : Nat} {tt : TT} {te : TE} {σ0 : St} {H1 : Hp} {Q : VK} {D : Addr} (P : Nat → List V → Hp → Prop) (h0 : P 0 [] (upd H1 D (.lst [])))
    (hs : ∀ i ys H c, z.cps[i]? = some c → P i ys H → H D = some (.lst ys) → tt (σ0.set t (some (.str ⟨#[c]⟩))) H fun b H4 => if b = true then te (σ0.set t (some (.str ⟨#[c]⟩))) H4 (cYes (Rset t σ0) P z.cps.size D (σ0.set t (some (.str ⟨#[c]⟩))) i) else cNo (Rset t σ0) P z.cps.size D (σ0.set t (some (.str ⟨#[c]⟩))) i H4)
    (hd : ∀ ys H, P z.cps.size ys H → H D = some (.lst ys) → Q (.ref D) H) :
    CompGo (Its z) (gName t) tt te σ0 H1 Q D := by
  have get : ∀ i, i < z.cps.size → z.cps[i]? = some (z.cps.getD i 0) := fun i hi => by simp [Array.getD, hi]
  refine comp_gen (xv := fun i => .str ⟨#[z.cps.getD i 0]⟩) (st := fun i => σ0.set t (some (.str ⟨#[z.cps.getD i 0]⟩))) (Rset t σ0) P rset0 h0 (fun i ys H hi p hD => ⟨hi, fun x H2 y => ⟨y.1, ?_⟩⟩) (fun ys H p hD => Nat.le_refl _)
    (fun i _ σ' H K _ r _ k => by show K (σ'.set t (some (.str ⟨#[z.cps.getD i 0]⟩))) H; rw [r]; exact k) (fun i ys H hi p hD => hs i ys H _ (get i hi) p hD) hd
  obtain ⟨c, e, ex⟩ := y.2
  rw [get i hi] at e
  rw [ex, ← Option.some.inj e]
end L2
namespace L2
open PySem PySem.Spec PyProof.Rows
theorem yes {σ : St} {H : Hp} {A B : Hp → Prop} (h : A H) : tYes σ H fun b H4 => if b = true then A H4 else B H4 := by
  show if true = true then A H else B H
  rw [if_pos rfl]
  exact h
end L2
namespace L2
open PySem PySem.Spec PyProof.Rows
section
variable {X : Cx} (K : PySem.W.Frag)
theorem kix_seq (hK : X.K = K := by rfl) : IxR X (rIx K) := hK ▸ ix_seq
theorem kop_in_seq (hK : X.K = K := by rfl) : OpR X (compareOp .In) (rIn K false) := hK ▸ op_in_seq
theorem ksl_any (hK : X.K = K := by rfl) : SlR X (fun x lo hi H Q => rSlL K x lo hi H Q ∨ (rSlT K x lo hi H Q ∨ rSlS x lo hi H Q)) := hK ▸ sl_any
theorem kcall_len (hK : X.K = K := by rfl) : CallR X (.builtin "len") (fun xs H Q => ∃ x n, xs = [x] ∧ LenV K x H n ∧ Q (.int n) H) := hK ▸ call_len
theorem kcall_list_of (hK : X.K = K := by rfl) : CallR X (.type "list") (fun xs H Q => ∃ p ys, xs = [.ref p] ∧ (SqL K H p ys ∨ SqT K H p ys) ∧ ∀ l, H l = none → Q (.ref l) (upd H l (.lst ys))) := hK ▸ call_list_of
theorem kcall_tuple_of (hK : X.K = K := by rfl) : CallR X (.type "tuple") (fun xs H Q => ∃ p ys, xs = [.ref p] ∧ ((SqL K H p ys ∧ ∀ l, H l = none → Q (.ref l) (upd H l (.tup ys))) ∨ (SqT K H p ys ∧ Q (.ref p) H))) := hK ▸ call_tuple_of
theorem kcall_isiT (hK : X.K = K := by rfl) : CallR X (.builtin "isinstance") (fun xs H Q => ∃ x n t b, xs = [x, .ty n] ∧ TyOf K H x t ∧ PySem.W.kitOne K t (.type n) = some b ∧ Q (.bl b) H) := hK ▸ call_isiT
theorem kpi_list {tg l : Expr} {tl : TE} (hl : PE X l tl) (hK : X.K = K := by rfl) : PI X tg l (iList K tl) := hK ▸ pi_list hl
theorem kpi_tup {tg l : Expr} {tl : TE} (hl : PE X l tl) (hK : X.K = K := by rfl) : PI X tg l (iTup K tl) := hK ▸ pi_tup hl
theorem kpe_bm {o e : Expr} {es : List Expr} {to : TE} {t : TA} {name : Str} {apos cpos : Pos} {T id : String} {r : V → List V → Hp → VK → Prop} (pa : PlainAttrs T) (slot : Slot T name id) (hty : typeOf (.builtin id) = pure (.type "method_descriptor")) (hm : MtR X id r) (ho : PE X o to) (ha : PA X (e :: es) t)
    (hbase : attributeBase o name X.env (eval o X.env) = eval o X.env := by rfl)
    (hfew : ((backTo cpos (starEach (e :: es) X.env)).all (fun x => !x.1) && (backToKw cpos (keywordEach [] X.env)).all (fun x => x.1.isSome)
      && decide ((e :: es).length + ([] : List Keyword).length + (if ([] : List Keyword).isEmpty then 0 else 1) < 30)) = true := by rfl)
    (hline : (apos.endLine == cpos.line) = true := by rfl) (hs : starEach (e :: es) X.env = (false, eval e X.env) :: starEach es X.env := by rfl) (hplain : (backTo cpos (starEach es X.env)).any (·.1) = false := by rfl) (hK : X.K = K := by rfl) :
    PE X (.Call (.Attribute o name apos) (e :: es) [] cpos) (tBM K T r to t) := hK ▸ pe_bm pa slot hty hm ho ha hbase hfew hline hs hplain
theorem kpe_bm0 {o : Expr} {to : TE} {name : Str} {apos cpos : Pos} {T id : String} {r : V → List V → Hp → VK → Prop} (pa : PlainAttrs T) (slot : Slot T name id) (hty : typeOf (.builtin id) = pure (.type "method_descriptor")) (hm : MtR X id r) (ho : PE X o to)
    (hbase : attributeBase o name X.env (eval o X.env) = eval o X.env := by rfl) (hline : (apos.endLine == cpos.line) = true := by rfl) (hK : X.K = K := by rfl) : PE X (.Call (.Attribute o name apos) [] [] cpos) (tBM0 K T r to) := hK ▸ pe_bm0 pa slot hty hm ho hbase hline
theorem kpg_tup {es : List Expr} {k : Nat} {pos : Pos} {t : TGs} {n : Nat} (hc : X.calm = true) (h : PGs X es t) (hn : (assignEach es X.env).length = n := by rfl) (hst : (assignEach es X.env).findIdx? (·.1) = none := by rfl) (hK : X.K = K := by rfl) : PG X (.Tuple es k pos) (gTup K n t) := hK ▸ pg_tup hc h hn hst
end
end L2
namespace L2
open PySem PySem.Spec PyProof.Rows
section
variable {X : Cx}
end
section
variable {X : Cx} {pins : List (Addr × Obj)} {σ : St} {H H' : Hp} {s s' : Shared} {h2 : Heap}
end
section
variable {P : Program} {w : World} {K : PySem.W.Frag} {mg : Str → Option Value} {base : Heap} {N : List Str} {qual : Str} {scope : Scope} {f : Addr} {cd : Value} {A : Around} {outer : List Env} {s : Shared} {H : Hp} {E : XK}
end
section
variable {X : Cx}
end
end L2
namespace L2
open PySem PySem.Spec PyProof.Rows
section
variable {X : Cx}
end
section
variable {X : Cx} {pins : List (Addr × Obj)} {σ : St} {H : Hp} {s : Shared}
theorem Inv.adopt {e : Addr} {u : HO} (I : Inv X pins σ H s) (hn : H e = none) (h0 : X.s₀.heap.get? e = none) (nL : e ≠ X.env.locals) (nC : ∀ x c, X.env.cells.lookup x = some c → c ≠ e) (nP : ∀ p ∈ X.pn ++ pins, p.1 ≠ e)
    (ok : ObjOk X.prog X.w (upd H e u) s.heap e u) : Inv X pins σ (upd H e u) s := by
  have ne : ∀ {b : Addr} {v : HO}, H b = some v → b ≠ e := fun q => ne_of_none q hn
  refine ⟨I.ok, I.os, I.bare, ⟨I.base.keep, I.base.slot, fun b o q n hx => ?_, I.base.there, fun b xs q => ?_, fun b o v q => ?_, fun b ps q => ?_⟩, I.loc, I.cell, ?_, fun x c q => ?_, fun p hp => ?_, fun a o q => ?_, I.len⟩
  · have z : b ≠ e := fun z => by rw [z, h0] at q; cases q
    rw [upd_ne z]
    exact I.base.free b o q n hx
  · have q1 := I.base.tups b xs q
    rw [upd_ne (ne q1)]
    exact q1
  · have q1 := I.base.frzs b o v q
    rw [upd_ne (ne q1)]
    exact q1
  · obtain ⟨more, q1⟩ := I.base.tbls b ps q
    exact ⟨more, by rw [upd_ne (ne q1)]; exact q1⟩
  · rw [upd_ne (Ne.symm nL)]
    exact I.free
  · rw [upd_ne (nC x c q)]
    exact I.freeC x c q
  · obtain ⟨p1, p2, p3⟩ := I.pin p hp
    exact ⟨p1, by rw [upd_ne (nP p hp)]; exact p2, p3⟩
  · by_cases z : a = e
    · subst z
      rw [upd_same] at q
      cases q
      exact ok
    · rw [upd_ne z] at q
      exact (I.hok a o q).stay (fun _ _ _ r => r) (fun c r => by rw [upd_ne (ne r)]; exact r) fun c xs r => by rw [upd_ne (ne r)]; exact r
end
section
variable {X : Cx} {pins : List (Addr × Obj)} {R : Value → St → Hp → Prop} {e : Value} {s' : Shared}
end
section
variable {X : Cx} {pins : List (Addr × Obj)} {σ : St} {H : Hp} {s : Shared} {ea : Addr}
end
end L2
namespace L2
open PySem PySem.Spec PyProof.Rows
section
end
section
variable {P : Program} {w : World} {K : PySem.W.Frag} {mg : Str → Option Value} {base : Heap}
end
end L2
namespace L2
open PySem PySem.Spec PyProof.Rows
section
variable {prog : Program} {w : World} {A : Around} {E : Value → Shared → Prop} {s : Shared} {K : PySem.W.Frag} {e C : Addr} {h : Heap}
end
end L2
namespace L2
open PySem PySem.Spec PyProof.Rows
def eqVs (xs ys : List V) : Bool := (xs.zip ys).all (fun p => eqV p.1 p.2) && xs.length == ys.length
theorem eqAt_get {A : Around} {s : Shared} {xs ys : List V} {us vs : List Value} (rx : Vals xs us) (ry : Vals ys vs) (fx : xs.all flatV = true) (fy : ys.all flatV = true) (j : Nat) (h1 : j < us.toArray.size) (h2 : j < vs.toArray.size) :
    SeqAt.EqAt A s us.toArray[j] vs.toArray[j] (eqV (xs.getD j .non) (ys.getD j .non)) := by
  have l1 := rx.length
  have l2 := ry.length
  have g1 : j < us.length := by simpa using h1
  have g2 : j < vs.length := by simpa using h2
  have k1 : xs[j]? = some (xs.getD j .non) := by simp [List.getD, show j < xs.length by omega]
  have k2 : ys[j]? = some (ys.getD j .non) := by simp [List.getD, show j < ys.length by omega]
  obtain ⟨u, e1, r1⟩ := rx.get k1
  obtain ⟨v, e2, r2⟩ := ry.get k2
  have f1 := List.all_eq_true.mp fx _ (List.mem_of_getElem? k1)
  have f2 := List.all_eq_true.mp fy _ (List.mem_of_getElem? k2)
  have w1 : us.toArray[j] = u := by
    rw [List.getElem?_eq_getElem g1] at e1
    simpa using Option.some.inj e1
  have w2 : vs.toArray[j] = v := by
    rw [List.getElem?_eq_getElem g2] at e2
    simpa using Option.some.inj e2
  rw [w1, w2]
  exact eqAt_V r1 r2 f1 f2
theorem range_all : ∀ (xs ys : List V), xs.length = ys.length → ((List.range xs.length).all fun j => eqV (xs.getD j .non) (ys.getD j .non)) = (xs.zip ys).all fun p => eqV p.1 p.2
  | [], [], _ => rfl
  | [], _ :: _, h => by cases h
  | _ :: _, [], h => by cases h
  | x :: xs, y :: ys, h => by
    have ih := range_all xs ys (by simpa using h)
    rw [List.length_cons, List.range_succ_eq_map, List.all_cons, List.all_map, List.zip_cons_cons, List.all_cons, ← ih]
    rfl
section
variable {X : Cx}
theorem bools_at {bs : List Bool} : ∀ {us : List Value}, Vals (bs.map V.bl) us → us = bs.map Value.bool := by
  induction bs with
  | nil => intro us r; rw [List.map_nil] at r; cases r; rfl
  | cons b bs ih =>
    intro us r
    rw [List.map_cons] at r
    cases r with
    | cons r1 r2 => rw [List.map_cons, ← ih r2]; cases r1; rfl
theorem range_bools : ∀ bs : List Bool, ((List.range bs.length).all fun i => bs.getD i true) = bs.all id
  | [] => rfl
  | b :: bs => by
    have ih := range_bools bs
    rw [List.length_cons, List.range_succ_eq_map, List.all_cons, List.all_map, List.all_cons, ← ih]
    rfl
theorem call_all (hc : X.calm = true) : CallR X (.builtin "all") (fun xs H Q => ∃ (p : Addr) (bs : List Bool), xs = [.ref p] ∧ SqL X.K H p (bs.map V.bl) ∧ Q (.bl (bs.all id)) H) := by
  intro pins s σ H xs us Q I r h
  obtain ⟨p, bs, rfl, hq, q⟩ := h
  obtain ⟨u, rfl, ru⟩ := vals1 r
  cases ru
  obtain ⟨its, rv, pl, _⟩ := I.list hq
  have hl : s.heap.IsList p its.toArray := pl.isList
  have hlt : p < s.heap.objs.size := by obtain ⟨_, e, _⟩ := hl; exact Heap.lt_size e
  refine call_all_walk (wpAny_pyIter_list hl ⟨_, _, _, _, _, _, fun i => bs.getD i true, rfl, Walks.list (A := X.A.in1) (I.ok.hd hc) _ p (Nat.ne_of_lt hlt) its.toArray, ⟨⟨_, Heap.get?_push_size _ rfl, rfl, rfl⟩, hl.push _⟩, fun i v s' Q' E' hv hQ => ?_, fun h' tk hk => ⟨.bl _, H, I.kept (old_kept hk), rfl, ?_⟩⟩)
  · have hv' : its[i]? = some v := by simpa using hv
    rw [bools_at rv, List.getElem?_map] at hv'
    obtain ⟨b, hb, rfl⟩ := Option.map_eq_some_iff.mp hv'
    have e : bs.getD i true = b := by simp [List.getD, hb]
    have z : Q' (bs.getD i true) s' := hQ
    rw [e] at z
    exact wpAny_truthy_bool z
  · have e1 : its.toArray.size = bs.length := by
      have := rv.length
      rw [List.length_map] at this
      simp; omega
    rw [e1]
    have e2 := range_bools bs
    rw [e2]
    exact q
theorem bt_max : bootBuiltins "max" = some (.builtin "max") := by decide +kernel
theorem kcall_all (K : PySem.W.Frag) (hc : X.calm = true) (hK : X.K = K := by rfl) : CallR X (.builtin "all") (fun xs H Q => ∃ (p : Addr) (bs : List Bool), xs = [.ref p] ∧ SqL K H p (bs.map V.bl) ∧ Q (.bl (bs.all id)) H) := hK ▸ call_all hc
end
end L2
namespace L2
open PySem PySem.Spec PyProof.Rows
section
variable {X : Cx} {tg : Expr}
theorem kcall_max2 (K : PySem.W.Frag) (hc : X.calm = true) : CallR X (.builtin "max") (fun xs H Q => ∃ i j, xs = [.int i, .int j] ∧ Q (.int (if j > i then j else i)) H) := call_max2 hc
end
end L2
namespace L2
open PySem PySem.Spec PyProof.Rows
section
variable {prog : Program} {w : World} {A : Around} {E : Value → Shared → Prop} {s : Shared}
end
section
variable {X : Cx}
end
end L2
namespace L2
open PySem PySem.Spec PyProof.Rows
section
variable {prog : Program} {w : World} {A : Around} {E : Value → Shared → Prop} {s : Shared}
theorem nextOf_tupI {it t : Addr} {k : Nat} {items : Array Value} {x : Value} {Q : Value → Shared → Prop} (hi : s.heap.IsTupleIter it t k) (ht : s.heap.IsTuple t items) (hx : items[k]? = some x)
    (q : ∀ h', h'.IsTupleIter it t (k + 1) → Heap.SameBut it s.heap h' → Q x { s with heap := h' }) : wpAny (model prog w) A (Builtin.SmallTypes.nextOf (.ref it)) Q E s := by
  obtain ⟨oi, a1, a2, a3⟩ := id hi
  obtain ⟨ot, b1, _, nt, b3⟩ := ht
  unfold Builtin.SmallTypes.nextOf
  refine wpAny_bind (wpAny_callSpecial?_slot (name := Str.ofString "__next__") hi.typeIs PySem.F.slot_tuple_iterator_next (wpAny_call_entry PySem.F.slot_tuple_iterator_next hi.typeIs PySem.F.entry_tuple_iterator_next ?_ (PySem.F.args_tuple_iterator_next_1 _)))
  refine wpAny_bind (m := field (.ref it) 0) (wpAny_field a1 a3 (x := .ref t) rfl ?_)
  show wpAny _ _ (if (Value.ref t == Value.none) = true then _ else field (.ref it) 1 >>= _) _ _ s
  rw [if_neg (show ¬ ((Value.ref t == Value.none) = true) from Bool.false_ne_true)]
  refine wpAny_bind (wpAny_field a1 a3 (x := .int k 0) rfl (wpAny_bind (m := seqItems? (.ref t)) (wpAny_seqItems b1 b3 ?_)))
  simp only [Int.toNat_natCast, hx]
  refine wpAny_bind (wpAny_setField a1 a3 (by simp) (wpAny_pure ⟨x, rfl, wpAny_pure (q _ ⟨_, Heap.get?_update_self _ a1 (Obj.isFreed_of_fields (Obj.data_mapFields a3 _)), (Obj.cls_mapFields ..).trans a2, ?_⟩ (Heap.SameBut.update ..))⟩))
  rw [Obj.data_mapFields a3]; simp [rawInt]
theorem nextOf_tupE {it t : Addr} {k : Nat} {items : Array Value} {Q : Value → Shared → Prop} (hh : A.handled = none) (hi : s.heap.IsTupleIter it t k) (ht : s.heap.IsTuple t items) (hx : items[k]? = none)
    (q : ∀ h' e, Heap.ExtBut it s.heap h' → (∃ o, h'.get? e = some o ∧ o.cls = .type "StopIteration") → E (.ref e) { s with heap := h' }) : wpAny (model prog w) A (Builtin.SmallTypes.nextOf (.ref it)) Q E s := by
  obtain ⟨oi, a1, a2, a3⟩ := id hi
  obtain ⟨ot, b1, _, nt, b3⟩ := ht
  unfold Builtin.SmallTypes.nextOf
  refine wpAny_bind (wpAny_callSpecial?_slot (name := Str.ofString "__next__") hi.typeIs PySem.F.slot_tuple_iterator_next (wpAny_call_entry PySem.F.slot_tuple_iterator_next hi.typeIs PySem.F.entry_tuple_iterator_next ?_ (PySem.F.args_tuple_iterator_next_1 _)))
  refine wpAny_bind (m := field (.ref it) 0) (wpAny_field a1 a3 (x := .ref t) rfl ?_)
  show wpAny _ _ (if (Value.ref t == Value.none) = true then _ else field (.ref it) 1 >>= _) _ _ s
  rw [if_neg (show ¬ ((Value.ref t == Value.none) = true) from Bool.false_ne_true)]
  refine wpAny_bind (wpAny_field a1 a3 (x := .int k 0) rfl (wpAny_bind (m := seqItems? (.ref t)) (wpAny_seqItems b1 b3 ?_)))
  simp only [Int.toNat_natCast, hx]
  refine wpAny_bind (wpAny_rule (wpAny_bind (wpAny_setField a1 a3 (by simp) (wpAny_bind (m := newExc (.type "StopIteration") []) ?_))))
  simp only [newExc, newTuple]; refine wpAny_bind (wpAny_newObj_type (wpAny_bind (m := firstArgMember _ _) (wpAny_of_eq (a := Value.none) (by first | rfl | (simp only [firstArgMember]; rfl)) (wpAny_newObj_type ?_ (by size_fits)))) (by size_fits))
  simp only [raiseNew]; refine wpAny_bind (wpAny_handled ?_)
  first | rw [show A.in1.handled = none from hh] | rw [hh]
  exact wpAny_bind (wpAny_pure (wpAny_throw (q _ _ (((Heap.SameBut.update ..).extBut.push _).push _) ⟨_, Heap.get?_push_size _ rfl, rfl⟩)))
structure Far (z TI TO i1 i2 t1 t2 : Addr) : Prop where
  nd : [z, TI, TO, i1, i2].Nodup
  f1 : t1 ∉ [z, TO, i1, i2]
  f2 : t2 ∉ [z, TO, i1, i2]
def Kept4 (z TO i1 i2 : Addr) (h h' : Heap) : Prop := ∀ c o, c ∉ [z, TO, i1, i2] → h.get? c = some o → h'.get? c = some o
variable {z TI TO i1 i2 t1 t2 : Addr} {xs ys : Array Value} {k1 k2 : Nat}
end
end L2
namespace L2
open PySem PySem.Spec PyProof.Rows
theorem Inv.zipped {X : Cx} {pins : List (Addr × Obj)} {σ : St} {H : Hp} {s : Shared} {z TO i1 i2 : Addr} {h' : Heap} {t' : Nat} (I : Inv X pins σ H s) (hf : ∀ b ∈ [z, TO, i1, i2], FpOk X pins H b) (k : Kept4 z TO i1 i2 s.heap h') : Inv X pins σ H { s with heap := h', toks := t' } := by
  have nt : ∀ b u, H b = some u → b ∉ [z, TO, i1, i2] := fun b u e hb => by
    rw [(hf b hb).1] at e
    cases e
  have nl : X.env.locals ∉ [z, TO, i1, i2] := fun hb => (hf _ hb).2.1 rfl
  refine I.step (g' := s.gens) (d' := s.drawn) (ch := [z, TO, i1, i2]) (fun b hb => ⟨(hf b hb).2.2.2.1, (hf b hb).2.1, (hf b hb).2.2.2.2.1, (hf b hb).2.2.2.2.2⟩) (fun b o _ _ hc e _ => k b o hc e) (fun b o _ _ hc e _ => ⟨o.slots, k b o hc e⟩) (fun _ _ _ _ n => n)
    (fun b o hc e => ⟨o, k b o hc e⟩) (fun _ _ e => e) (fun _ _ _ e => e) (fun b ps e => ⟨#[], by rw [e]; simp⟩) (fun m hm => ?_) (fun b u e => ?_) I.bare
  · obtain ⟨o, es, ep, ho, r⟩ := hm
    exact ⟨o, es, ep, k _ o nl ho, r⟩
  · refine (I.hok b u e).stay (fun c v hc q => k c v ?_ q) (fun _ q => q) fun _ _ q => q
    rcases hc with z | z
    · rw [z]; exact nt b u e
    · exact nt c _ z
section
variable {X : Cx}
theorem bt_zip : bootBuiltins "zip" = some (.type "zip") := by decide +kernel
end
end L2
namespace L2
open PySem PySem.Spec PyProof.Rows
section
variable {X : Cx}
theorem op_le_str : OpR X (compareOp .LtE) (fun x y H Q => ∃ i j, x = .str i ∧ y = .str j ∧ Q (.bl (!decide (j.cps.toList < i.cps.toList))) H) := by
  intro pins s σ H x y v u Q I rx ry h
  obtain ⟨i, j, rfl, rfl, q⟩ := h
  obtain ⟨t, rfl⟩ := rx
  obtain ⟨t', rfl⟩ := ry
  exact PySem.P.le_str (fin_bl I q rfl)
end
def Alike (H : Hp) : Nat → V → V → Prop
  | 0, v, u => v = u ∧ flatV v = true
  | n + 1, v, u => (v = u ∧ flatV v = true) ∨ ∃ a b xs ys, v = .ref a ∧ u = .ref b ∧ H a = some (.tup xs) ∧ H b = some (.tup ys) ∧ Paired (Alike H n) xs ys
theorem eqV_self {v : V} (h : flatV v = true) : eqV v v = true := by
  cases v with
  | non => rfl
  | bl b => simp [eqV]
  | int i => simp [eqV]
  | str x => simp [eqV]
  | _ => cases h
theorem Paired.at {α β : Type} {F : α → β → Prop} : ∀ {l₁ : List α} {l₂ : List β}, Paired F l₁ l₂ → ∀ (i : Nat) (x : α) (y : β), l₁[i]? = some x → l₂[i]? = some y → F x y
  | _, _, .nil, i, x, y, h, _ => by simp at h
  | _, _, .cons r t, 0, x, y, h, k => by simp at h k; subst h k; exact r
  | _, _, .cons r t, i + 1, x, y, h, k => Paired.at t i x y (by simpa using h) (by simpa using k)
section
variable {X : Cx} {pins : List (Addr × Obj)} {σ : St} {H : Hp} {s : Shared}
theorem alike_parts {A : Around} {n : Nat} {xs ys : List V} {us vs : List Value} (ih : ∀ {v u : V} {v' u' : Value}, RelV v v' → RelV u u' → Alike H n v u → SeqAt.EqAt A s v' u' true) (r1 : Vals xs us) (r2 : Vals ys vs) (pr : Paired (Alike H n) xs ys) (j : Nat) (h1 : j < us.toArray.size) (h2 : j < vs.toArray.size) :
    SeqAt.EqAt A s us.toArray[j] vs.toArray[j] true := by
  have l1 := r1.length
  have l2 := r2.length
  have g1 : j < us.length := by simpa using h1
  have g2 : j < vs.length := by simpa using h2
  have k1 : xs[j]? = some (xs.getD j .non) := by simp [List.getD, show j < xs.length by omega]
  have k2 : ys[j]? = some (ys.getD j .non) := by simp [List.getD, show j < ys.length by omega]
  obtain ⟨u, e1, q1⟩ := r1.get k1
  obtain ⟨v, e2, q2⟩ := r2.get k2
  have w1 : us.toArray[j] = u := by
    rw [List.getElem?_eq_getElem g1] at e1
    simpa using Option.some.inj e1
  have w2 : vs.toArray[j] = v := by
    rw [List.getElem?_eq_getElem g2] at e2
    simpa using Option.some.inj e2
  rw [w1, w2]
  exact ih q1 q2 (Paired.at pr j _ _ k1 k2)
theorem alike_eq (I : Inv X pins σ H s) : ∀ (n : Nat) {A : Around} {v u : V} {v' u' : Value}, A.units + n < cLine → RelV v v' → RelV u u' → Alike H n v u → SeqAt.EqAt A s v' u' true
  | 0, A, v, u, v', u', _, r1, r2, h => by
    obtain ⟨rfl, f⟩ := h
    have := eqAt_V (A := A) (s := s) r1 r2 f f
    rw [eqV_self f] at this
    exact this
  | n + 1, A, v, u, v', u', hu, r1, r2, h => by
    rcases h with ⟨rfl, f⟩ | ⟨a, b, xs, ys, rfl, rfl, ha, hb, pr⟩
    · have := eqAt_V (A := A) (s := s) r1 r2 f f
      rw [eqV_self f] at this
      exact this
    · cases r1
      cases r2
      by_cases ab : a = b
      · subst ab
        exact SeqAt.EqAt.same _
      · obtain ⟨_, us, q1, p1⟩ := I.hok a _ ha
        obtain ⟨_, vs, q2, p2⟩ := I.hok b _ hb
        have ln := Paired.length pr
        have l1 := q1.length
        have l2 := q2.length
        have z := SeqAt.RcAt.tuples (A := A) (s := s) (e := fun _ => true) p1.isTup p2.isTup (by omega) (alike_parts (A := A.in1) (fun {v u v' u'} a1 a2 a3 => alike_eq I n (A := A.in1) (by show A.units + 1 + n < cLine; omega) a1 a2 a3) q1 q2 pr)
        have e : ((List.range (min us.toArray.size vs.toArray.size)).all (fun _ => true) && us.toArray.size == vs.toArray.size) = true := by
          simp; omega
        rw [e] at z
        exact SeqAt.EqAt.of_refs ab z
end
end L2
namespace L2
open PySem PySem.Spec PyProof.Rows
end L2
namespace L4
open PySem L2
def Off (p : Addr) (H H' : Hp) : Prop := ∀ b o, b ≠ p → H b = some o → H' b = some o
def Tk (H H' : Hp) : Prop := ∀ b xs, H b = some (.tup xs) → H' b = some (.tup xs)
theorem Off.refl {p : Addr} {H : Hp} : Off p H H := fun _ _ _ h => h
theorem Off.trans {p : Addr} {H H1 H2 : Hp} (a : Off p H H1) (b : Off p H1 H2) : Off p H H2 := fun c o n h => b c o n (a c o n h)
theorem Off.put {p : Addr} {H : Hp} {o : HO} : Off p H (upd H p o) := fun c u n h => by rw [upd_ne n]; exact h
theorem Off.new {p t : Addr} {H : Hp} {o : HO} (h : H t = none) : Off p H (upd H t o) := fun c u n q => by rw [upd_ne (ne_of_none q h)]; exact q
theorem Tk.trans {H H1 H2 : Hp} (a : Tk H H1) (b : Tk H1 H2) : Tk H H2 := fun c xs h => b c xs (a c xs h)
theorem Tk.refl {H : Hp} : Tk H H := fun _ _ h => h
theorem Tk.put {t : Addr} {H : Hp} {xs : List V} {o : HO} (h : H t = some (.lst xs)) : Tk H (upd H t o) := fun c u q => by rw [upd_ne (ne_of q h (by intro z; cases z))]; exact q
theorem same_new {H : Hp} {p : Addr} (h : H p = none) (o : HO) : Same H (upd H p o) := fun b u q => by rw [upd_ne (ne_of_none q h)]; exact q
theorem Off.fresh {p f : Addr} {H H' : Hp} {o : HO} (h : Off p H H') (n : H f = none) : Off p H (upd H' f o) := fun b u hb q => by rw [upd_ne (ne_of_none q n)]; exact h b u hb q
theorem Off.of {p : Addr} {H H' : Hp} (s : Same H H') : Off p H H' := fun b o _ q => s b o q
theorem Tk.of {H H' : Hp} (s : Same H H') : Tk H H' := fun b xs q => s b _ q
theorem take_snoc {α : Type} {xs : List α} {i : Nat} {x : α} (h : xs[i]? = some x) : xs.take (i + 1) = xs.take i ++ [x] := by rw [List.take_add_one, h]; rfl
theorem small9 {n : Nat} (h : n ≤ 1000) : n ≤ sizeLine := Nat.le_of_lt (small1000 h)
end L4
namespace Fr
end Fr
namespace Fr
end Fr
namespace L4
open PySem L2
theorem _root_.L2.Same.put {H H' : Hp} {l : Addr} {o : HO} (h : Same H H') (n : H l = none) : Same H (upd H' l o) := fun b u e => by rw [upd_ne (ne_of_none e n)]; exact h b u e
end L4
namespace L2
open PySem PySem.Spec PyProof.Rows
variable {X : Cx}
theorem pe_globR {x : Str} {v : V} {pos : Pos} (hg : Gl X x) (hm : ∃ u, X.mg x = some u ∧ RelV v u) (hd : (x == ("__debug__" : Str)) = false := by decide) : PE X (.Name x pos) (tC v) := by
  obtain ⟨u, h, r⟩ := hm
  exact pe_glob hg h r hd
end L2
namespace HT
open PySem PyProof.Rows
open PySem.SeqAt
open PySem.AutoSeq1 (wpAny_loadPart')
open PySem.MeetsSeq PySem.MeetsSeq2 PySem.MeetsSeq3
variable {prog : Program} {w : World} {A : Around} {E : Value → Shared → Prop} {s : Shared}
theorem getItem_tuple_whole {t sl : Addr} {items : Array Value} {vl vu : Value} {lo hi : Option Int} {Q : Value → Shared → Prop} (ht : IsTup s.heap t items) (hs : s.heap.IsSliceOf sl vl vu .none) (pl : IsPart vl lo) (pu : IsPart vu hi)
    (hw : sIx items.size 0 lo = 0 ∧ sIx items.size items.size hi = items.size)
    (h : Q (.ref t) s) : wpAny (model prog w) A (getItem (.ref t) (.ref sl)) Q E s := by
  obtain ⟨os, hos, hcs, hds⟩ := id hs
  have hTs : s.TypeIs (.ref sl) "slice" := ⟨os, hos, hcs⟩
  unfold getItem
  try with_reducible refine wpAny_holding ?_
  first | refine wpAny_bind (wpAny_pure ?_) | skip
  refine wpAny_bind (wpAny_sequenceKey ht.typeIs (by decide) ?_)
  refine wpAny_bind (wpAny_callSpecial?_slot (name := Str.ofString "__getitem__") ht.typeIs PyProof.Rows.slot_tuple_getitem
    (wpAny_call_entry PyProof.Rows.slot_tuple_getitem ht.typeIs entry_tuple_getitem ?_ (args_tuple_getitem _ _)))
  show wpAny _ _ (Builtin.Tuple.tupleItemsOf (.ref t) >>= _) _ _ s
  refine wpAny_bind (tupleItemsOf_ ht ?_)
  refine wpAny_bind (wpAny_typeOf hTs ?_)
  rw [if_pos (by decide)]
  refine wpAny_bind (sliceApplied_gen hs pl pu ?_)
  have hyes : (((sIx items.size 0 lo : Nat) : Int) == 0 && (1 : Int) == 1 && (sIx items.size items.size hi - sIx items.size 0 lo) == items.size) = true := by
    rw [hw.1, hw.2]
    simp
  show wpAny _ _ (if (((sIx items.size 0 lo : Nat) : Int) == 0 && (1 : Int) == 1 && (sIx items.size items.size hi - sIx items.size 0 lo) == items.size) = true then _ else _) _ _ s
  rw [if_pos hyes]
  refine wpAny_bind (m := Builtin.Tuple.tupleIsExact _) (wpAny_bind (wpAny_typeOf ht.typeIs (wpAny_pure ?_)))
  rw [if_pos (by decide)]
  first
    | exact wpAny_bind (wpAny_rule (wpAny_pure ⟨_, rfl, wpAny_pure h⟩))
    | exact wpAny_rule (wpAny_pure ⟨_, rfl, wpAny_pure h⟩)
    | exact wpAny_bind (wpAny_rule ⟨_, rfl, wpAny_pure h⟩)
    | exact wpAny_pure ⟨_, rfl, wpAny_pure h⟩
end HT
namespace L2
open PySem PySem.Spec PyProof.Rows
variable {X : Cx}
def rSlTW (K : PySem.W.Frag) : V → Option Int → Option Int → Hp → VK → Prop := fun x lo hi H Q => ∃ a xs, x = .ref a ∧ SqT K H a xs ∧
  (HT.sIx xs.length 0 lo = 0 ∧ HT.sIx xs.length xs.length hi = xs.length) ∧ Q (.ref a) H
theorem sl_tupW : SlR X (rSlTW X.K) := by
  intro pins s σ H x v vl vu lo hi sl Q I rx hs pl pu h
  obtain ⟨a, xs, rfl, hx, hw, q⟩ := h
  cases rx
  obtain ⟨its, r, ht, hz⟩ := I.tuple hx
  have hlen : its.toArray.size = xs.length := by rw [List.size_toArray]; exact r.length.symm
  refine ⟨"tuple", _, PyProof.Rows.slot_tuple_getitem.lookup, ht.typeIs, ?_⟩
  exact HT.getItem_tuple_whole ht hs pl pu (by rw [hlen]; exact hw) ⟨.ref a, H, I, rfl, q⟩
end L2
namespace L2
open PySem PySem.Spec PyProof.Rows
section
variable {X : Cx}
def rCatA (K : PySem.W.Frag) : R2 := fun x y H Q => ∃ a b xs ys, x = .ref a ∧ y = .ref b ∧ SqT K H a xs ∧ SqT K H b ys ∧ xs.length + ys.length ≤ sizeLine ∧
  (xs = [] → Q (.ref b) H) ∧ (xs ≠ [] → ys = [] → Q (.ref a) H) ∧ (xs ≠ [] → ys ≠ [] → ∀ p, H p = none → Q (.ref p) (upd H p (.tup (xs ++ ys))))
theorem op_catA (K : PySem.W.Frag) (hK : X.K = K := by rfl) : OpR X (binaryOp .Add) (rCatA K) := by
  subst hK
  intro pins s σ H x y v u Q I rx ry h
  obtain ⟨a, b, xs, ys, rfl, rfl, ha, hb, hz, q0, q1, q2⟩ := h
  by_cases hx : xs = []
  · cases rx
    cases ry
    obtain ⟨its, r1, p1, _⟩ := I.tuple ha
    obtain ⟨its2, r2, p2, _⟩ := I.tuple hb
    obtain ⟨⟨cls, dd, data, sl⟩, ho, hc, n, hd⟩ := id p1
    obtain ⟨⟨cls2, dd2, data2, sl2⟩, ho2, hc2, n2, hd2⟩ := id p2
    simp only at hc hd hc2 hd2
    subst hc hd hc2 hd2
    have hv : its = [] := (Vals.nil_iff r1).mpr hx
    exact concat_meets ⟨_, ho, rfl⟩ ⟨_, ho2, rfl⟩ noFill_tuple_add seq_tuple_add PySem.F.slot_tuple_add PySem.F.entry_tuple_add (PySem.F.args_tuple_add_2 _ _)
      (tuple_addW0 a b its.toArray its2.toArray n n2 dd dd2 sl sl2 (by simp [hv])) ⟨ho, ho2, ⟨.ref b, H, I, rfl, q0 hx⟩⟩
  · exact op_catT pins s σ H _ _ v u Q I rx ry ⟨a, b, xs, ys, rfl, rfl, ha, hb, hx, hz, q1 hx, q2 hx⟩
end
end L2
namespace L4
open PySem L2
end L4
namespace L4
open PySem L2 PySem.StrLaws
end L4
namespace L4
open PySem L2 PySem.StrLaws
def Small (x : Str) : Prop := ∀ c ∈ x.cps.toList, 97 ≤ c ∧ c ≤ 122
end L4
namespace L4
open PySem L2
theorem map_tup {α : Type} {K : PySem.W.Frag} {a D : Addr} {t : Nat} {te : TE} {σ0 : St} {H1 : Hp} {Q : VK} (as : List α) (g h : α → V) (ha : H1 a = some (.tup (as.map g))) (hl : as.length ≤ 1000) (hD : H1 D = none)
    (he : ∀ z ∈ as, ∀ H' Q', Same H1 H' → (∀ H'', Same H' H'' → Q' (h z) H'') → te (σ0.set t (some (g z))) H' Q')
    (q : ∀ H', Same H1 H' → H' D = some (.lst (as.map h)) → Q (.ref D) H') : CompGo (Itt K a) (gName t) tYes te σ0 H1 Q D := by
  refine comp_tup (xs := as.map g) (fun i ys H' => Same H1 H' ∧ ys = (as.take i).map h) ⟨same_new hD _, rfl⟩ (fun i ys H' hh _ => SqT.of (hh.1 _ _ ha)) ?_ ?_
  · rintro i ys H' x hx ⟨s1, rfl⟩ hD'
    have hi : i < (as.map g).length := (List.getElem?_eq_some_iff.mp hx).1
    rw [List.getElem?_map] at hx
    obtain ⟨z, hz, rfl⟩ := Option.map_eq_some_iff.mp hx
    refine yes (he z (List.mem_of_getElem? hz) H' _ s1 fun H'' s2 => ?_)
    rw [List.length_map] at hi
    refine cyes (by rw [List.length_map]; exact hi) rset1 (s2 _ _ hD') (by rw [List.length_map, List.length_take]; exact small1000 (by omega)) ⟨fun b o qb => ?_, ?_⟩
    · rw [upd_ne (ne_of_none qb hD)]
      exact s2 b o (s1 b o qb)
    · rw [take_snoc hz, List.map_append]
      rfl
  · rintro ys H' ⟨s1, rfl⟩ hD'
    rw [List.length_map, List.take_length] at hD'
    exact q H' s1 hD'
theorem map_list {α : Type} {K : PySem.W.Frag} {a D : Addr} {t : Nat} {te : TE} {σ0 : St} {H1 : Hp} {Q : VK} (as : List α) (g h : α → V) (ha : H1 a = some (.lst (as.map g))) (hl : as.length ≤ 1000) (hD : H1 D = none)
    (he : ∀ z ∈ as, ∀ H' Q', Same H1 H' → (∀ H'', Same H' H'' → Q' (h z) H'') → te (σ0.set t (some (g z))) H' Q')
    (q : ∀ H', Same H1 H' → H' D = some (.lst (as.map h)) → Q (.ref D) H') : CompGo (Itl K a) (gName t) tYes te σ0 H1 Q D := by
  refine comp_list (xs := as.map g) (fun i ys H' => Same H1 H' ∧ ys = (as.take i).map h) ⟨same_new hD _, rfl⟩ (fun i ys H' hh _ => SqL.of (hh.1 _ _ ha)) ?_ ?_
  · rintro i ys H' x hx ⟨s1, rfl⟩ hD'
    have hi : i < (as.map g).length := (List.getElem?_eq_some_iff.mp hx).1
    rw [List.getElem?_map] at hx
    obtain ⟨z, hz, rfl⟩ := Option.map_eq_some_iff.mp hx
    refine yes (he z (List.mem_of_getElem? hz) H' _ s1 fun H'' s2 => ?_)
    rw [List.length_map] at hi
    refine cyes (by rw [List.length_map]; exact hi) rset1 (s2 _ _ hD') (by rw [List.length_map, List.length_take]; exact small1000 (by omega)) ⟨fun b o qb => ?_, ?_⟩
    · rw [upd_ne (ne_of_none qb hD)]
      exact s2 b o (s1 b o qb)
    · rw [take_snoc hz, List.map_append]
      rfl
  · rintro ys H' ⟨s1, rfl⟩ hD'
    rw [List.length_map, List.take_length] at hD'
    exact q H' s1 hD'
theorem map_str {z : Str} {D : Addr} {t : Nat} {te : TE} {σ0 : St} {H1 : Hp} {Q : VK} (h : Nat → V) (hl : z.length ≤ 1000) (hD : H1 D = none)
    (he : ∀ c ∈ z.cps.toList, ∀ H' Q', Same H1 H' → (∀ H'', Same H' H'' → Q' (h c) H'') → te (σ0.set t (some (.str ⟨#[c]⟩))) H' Q')
    (q : ∀ H', Same H1 H' → H' D = some (.lst (z.cps.toList.map h)) → Q (.ref D) H') : CompGo (Its z) (gName t) tYes te σ0 H1 Q D := by
  refine comp_str (fun i ys H' => Same H1 H' ∧ ys = (z.cps.toList.take i).map h) ⟨same_new hD _, rfl⟩ ?_ ?_
  · rintro i ys H' c hc ⟨s1, rfl⟩ hD'
    have hi : i < z.cps.size := (Array.getElem?_eq_some_iff.mp hc).1
    have hc' : z.cps.toList[i]? = some c := by simpa using hc
    have hs : z.cps.size = z.length := rfl
    refine yes (he c (List.mem_of_getElem? hc') H' _ s1 fun H'' s2 => ?_)
    refine cyes hi rset1 (s2 _ _ hD') (by rw [List.length_map, List.length_take]; exact small1000 (by omega)) ⟨fun b o qb => ?_, ?_⟩
    · rw [upd_ne (ne_of_none qb hD)]
      exact s2 b o (s1 b o qb)
    · rw [take_snoc hc', List.map_append]
      rfl
  · rintro ys H' ⟨s1, rfl⟩ hD'
    rw [List.take_of_length_le (by simp)] at hD'
    exact q H' s1 hD'
theorem trues {α : Type} (as : List α) : as.map (fun _ => V.bl true) = (as.map fun _ => true).map V.bl := by rw [List.map_map]; rfl
theorem all_trues {α : Type} (as : List α) : (as.map fun _ => true).all id = true := by
  rw [List.all_eq_true]
  intro x hx
  obtain ⟨_, _, rfl⟩ := List.mem_map.mp hx
  rfl
theorem Same.rfl' {H : Hp} : Same H H := fun _ _ h => h
end L4
namespace L4
open PySem L2 PySem.StrLaws
inductive Th where
  | non
  | bl (b : Bool)
  | int (i : Int)
  | str (x : Str)
  | lst
  | dct
  | tup (ts : List Th)
def tyTh : Th → Value
  | .non => .type "NoneType"
  | .bl _ => .type "bool"
  | .int _ => .type "int"
  | .str _ => .type "str"
  | .lst => .type "list"
  | .dct => .type "dict"
  | .tup _ => .type "tuple"
def isStrB : Th → Bool
  | .str _ => true
  | _ => false
theorem kit_str {K : PySem.W.Frag} (t : Th) : PySem.W.kitOne K (tyTh t) (.type "str") = some (isStrB t) := by cases t <;> first | rfl | exact kit_same _
end L4
namespace L4
open PySem L2 PySem.StrLaws
end L4
namespace L4
open PySem L2 PySem.StrLaws
end L4
namespace L4
open PySem L2
open Classical in
section
variable {X : Addr → Prop} {H0 : Hp} {σ : St}
end
end L4
namespace L4
open PySem L2
end L4
namespace L4
open PySem L2
end L4
namespace L2
open PySem PySem.Spec PyProof.Rows
open Builtin
theorem noFill_tuple_mul : fillsNumberSlot (.type "tuple") "mul" = pure false :=
  PySem.fillsNumberSlot_seq (id := "tuple.__mul__") (r := some (.builtin "tuple.__rmul__")) F.slot_tuple_mul.lookup (by decide +kernel) F.slot_tuple_rmul.lookup (by decide +kernel)
theorem repeat_tuple : seqRepeat? (.type "tuple") = pure (some (.builtin "tuple.__mul__")) := by
  unfold seqRepeat?
  rw [PySem.seqSlot_of (T := "tuple") (name := "__mul__") (id := "tuple.__mul__") F.slot_tuple_mul.lookup (by decide +kernel), PySem.seqSlot_of (T := "tuple") (name := "__rmul__") (id := "tuple.__rmul__") F.slot_tuple_rmul.lookup (by decide +kernel)]
  rfl
theorem int_rmul_tuple (a : Int) (t : Tok) (l : Addr) (items : Array Value) (n : Nat) (dd : Option Addr) (sl : Array (Option Value)) :
    Meets (Builtin.«int.__rmul__» ⟨[.int a t, .ref l], []⟩) (fun _ R s => s.heap.get? l = some { cls := .type "tuple", dict := dd, data := .seq items n, slots := sl } ∧ R (.ok (.ret Value.notImplemented)) s) :=
  .of_wp fun prog w A R s h => by obtain ⟨hp, g, d, tk, os⟩ := s; obtain ⟨hl, h⟩ := h; wp_walk; exact ⟨_, rfl, h⟩
section
variable {X : Cx}
end
end L2
namespace L4
open PySem L2
section
variable {B : Th → Bool} {H0 H : Hp} {l : Addr} {n : Nat} {σ : St}
end
end L4
namespace L4
open PySem L2 PySem.StrLaws
end L4
namespace L2
open PySem PySem.Spec PyProof.Rows
end L2
namespace L2
open PySem PySem.Spec PyProof.Rows PySem.Builtin PySem.Builtin.Str
section
variable {X : Cx} {e : Expr} {es : List Expr} {te ta tb : TE} {t : TA} {pos : Pos} {a b : Expr} {st : Stmt} {rest : List Stmt} {ts us : TS}
end
end L2
namespace L2
open PySem PySem.Spec PyProof.Rows PySem.Builtin PySem.Builtin.Str
section
variable {X : Cx}
theorem op_mulS : OpR X (binaryOp .Mult) (fun x y H Q => ∃ (i : Str) (n : Int), x = .str i ∧ y = .int n ∧ 0 ≤ n ∧ n ≤ 100 ∧ i.length ≤ 10 ∧ Q (.str (Txt.mul i n)) H) := by
  intro pins s σ H x y v u Q I rx ry h
  obtain ⟨i, n, rfl, rfl, n0, n1, il, q⟩ := h
  obtain ⟨t, rfl⟩ := rx
  obtain ⟨t', rfl⟩ := ry
  refine SB.mul ⟨by simp; omega, fun h1 _ => ?_, fun h1 _ => ?_⟩ fun t' k => ⟨.str _, H, I.tok _, ⟨_, rfl⟩, q⟩
  · have h2 : (2 ^ 63 - 1 : Int) / 100 ≤ (2 ^ 63 - 1) / n := by
      rw [Int.le_ediv_iff_mul_le (by omega)]
      have h3 : (2 ^ 63 - 1 : Int) / 100 * n ≤ (2 ^ 63 - 1 : Int) / 100 * 100 := Int.mul_le_mul_of_nonneg_left n1 (by decide)
      have h4 : (2 ^ 63 - 1 : Int) / 100 * 100 ≤ 2 ^ 63 - 1 := by decide
      omega
    have h5 : (10 : Int) ≤ (2 ^ 63 - 1 : Int) / 100 := by decide
    omega
  · have : i.length * n.toNat ≤ 10 * 100 := Nat.mul_le_mul il (by omega)
    unfold tooLong sizeLine
    exact decide_eq_false (by omega)
end
end L2
namespace L4
open PySem L2 PySem.StrLaws
end L4
namespace L4
open PySem L2 PySem.StrLaws
end L4
namespace L4
open PySem L2 PySem.StrLaws
section
end
end L4
namespace L4
open PySem L2
section
variable {X : Addr → Prop} {H0 H : Hp} {σ : St} {B : Th → Bool} {l : Addr} {n : Nat}
end
end L4
namespace L4
open PySem L2
end L4
namespace L4
open PySem L2
end L4
namespace L4
open PySem L2
end L4
namespace L4
open PySem L2
end L4
namespace L4
open PySem L2 PySem.StrLaws
section
end
end L4
namespace L4
open PySem L2 PySem.StrLaws
section
variable {X : Addr → Prop} {H0 : Hp} {σ : St} {K : PySem.W.Frag}
end
end L4
namespace L4
open PySem L2 PySem.StrLaws
section
end
section
end
end L4
namespace L2
open PySem PySem.Spec PyProof.Rows
section
variable {X : Cx}
theorem bt_min : bootBuiltins "min" = some (.builtin "min") := by decide +kernel
theorem kcall_min2 (K : PySem.W.Frag) (hc : X.calm = true) : CallR X (.builtin "min") (fun xs H Q => ∃ i j, xs = [.int i, .int j] ∧ Q (.int (if j < i then j else i)) H) := call_min2 hc
end
theorem iteDT {c A B : Prop} [Decidable c] (hc : decide c = true) (h : A) : if decide c = true then A else B := by rw [if_pos hc]; exact h
theorem iteDF {c A B : Prop} [Decidable c] (hc : decide c = false) (h : B) : if decide c = true then A else B := by rw [if_neg (by rw [hc]; exact Bool.false_ne_true)]; exact h
end L2
namespace L4
open PySem L2
end L4
namespace Fr
end Fr
namespace PySem
open Sem (wp)
section
variable {prog : Program} {w : World} {A : Around} {E : Value → Shared → Prop} {s : Shared}
theorem wpAny_collect_range {Q : List Value → Shared → Prop} {it : Addr} {a b c : Int} {t u v : Tok} {n : Nat} (hh : A.handled = none) (hr : IsRange s.heap it a b c t u v) (hsmall : Builtin.Range.small a b c = true)
    (hn : Builtin.Range.rangeSize a b c = n) (hlen : n ≤ 2 ^ 24)
    (hQ : ∀ h' tk (acc : Array Value), (∀ b o', s.heap.get? b = some o' → h'.get? b = some o') → ItemsOf (fun i v => ∃ t, v = .int (a + i * c) t) acc n → Q acc.toList { s with heap := h', toks := tk }) :
    wpAny (model prog w) A (collect (.ref it)) Q E s := by
  unfold collect
  refine wpAny_bind (wpAny_runValue (codeAny_builtin F.entry_proto_collect ?_))
  rw [Around.under_plainId F.plain_proto_collect _]
  show wpAny _ A.in1 (newList [] >>= fun l => again (.builtin "list.__iadd__" ⟨[l, .ref it], []⟩)) _ _ s
  refine wpAny_bind (wpAny_newObj_type ?_)
  refine wpAny_pure ⟨plainId_quiet F.plain_list_iadd _, codeAny_builtin F.entry_list_iadd ?_⟩
  rw [Around.under_plainId F.plain_list_iadd _]
  show wpAny _ A.in1 (Builtin.List.listExtendWith (.ref s.heap.objs.size) (.ref it) (.ref s.heap.objs.size)) _ _ _
  have hS : (s.heap.push { cls := .type "list", data := .seq ([] : List Value).toArray }).get? s.heap.objs.size = some { cls := .type "list", data := .seq #[] 0 } := Heap.get?_push_size _ rfl
  have fin' : ∀ (s' : Shared), (∃ h' tk acc c', s' = { s with heap := h', toks := tk } ∧ (∀ b o, b ≠ s.heap.objs.size → (s.heap.push { cls := .type "list", data := .seq ([] : List Value).toArray }).get? b = some o → h'.get? b = some o) ∧ h'.get? s.heap.objs.size = some { cls := .type "list", dict := none, data := .seq acc c', slots := #[] } ∧ ItemsOf (fun i v => ∃ t, v = .int (a + i * c) t) acc n) → wpAny (model prog w) A (match Value.ref s.heap.objs.size with
      | Value.ref a => do
        match (← load a).data with
          | Data.seq xs _ => pure xs.toList
          | _ => unsupported "internal:collect"
      | _ => unsupported "internal:collect") Q E s' := by
    rintro s' ⟨h', tk, acc, c', rfl, kp, e, hacc⟩
    show wpAny _ A (load s.heap.objs.size >>= _) _ _ _
    refine wpAny_bind (wpAny_load e ?_)
    refine wpAny_pure ?_
    exact hQ h' tk acc (fun b o' hb => kp b o' (Nat.ne_of_lt (Heap.lt_size hb)) (Heap.get?_push_of_some _ hb)) hacc
  refine wpAny_mono (wpAny_extend_range (A := A) (R := fun r s' => r = .ok (.ret (.ref s.heap.objs.size)) ∧ ∃ h' tk acc c', s' = { s with heap := h', toks := tk } ∧ (∀ b o, b ≠ s.heap.objs.size → (s.heap.push { cls := .type "list", data := .seq ([] : List Value).toArray }).get? b = some o → h'.get? b = some o) ∧ h'.get? s.heap.objs.size = some { cls := .type "list", dict := none, data := .seq acc c', slots := #[] } ∧ ItemsOf (fun i v => ∃ t, v = .int (a + i * c) t) acc n)
    (s := { s with heap := s.heap.push { cls := .type "list", data := .seq ([] : List Value).toArray } }) hh (Heap.get?_push_of_some _ hr) hsmall hn hlen _ _ 0 hS fun h' tk acc' c' k1 k2 k3 => ⟨rfl, h', tk, acc', c', rfl, k1, k2, k3⟩) (fun fin s' h => ?_) (fun e s' h => ?_)
  · cases fin with
    | done f =>
      obtain ⟨e, h⟩ := h
      cases e
      exact fin' _ h
    | again c' => exact ⟨h.1, codeAny_mono h.2 fun r s'' hr => by obtain ⟨rfl, hr⟩ := hr; exact fin' _ hr⟩
  · exact absurd h.1 (by simp)
end
theorem meets_tuple_new_range (l : Addr) (a b c : Int) (t u v : Tok) (n : Nat) (hsmall : Builtin.Range.small a b c = true) (hn : Builtin.Range.rangeSize a b c = n) (hlen : n ≤ 2 ^ 20) :
    Meets (Builtin.«tuple.__new__» ⟨[.type "tuple", .ref l], []⟩)
      (fun A R s => A.handled = none ∧ IsRange s.heap l a b c t u v ∧ ∀ (h' : Heap) (tk : Nat) (acc : Array Value), (∀ b o', s.heap.get? b = some o' → h'.get? b = some o') → ItemsOf (fun i v => ∃ t, v = .int (a + i * c) t) acc n → R (.ok (.ret (.ref h'.objs.size))) { s with heap := h'.push { cls := .type "tuple", data := .seq acc }, toks := tk }) :=
  .of_wp fun prog w A R s h => by
    obtain ⟨hp, g, d, tk, os⟩ := s; obtain ⟨hh, ht, h⟩ := h
    have hsub := sub_tuple_self
    have hinit := init_tuple_lookup
    have hmh := madeHere_tuple
    have hT : Shared.TypeIs ⟨hp, g, d, tk, os⟩ (.ref l) "range" := ⟨_, ht, rfl⟩
    wp_walk using AutoSeq1.wpAny_loadPart' ht, wpAny_typeOf hT, wpAny_collect_range (A := A.in1) hh ht hsmall hn (by omega)
    intro h' tk' acc hk hacc
    show wpAny _ _ (Builtin.Tuple.tupleExact acc.toList.toArray >>= fun v => ret v) _ _ _
    unfold Builtin.Tuple.tupleExact
    have hsz : acc.size ≤ sizeLine := by rw [hacc.1]; exact Nat.le_trans hlen (by decide +kernel)
    refine wpAny_bind (wpAny_newObj_type ?_ (by show acc.toList.toArray.size ≤ sizeLine; simpa using hsz))
    refine wpAny_pure ⟨_, rfl, ?_⟩
    have e : acc.toList.toArray = acc := by simp
    rw [e]
    exact h h' tk' acc hk hacc
section
variable {prog : Program} {w : World} {A : Around} {E : Value → Shared → Prop} {s : Shared}
theorem call_tuple_range {l : Addr} {a b c : Int} {t u v : Tok} {n : Nat} {Q : Value → Shared → Prop} (hh : A.handled = none) (hr : IsRange s.heap l a b c t u v) (hsmall : Builtin.Range.small a b c = true) (hn : Builtin.Range.rangeSize a b c = n) (hlen : n ≤ 2 ^ 20)
    (h : ∀ (h' : Heap) (tk : Nat) (acc : Array Value), (∀ b o', s.heap.get? b = some o' → h'.get? b = some o') → ItemsOf (fun i v => ∃ t, v = .int (a + i * c) t) acc n → Q (.ref h'.objs.size) { s with heap := h'.push { cls := .type "tuple", data := .seq acc }, toks := tk }) :
    wpAny (model prog w) A (call (.type "tuple") [.ref l]) Q E s :=
  callType_new F.called_tuple (by decide) (F.typeCall_tuple_1 _) (F.newCall_tuple_1 _) (fun obj => F.args_object_init_2 obj _) F.entry_tuple_new
    (meets_tuple_new_range l a b c t u v n hsmall hn hlen) ⟨hh, hr, fun h' tk acc hk hacc => ⟨⟨_, Heap.get?_push_size _ rfl, rfl⟩, h h' tk acc hk hacc⟩⟩
end
end PySem
namespace PySem.SeqAt
open PySem
theorem wpAny_forRange {M : Model} {A : Around} {E : Value → Shared → Prop} {s : Shared} {β : Type} {a b : Nat} (f : Nat → β → Sem (ForInStep β)) (I : Nat → β → Shared → Prop) (Q : β → Shared → Prop)
    (turn : ∀ i c s, a ≤ i → i < b → I i c s → wpAny M A (f i c) (fun r s' => match r with | .yield c' => I (i + 1) c' s' | .done c' => Q c' s') E s)
    (fin : ∀ c s, I (max a b) c s → Q c s) (c : β) (h : I a c s) : wpAny M A (forIn [a:b] c f) Q E s := by
  rw [Std.Legacy.Range.forIn_eq_forIn_range']
  have hsz : ([a:b] : Std.Legacy.Range).size = b - a := by simp [Std.Legacy.Range.size]
  show wpAny M A (forIn (List.range' a ([a:b] : Std.Legacy.Range).size 1) c f) Q E s
  rw [hsz]
  refine wpAny_forIn_list f (fun l c st => ∃ i, a ≤ i ∧ i ≤ max a b ∧ l = List.range' i (max a b - i) 1 ∧ I i c st) Q ?_ ?_ _ c ⟨a, Nat.le_refl _, by omega, by congr 1; omega, h⟩
  · rintro x rest c st ⟨i, hai, hib, hl, hI⟩
    have hlt : i < max a b := by
      rcases Nat.lt_or_ge i (max a b) with h' | h'
      · exact h'
      · rw [show max a b - i = 0 by omega] at hl; simp at hl
    obtain ⟨n, hn⟩ : ∃ n, max a b - i = n + 1 := ⟨max a b - i - 1, by omega⟩
    rw [hn, List.range'_succ] at hl
    obtain ⟨rfl, rfl⟩ := List.cons.inj hl
    refine wpAny_mono (turn x c st hai (by omega) hI) (fun r st' h' => ?_) fun _ _ h' => h'
    cases r with
    | done c' => exact h'
    | yield c' => exact ⟨x + 1, by omega, by omega, by congr 1; omega, h'⟩
  · rintro c st ⟨i, hai, hib, hl, hI⟩
    have : i = max a b := by
      rcases Nat.lt_or_ge i (max a b) with h' | h'
      · obtain ⟨n, hn⟩ : ∃ n, max a b - i = n + 1 := ⟨max a b - i - 1, by omega⟩
        rw [hn, List.range'_succ] at hl
        cases hl
      · omega
    rw [this] at hI
    exact fin c st hI
theorem tuple_indexAt (l : Addr) (items : Array Value) (n : Nat) (dd : Option Addr) (sl : Array (Option Value)) (x : Value) (e : Value → Bool) (j : Nat) (hj : j < items.size)
    (hit : e items[j] = true) (hno : ∀ m (hm : m < items.size), m < j → e items[m] = false) :
    Meets (Builtin.«tuple.index» ⟨[.ref l, x], []⟩)
      (fun A R s => s.heap.get? l = some { cls := .type "tuple", dict := dd, data := .seq items n, slots := sl } ∧ (∀ y, y ∈ items → EqAt A.in1 s y x (e y)) ∧ R (.ok (.ret (.int j s.toks))) { s with toks := s.toks + 1 }) :=
  .of_wp fun prog w A R s h => by
    obtain ⟨hp, g, d, tk, os⟩ := s; obtain ⟨hl, he, h⟩ := h
    wp_walk using AutoSeq1.wpAny_loadPart' hl, wpAny_forRange _ (fun i c s' => c = (none, ()) ∧ s' = ⟨hp, g, d, tk, os⟩ ∧ i ≤ j) _
    case turn =>
      rintro i c s' hi1 hi2 ⟨rfl, rfl, hij⟩
      have hi : i < items.size := by omega
      rw [Array.getElem?_eq_getElem hi]
      refine wpAny_bind (he _ (Array.getElem_mem hi) prog w _ _ ?_)
      rcases Nat.lt_or_ge i j with h' | h'
      · rw [hno i hi h']
        wp_walk
        exact ⟨rfl, rfl, h'⟩
      · have e1 : i = j := by omega
        subst e1
        rw [hit]
        wp_walk
        exact ⟨_, rfl, h⟩
    case fin =>
      rintro c s' ⟨rfl, rfl, hij⟩
      omega
    case h =>
      exact ⟨rfl, rfl, Nat.zero_le _⟩
end PySem.SeqAt
namespace L2
open PySem PySem.Spec PyProof.Rows
theorem ints_are : ∀ {ns : List Int} {us : List Value}, Vals (ns.map V.int) us → IntsAre us ns
  | [], us, h => by cases h; exact .nil
  | n :: ns, us, h => by
    rw [List.map_cons] at h
    cases h with
    | cons r t =>
      obtain ⟨tk, rfl⟩ := r
      exact .cons n tk (ints_are t)
theorem ints_vals {ns : List Int} {us : List Value} (h : IntsAre us ns) : Vals (ns.map V.int) us := by
  induction h with
  | nil => exact .nil
  | cons n t _ ih => exact .cons ⟨t, rfl⟩ ih
theorem vals_get : ∀ {xs : List V} {us : List Value}, xs.length = us.length → (∀ (i : Nat) x u, xs[i]? = some x → us[i]? = some u → RelV x u) → Vals xs us
  | [], [], _, _ => .nil
  | [], _ :: _, h, _ => by cases h
  | _ :: _, [], h, _ => by cases h
  | x :: xs, u :: us, h, k => .cons (k 0 x u rfl rfl) (vals_get (by simpa using h) fun i y v a b => k (i + 1) y v (by simpa using a) (by simpa using b))
theorem vals_items {n : Nat} {acc : Array Value} (h : ItemsOf (fun i v => ∃ t, v = .int (0 + i * 1) t) acc n) : Vals ((List.range n).map fun (i : Nat) => V.int (i : Int)) acc.toList := by
  refine vals_get (by rw [List.length_map, List.length_range]; simpa using h.1.symm) fun i x u hx hu => ?_
  rw [List.getElem?_map] at hx
  obtain ⟨j, hj, rfl⟩ := Option.map_eq_some_iff.mp hx
  have ej : j = i := by
    have := List.getElem?_eq_some_iff.mp hj
    obtain ⟨_, e⟩ := this
    rw [List.getElem_range] at e
    exact e.symm
  subst ej
  obtain ⟨t, e⟩ := h.2 j u (by simpa using hu)
  rw [e, Int.zero_add, Int.mul_one]
  exact ⟨t, rfl⟩
section
variable {X : Cx}
theorem kcall_sortedI (K : PySem.W.Frag) (hK : X.K = K := by rfl) : CallR X (.builtin "sorted") (fun xs H Q => ∃ (p : Addr) (ns : List Int), xs = [.ref p] ∧ SqL K H p (ns.map V.int) ∧ ns.length < 64 ∧ ∀ (l : Addr) (ms : List Int), H l = none → ms.Perm ns → ms.Pairwise (· ≤ ·) → Q (.ref l) (upd H l (.lst (ms.map V.int)))) := by
  subst hK
  intro pins s σ H xs us Q I r h
  obtain ⟨p, ns, rfl, hq, h64, q⟩ := h
  obtain ⟨u, rfl, rx⟩ := vals1 r
  cases rx
  obtain ⟨its, rv, pl, hz⟩ := I.list hq
  have hl := rv.length
  rw [List.length_map] at hl
  refine sorted_ints pl.isList (ints_are rv) (by omega) fun out ns' a1 a2 a3 => ?_
  obtain ⟨e, he⟩ := sortedAll_at s.heap its out
  refine ⟨.ref (s.heap.objs.size + 1), _, I.laid (t' := s.toks) (o := .lst (ns'.map V.int)) (fun b o q => sortedAll_old q) (Nat.le_succ _) ?_, rfl, q _ ns' (I.hok.fresh (Nat.le_succ _)) a2 a3⟩
  refine ⟨by rw [List.length_map, a2.length_eq]; exact Nat.le_of_lt (small1000 (by omega)), out.toList, e, ints_vals a1, ?_⟩
  simpa [seqObj] using he
def rRepL (K : PySem.W.Frag) : R2 := fun x y H Q => ∃ a xs n, x = .ref a ∧ y = .int n ∧ H a = some (.lst xs) ∧ 0 ≤ n ∧ n ≤ 1000 ∧ xs.length * n.toNat ≤ 1000 ∧ ∀ p, H p = none → Q (.ref p) (upd H p (.lst (List.replicate n.toNat xs).flatten))
theorem op_repL (K : PySem.W.Frag) : OpR X (binaryOp .Mult) (rRepL K) := by
  intro pins s σ H x y v u Q I rx ry h
  obtain ⟨a, xs, k, rfl, rfl, ha, k0, k1, hz, q⟩ := h
  cases rx
  obtain ⟨t, rfl⟩ := ry
  obtain ⟨z, its, n, r, hl, e⟩ := I.lstM ha
  have e1 : List.foldl (fun x1 x2 => x1 ++ x2) #[] (List.replicate k.toNat its.toArray) = (List.replicate k.toNat its).flatten.toArray := by
    have := foldl_rep its k.toNat []
    rw [List.nil_append] at this
    exact this
  have hnew : List.foldl (fun x1 x2 => x1 ++ x2) #[] (List.replicate (if its.toArray.isEmpty = true then 0 else k.toNat) its.toArray) = (List.replicate k.toNat its).flatten.toArray := by
    cases hi : its with
    | nil => simp
    | cons b bs =>
      rw [← hi]
      have : its.toArray.isEmpty = false := by rw [hi]; rfl
      rw [this]
      exact e1
  refine wpAny_binaryOp_repeat_ref (T := "list") (U := "int") (by decide) ⟨_, e, rfl⟩ (fun s' => typeIs_int s' k t) noFill_list_mul F.fills_int_mul F.slot_int_rmul repeat_list F.slot_int_index.lookup
    (call_meets F.slot_int_rmul (typeIs_int s k t) F.entry_int_rmul (F.args_int_rmul_2 _ _) (int___rmul___int_list k t a its.toArray n)
      ⟨e, rfl, ⟨_, e, rfl⟩, call_meets F.slot_list_mul ⟨_, e, rfl⟩ F.entry_list_mul (F.args_list_mul_2 _ _)
        (AutoListH.list___mul___list_int_3 a its.toArray n k t (by simp [Builtin.List.listFitsIndex]; omega) (by
          have h1 : its.length * k.toNat ≤ 1000 := by rw [← hl]; exact hz
          have h2 : ((its.length * k.toNat : Nat) : Int) ≤ 1000 := by exact_mod_cast h1
          rw [Int.natCast_mul, show ((k.toNat : Nat) : Int) = k by omega] at h2
          simp only [List.size_toArray]
          omega) (by
          have h1 : its.length * k.toNat ≤ 1000 := by rw [← hl]; exact hz
          have h2 : ((its.length * k.toNat : Nat) : Int) ≤ 1000 := by exact_mod_cast h1
          rw [Int.natCast_mul, show ((k.toNat : Nat) : Int) = k by omega] at h2
          simp [Builtin.List.listTooLong, sizeLine]
          omega))
        ⟨e, ?_⟩⟩)
  rw [hnew]
  refine ⟨.ref s.heap.objs.size, _, I.laid (t' := s.toks) (o := .lst (List.replicate k.toNat xs).flatten) (fun b ob q => Heap.get?_push_of_some _ q) (Nat.le_refl _) ?_, rfl, q _ (I.hok.fresh (Nat.le_refl _))⟩
  exact ⟨by rw [len_rep]; exact Nat.le_of_lt (small1000 (by rw [Nat.mul_comm]; exact hz)), _, 0, r.rep k.toNat, Heap.get?_push_size _ rfl⟩
def tRng (ta : TA) : TE := fun σ H Q => ta σ H fun vs H1 => ∃ j : Int, vs = [.int j] ∧ ∀ p, H1 p = none → Q (.ref p) (upd H1 p (.rng 0 j))
theorem pe_rng {a : Expr} {ta : TA} {p pos : Pos} (hg : Gl X "range") (hm : X.mg "range" = none) (ha : PA X [a] ta) (hs : starEach [a] X.env = [(false, eval a X.env)] := by rfl) : PE X (.Call (.Name "range" p) [a] [] pos) (tRng ta) := by
  intro pins s σ H Q I h
  refine Call_ (ld_blt I hg hm boot_range (PyProof.Rows.callWith_type1 (thn (ha pos pins s σ H _ I h) fun us s1 ⟨vs, H1, I1, r1, q1⟩ => ?_) hs rfl))
  obtain ⟨j, e, q⟩ := q1
  subst e
  cases r1 with
  | cons r rr =>
    cases rr
    obtain ⟨t, rfl⟩ := r
    refine call_range_1 ⟨.ref s1.heap.objs.size, _, I1.laid (t' := _) (o := .rng 0 j) (fun b o q => Heap.get?_push_of_some _ q) (Nat.le_refl _) ?_, rfl, q _ (I1.hok.fresh (Nat.le_refl _))⟩
    exact ⟨_, _, _, Heap.get?_push_size _ rfl⟩
theorem call_listR (hc : X.calm = true) : CallR X (.type "list") (fun xs H Q => ∃ (p : Addr) (j : Int), xs = [.ref p] ∧ H p = some (.rng 0 j) ∧ 0 ≤ j ∧ j ≤ 1000 ∧ ∀ l, H l = none → Q (.ref l) (upd H l (.lst ((List.range j.toNat).map fun (i : Nat) => V.int (i : Int))))) := by
  intro pins s σ H xs us Q I r h
  obtain ⟨p, j, rfl, hp, j0, j1, q⟩ := h
  obtain ⟨u, rfl, rx⟩ := vals1 r
  cases rx
  obtain ⟨t, u, v, e⟩ := I.hok p _ hp
  have hn : Builtin.Range.rangeSize 0 j 1 = (j.toNat : Nat) := by rw [rangeSize_one]; split <;> omega
  refine call_list_range (I.ok.hd hc) e (small_one (by omega) (by omega) (by omega) (by omega)) hn (by omega) fun h' tk acc c' kp he hacc => ?_
  refine ⟨.ref s.heap.objs.size, _, I.laid (t' := tk) (o := .lst ((List.range j.toNat).map fun (i : Nat) => V.int (i : Int))) kp (Nat.le_refl _) ?_, rfl, q _ (I.hok.fresh (Nat.le_refl _))⟩
  refine ⟨by rw [List.length_map, List.length_range]; exact Nat.le_of_lt (small1000 (by omega)), acc.toList, c', ?_, by simpa using he⟩
  exact vals_items hacc
def rEqD (n : Nat) : R2 := fun x y H Q => ∃ a b xs ys, x = .ref a ∧ y = .ref b ∧ H a = some (.tup xs) ∧ H b = some (.tup ys) ∧ Paired (Alike H n) xs ys ∧ Q (.bl true) H
theorem op_eqD (n : Nat) {k : Nat} (hr : Room k X.A) (hn : n ≤ 20) : OpR X (compareOp .Eq) (rEqD n) := by
  intro pins s σ H x y v u Q I rx ry h
  obtain ⟨a, b, xs, ys, rfl, rfl, ha, hb, pr, q⟩ := h
  cases rx
  cases ry
  have hu : X.A.units + 64 < cLine := hr.units
  obtain ⟨_, us, q1, p1⟩ := I.hok a _ ha
  obtain ⟨_, vs, q2, p2⟩ := I.hok b _ hb
  have ln := Paired.length pr
  have l1 := q1.length
  have l2 := q2.length
  have z := SeqAt.RcAt.tuples (A := X.A) (s := s) (e := fun _ => true) p1.isTup p2.isTup (by omega) (alike_parts (A := X.A.in1) (fun {v u v' u'} a1 a2 a3 => alike_eq I n (A := X.A.in1) (by show X.A.units + 1 + n < cLine; omega) a1 a2 a3) q1 q2 pr)
  have e : ((List.range (min us.toArray.size vs.toArray.size)).all (fun _ => true) && us.toArray.size == vs.toArray.size) = true := by
    simp; omega
  rw [e] at z
  exact z X.prog X.w _ _ ⟨.bl _, H, I, rfl, q⟩
end
end L2
namespace L2
open PySem PySem.Spec PyProof.Rows
theorem Inv.changed {X : Cx} {pins : List (Addr × Obj)} {σ : St} {H : Hp} {s : Shared} {ch : List Addr} {h' : Heap} {t' : Nat} (I : Inv X pins σ H s) (hf : ∀ b ∈ ch, FpOk X pins H b) (k : ∀ c o, c ∉ ch → s.heap.get? c = some o → h'.get? c = some o) : Inv X pins σ H { s with heap := h', toks := t' } := by
  have nt : ∀ b u, H b = some u → b ∉ ch := fun b u e hb => by
    rw [(hf b hb).1] at e
    cases e
  have nl : X.env.locals ∉ ch := fun hb => (hf _ hb).2.1 rfl
  refine I.step (g' := s.gens) (d' := s.drawn) (ch := ch) (fun b hb => ⟨(hf b hb).2.2.2.1, (hf b hb).2.1, (hf b hb).2.2.2.2.1, (hf b hb).2.2.2.2.2⟩) (fun b o _ _ hc e _ => k b o hc e) (fun b o _ _ hc e _ => ⟨o.slots, k b o hc e⟩) (fun _ _ _ _ n => n)
    (fun b o hc e => ⟨o, k b o hc e⟩) (fun _ _ e => e) (fun _ _ _ e => e) (fun b ps e => ⟨#[], by rw [e]; simp⟩) (fun m hm => ?_) (fun b u e => ?_) I.bare
  · obtain ⟨o, es, ep, ho, r⟩ := hm
    exact ⟨o, es, ep, k _ o nl ho, r⟩
  · refine (I.hok b u e).stay (fun c v hc q => k c v ?_ q) (fun _ q => q) fun _ _ q => q
    rcases hc with z | z
    · rw [z]; exact nt b u e
    · exact nt c _ z
section
variable {X : Cx}
end
end L2
namespace L2
open PySem PySem.Spec PyProof.Rows
theorem bt_divmod : bootBuiltins "divmod" = some (.builtin "divmod") := by decide +kernel
theorem bt_sorted : bootBuiltins "sorted" = some (.builtin "sorted") := by decide +kernel
end L2
namespace L4
open PySem L2
abbrev nV (i : Nat) : V := .int (i : Int)
def Wel (H : Hp) (p : Addr) : Prop := ∃ x y : Int, H p = some (.lst [.int x, .int y])
theorem Wel.put {H : Hp} {p : Addr} {x y : Int} : Wel (upd H p (.lst [.int x, .int y])) p := ⟨x, y, upd_same⟩
theorem Wel.same {H H' : Hp} {p : Addr} (h : Wel H p) (s : Same H H') : Wel H' p := by
  obtain ⟨x, y, e⟩ := h
  exact ⟨x, y, s _ _ e⟩
theorem Wel.off {H : Hp} {p t : Addr} {o : HO} (h : Wel H p) (n : p ≠ t) : Wel (upd H t o) p := by
  obtain ⟨x, y, e⟩ := h
  exact ⟨x, y, by rw [upd_ne n]; exact e⟩
theorem Wel.ne {H : Hp} {p t : Addr} (h : Wel H p) (n : H t = none) : p ≠ t := by
  obtain ⟨x, y, e⟩ := h
  exact ne_of_none e n
theorem Wel.tk {p : Addr} {H H' : Hp} (h : Wel H p) (o : Off p H H') : Tk H H' := fun b xs e => by
  obtain ⟨x, y, q⟩ := h
  exact o b _ (ne_of e q (by intro z; cases z)) e
def spDrawW : Sp := fun vs H Q _ => ∃ (p : Addr) (m : Nat), vs = [.ref p, .int (m : Int)] ∧ Wel H p ∧ 0 < m ∧ m < 1000000 ∧ ∀ (v : Nat) H', v < m → Off p H H' → Wel H' p → Q (nV v) H'
theorem comp_draws {t : Nat} {te : TE} {σ0 : St} {H1 : Hp} {Q : VK} {D p : Addr} {lo : Int} {n m : Nat} (w : Wel H1 p) (hD : H1 D = none) (hn : n ≤ 900)
    (he : ∀ i H' Q', i < n → Wel H' p → (∀ (v : Nat) H'', v < m → Off p H' H'' → Wel H'' p → Q' (nV v) H'') → te (σ0.set t (some (.int (lo + i)))) H' Q')
    (q : ∀ (vs : List Nat) H', vs.length = n → (∀ v ∈ vs, v < m) → Off p H1 H' → Wel H' p → H' D = some (.lst (vs.map nV)) → Q (.ref D) H') : CompGo (Itr lo n) (gName t) tYes te σ0 H1 Q D := by
  have pD := w.ne hD
  refine comp_range (fun i ys H' => ∃ vs : List Nat, ys = vs.map nV ∧ vs.length = i ∧ (∀ v ∈ vs, v < m) ∧ Off p H1 H' ∧ Wel H' p) ⟨[], rfl, rfl, (fun v h => by cases h), Off.new hD, w.off pD⟩ ?_ ?_
  · rintro i ys H' hi ⟨vs, rfl, hl, hv, o1, w1⟩ hD'
    refine yes (he i H' _ hi w1 fun v H'' v1 o2 w2 => ?_)
    have hD2 := o2 D _ (Ne.symm pD) hD'
    refine cyes hi rset1 hD2 (by rw [List.length_map, hl]; exact small1000 (by omega)) ⟨vs ++ [v], by rw [List.map_append]; rfl, by rw [List.length_append, hl]; rfl, fun u hu => ?_, (o1.trans o2).fresh hD, w2.off pD⟩
    rcases List.mem_append.mp hu with h | h
    · exact hv u h
    · rw [List.mem_singleton.mp h]
      exact v1
  · rintro ys H' ⟨vs, rfl, hl, hv, o1, w1⟩ hD'
    exact q vs H' hl hv o1 w1 hD'
def TL (n : Nat) (xs : List V) : Prop := ∃ ys : List Str, xs = ys.map V.str ∧ ys.length ≤ n ∧ ∀ y ∈ ys, y.length ≤ 100
theorem TL.cut {n : Nat} {xs : List V} (h : TL n xs) (lo hi : Option Int) : TL n (cutV xs lo hi) := by
  obtain ⟨ys, rfl, hl, hy⟩ := h
  unfold cutV
  refine ⟨_, by rw [← List.map_drop, ← List.map_take], ?_, fun y h => hy y (List.mem_of_mem_drop (List.mem_of_mem_take h))⟩
  rw [List.length_take, List.length_drop]
  omega
theorem TL.app {n m : Nat} {xs ys : List V} (h : TL n xs) (k : TL m ys) : TL (n + m) (xs ++ ys) := by
  obtain ⟨a, rfl, al, ah⟩ := h
  obtain ⟨b, rfl, bl, bh⟩ := k
  refine ⟨a ++ b, by rw [List.map_append], by rw [List.length_append]; omega, fun y h => ?_⟩
  rcases List.mem_append.mp h with h | h
  · exact ah y h
  · exact bh y h
theorem TL.mono {n m : Nat} {xs : List V} (h : TL n xs) (k : n ≤ m) : TL m xs := by
  obtain ⟨a, e, al, ah⟩ := h
  exact ⟨a, e, Nat.le_trans al k, ah⟩
theorem TL.len {n : Nat} {xs : List V} (h : TL n xs) : xs.length ≤ n := by
  obtain ⟨a, rfl, al, ah⟩ := h
  rw [List.length_map]
  exact al
theorem mul_len (x : Str) (n : Int) : (Txt.mul x n).length ≤ x.length * n.toNat := by
  unfold Txt.mul
  split
  · exact Nat.zero_le _
  · split
    · rename_i h1 h2
      simp at h2
      rcases h2 with h2 | h2
      · rw [h2]
        simp
      · rw [h2]
        simp
    · have aux : ∀ (k : Nat) (a acc : Array Nat), ((List.replicate k a).foldl (· ++ ·) acc).size = acc.size + k * a.size := by
        intro k a
        induction k with
        | zero => intro acc; simp
        | succ k ih =>
          intro acc
          rw [List.replicate_succ, List.foldl_cons, ih, Array.size_append, Nat.succ_mul]
          omega
      show ((List.replicate n.toNat x.cps).foldl (· ++ ·) #[]).size ≤ _
      rw [aux]
      simp
      rw [Nat.mul_comm]
      exact Nat.le_refl _
theorem cat_len (x y : Str) : (x ++ y).length = x.length + y.length := by
  show (x.cps ++ y.cps).size = _
  rw [Array.size_append]
  rfl
end L4
namespace Tn
def place (m : Nat) (r : List Nat) : Nat := r.foldl (fun p x => p * m + x) 0
theorem place_snoc (m : Nat) (r : List Nat) (x : Nat) : place m (r ++ [x]) = place m r * m + x := by
  unfold place
  rw [List.foldl_append]
  rfl
def pls (m : Nat) (gs : List Nat) : Nat → List Nat
  | 0 => [0]
  | k + 1 => (pls m gs k).flatMap fun p => gs.map fun g => p * m + g
theorem flat_get {α β : Type} (f : α → List β) (b : Nat) (hf : ∀ x, (f x).length = b) : ∀ (xs : List α) (i j : Nat) (x : α), xs[i]? = some x → j < b → (xs.flatMap f)[i * b + j]? = (f x)[j]?
  | [], i, j, x, h, _ => by simp at h
  | y :: ys, 0, j, x, h, hj => by
    have e : y = x := by simpa using h
    subst e
    rw [List.flatMap_cons, Nat.zero_mul, Nat.zero_add, List.getElem?_append_left (by rw [hf]; exact hj)]
  | y :: ys, i + 1, j, x, h, hj => by
    have h' : ys[i]? = some x := by simpa using h
    have e : (i + 1) * b + j = (f y).length + (i * b + j) := by rw [hf, Nat.succ_mul]; omega
    rw [List.flatMap_cons, e, List.getElem?_append_right (by omega), Nat.add_sub_cancel_left]
    exact flat_get f b hf ys i j x h' hj
theorem flat_len {α β : Type} (f : α → List β) (b : Nat) (hf : ∀ x, (f x).length = b) : ∀ (xs : List α), (xs.flatMap f).length = xs.length * b
  | [] => by simp
  | y :: ys => by rw [List.flatMap_cons, List.length_append, hf, flat_len f b hf ys, List.length_cons, Nat.succ_mul]; omega
theorem pls_len (m : Nat) (gs : List Nat) : ∀ k, (pls m gs k).length = gs.length ^ k
  | 0 => rfl
  | k + 1 => by
    show ((pls m gs k).flatMap fun p => gs.map fun g => p * m + g).length = _
    rw [flat_len _ gs.length (fun x => by rw [List.length_map]), pls_len m gs k, Nat.pow_succ]
def Rw (m k : Nat) (r : List Nat) : Prop := r.length = k ∧ ∀ x ∈ r, x < m
theorem place_lt {m : Nat} : ∀ (k : Nat) (r : List Nat), Rw m k r → place m r < m ^ k := by
  intro k
  induction k with
  | zero =>
    intro r h
    have : r = [] := List.length_eq_zero_iff.mp h.1
    subst this
    show 0 < m ^ 0
    rw [Nat.pow_zero]
    decide
  | succ k ih =>
    intro r h
    obtain ⟨h1, h2⟩ := h
    have hne : r ≠ [] := by intro z; rw [z] at h1; cases h1
    have e := List.dropLast_concat_getLast hne
    have hr : Rw m k r.dropLast := ⟨by rw [List.length_dropLast, h1]; rfl, fun x hx => h2 x ((List.dropLast_sublist r).subset hx)⟩
    have h3 := ih _ hr
    have h4 := h2 (r.getLast hne) (List.getLast_mem hne)
    rw [← e, place_snoc, Nat.pow_succ]
    have h5 : (place m r.dropLast + 1) * m ≤ m ^ k * m := Nat.mul_le_mul_right m h3
    rw [Nat.succ_mul] at h5
    omega
theorem row_of {m : Nat} : ∀ (k p : Nat), p < m ^ k → ∃ r, Rw m k r ∧ place m r = p := by
  intro k
  induction k with
  | zero =>
    intro p hp
    have : p = 0 := by simpa using hp
    exact ⟨[], ⟨rfl, fun x hx => by cases hx⟩, this.symm⟩
  | succ k ih =>
    intro p hp
    have hm : 0 < m := by
      rcases Nat.eq_zero_or_pos m with z | z
      · rw [z, Nat.pow_succ, Nat.mul_zero] at hp
        omega
      · exact z
    have hq : p / m < m ^ k := by
      rw [Nat.div_lt_iff_lt_mul hm, ← Nat.pow_succ]
      exact hp
    obtain ⟨r, ⟨h1, h2⟩, h3⟩ := ih (p / m) hq
    refine ⟨r ++ [p % m], ⟨by rw [List.length_append, h1]; rfl, fun x hx => ?_⟩, ?_⟩
    · rcases List.mem_append.mp hx with h | h
      · exact h2 x h
      · rw [List.mem_singleton.mp h]
        exact Nat.mod_lt _ hm
    · rw [place_snoc, h3, Nat.mul_comm]
      exact Nat.div_add_mod p m
theorem pls_get {m : Nat} {gs : List Nat} (hg : gs.length = m) : ∀ (k : Nat) (r : List Nat), Rw m k r → (pls m gs k)[place m r]? = some (place m (r.map fun x => gs.getD x 0)) := by
  intro k
  induction k with
  | zero =>
    intro r h
    have : r = [] := List.length_eq_zero_iff.mp h.1
    subst this
    rfl
  | succ k ih =>
    intro r h
    obtain ⟨h1, h2⟩ := h
    have hne : r ≠ [] := by intro z; rw [z] at h1; cases h1
    have e := List.dropLast_concat_getLast hne
    have hr : Rw m k r.dropLast := ⟨by rw [List.length_dropLast, h1]; rfl, fun x hx => h2 x ((List.dropLast_sublist r).subset hx)⟩
    have h3 := ih _ hr
    have h4 := h2 (r.getLast hne) (List.getLast_mem hne)
    rw [← e, place_snoc, List.map_append, List.map_cons, List.map_nil, place_snoc]
    show ((pls m gs k).flatMap fun p => gs.map fun g => p * m + g)[_]? = _
    rw [flat_get _ m (fun x => by rw [List.length_map, hg]) _ _ _ _ h3 h4, List.getElem?_map]
    have e2 : gs[r.getLast hne]? = some (gs.getD (r.getLast hne) 0) := by
      rw [List.getD_eq_getElem?_getD, List.getElem?_eq_getElem (by omega)]
      rfl
    rw [e2]
    rfl
structure Or (m : Nat) (o : List Nat) : Prop where
  len : o.length = m
  lt : ∀ x ∈ o, x < m
  nd : o.Nodup
def at' (o : List Nat) (i : Nat) : Nat := o.getD i 0
theorem Or.at_mem {m : Nat} {o : List Nat} (h : Or m o) {i : Nat} (hi : i < m) : o[i]? = some (at' o i) := by
  unfold at'
  rw [List.getD_eq_getElem?_getD, List.getElem?_eq_getElem (by rw [h.len]; exact hi)]
  rfl
theorem Or.at_lt {m : Nat} {o : List Nat} (h : Or m o) {i : Nat} (hi : i < m) : at' o i < m := h.lt _ (List.mem_of_getElem? (h.at_mem hi))
theorem nodup_len : ∀ (m : Nat) (xs : List Nat), xs.Nodup → (∀ x ∈ xs, x < m) → xs.length ≤ m
  | 0, [], _, _ => Nat.le_refl _
  | 0, x :: xs, _, h => absurd (h x (List.mem_cons_self ..)) (Nat.not_lt_zero _)
  | m + 1, xs, nd, h => by
    have h1 := nodup_len m (xs.erase m) (nd.erase m) fun x hx => by
      obtain ⟨ne, hm⟩ := nd.mem_erase_iff.mp hx
      have := h x hm
      omega
    by_cases hm : m ∈ xs
    · rw [List.length_erase_of_mem hm] at h1
      omega
    · rw [List.erase_of_not_mem hm] at h1
      omega
def inv (m : Nat) (o : List Nat) : List Nat := (List.range m).map fun i => o.idxOf i
theorem Or.mem {m : Nat} {o : List Nat} (h : Or m o) {i : Nat} (hi : i < m) : i ∈ o := by
  refine Classical.byContradiction fun hn => ?_
  have := nodup_len m (i :: o) (List.nodup_cons.mpr ⟨hn, h.nd⟩) fun x hx => by
    rcases List.mem_cons.mp hx with rfl | hx
    · exact hi
    · exact h.lt x hx
  rw [List.length_cons, h.len] at this
  omega
theorem inv_at {m : Nat} {o : List Nat} {i : Nat} (hi : i < m) : at' (inv m o) i = o.idxOf i := by
  unfold at' inv
  rw [List.getD_eq_getElem?_getD, List.getElem?_map, List.getElem?_range hi]
  rfl
theorem Or.inv_l {m : Nat} {o : List Nat} (h : Or m o) {i : Nat} (hi : i < m) : at' o (at' (inv m o) i) = i := by
  rw [inv_at hi]
  have hm := h.mem hi
  unfold at'
  rw [List.getD_eq_getElem?_getD, List.getElem?_eq_getElem (List.idxOf_lt_length_of_mem hm), List.getElem_idxOf]
  rfl
theorem Or.inv_lt {m : Nat} {o : List Nat} (h : Or m o) {i : Nat} (hi : i < m) : at' (inv m o) i < m := by
  rw [inv_at hi, ← h.len]
  exact List.idxOf_lt_length_of_mem (h.mem hi)
theorem Or.inv_r {m : Nat} {o : List Nat} (h : Or m o) {i : Nat} (hi : i < m) : at' (inv m o) (at' o i) = i := by
  rw [inv_at (h.at_lt hi)]
  have e := h.at_mem hi
  have hl : i < o.length := by rw [h.len]; exact hi
  have e2 : at' o i = o[i] := by
    rw [List.getElem?_eq_getElem hl] at e
    exact (Option.some.inj e).symm
  rw [e2]
  exact h.nd.idxOf_getElem i hl
theorem inv_len (m : Nat) (o : List Nat) : (inv m o).length = m := by unfold inv; rw [List.length_map, List.length_range]
theorem ext_at {m : Nat} {a b : List Nat} (ha : a.length = m) (hb : b.length = m) (h : ∀ i, i < m → at' a i = at' b i) : a = b := by
  refine List.ext_getElem (by omega) fun i h1 h2 => ?_
  have := h i (by omega)
  unfold at' at this
  rw [List.getD_eq_getElem?_getD, List.getD_eq_getElem?_getD, List.getElem?_eq_getElem h1, List.getElem?_eq_getElem h2] at this
  exact this
theorem Or.inv {m : Nat} {o : List Nat} (h : Or m o) : Or m (inv m o) := by
  refine ⟨inv_len m o, fun x hx => ?_, ?_⟩
  · obtain ⟨i, hi, e⟩ := List.mem_map.mp hx
    have := h.inv_lt (List.mem_range.mp hi)
    rw [inv_at (List.mem_range.mp hi), e] at this
    exact this
  · unfold Tn.inv
    rw [List.nodup_iff_pairwise_ne, List.pairwise_map]
    refine List.Pairwise.imp_of_mem ?_ (List.nodup_iff_pairwise_ne.mp List.nodup_range)
    intro a b ha hb ne e
    apply ne
    have h1 := h.inv_l (List.mem_range.mp ha)
    have h2 := h.inv_l (List.mem_range.mp hb)
    rw [inv_at (List.mem_range.mp ha)] at h1
    rw [inv_at (List.mem_range.mp hb)] at h2
    rw [← h1, ← h2, e]
theorem Or.inv_inv {m : Nat} {o : List Nat} (h : Or m o) : Tn.inv m (Tn.inv m o) = o := by
  refine ext_at (inv_len _ _) h.len fun i hi => ?_
  have h1 := h.inv.inv_l hi
  have h2 : at' (Tn.inv m (Tn.inv m o)) i < m := h.inv.inv_lt hi
  rw [← h.inv_l h2, h1]
def tc (m : Nat) (o : List Nat) (k : Nat) (cs : List Nat) : List Nat := (pls m (inv m o) k).map fun p => at' o (at' cs p)
theorem tc_len (m : Nat) (o : List Nat) (k : Nat) (cs : List Nat) : (tc m o k cs).length = m ^ k := by
  unfold tc
  rw [List.length_map, pls_len, inv_len]
theorem tc_at {m : Nat} {o : List Nat} {k : Nat} {cs : List Nat} {r : List Nat} (hr : Rw m k r) : at' (tc m o k cs) (place m r) = at' o (at' cs (place m (r.map (at' (inv m o))))) := by
  have e := pls_get (inv_len m o) k r hr
  unfold at' tc
  rw [List.getD_eq_getElem?_getD, List.getElem?_map, e]
  rfl
structure Cs (m k : Nat) (cs : List Nat) : Prop where
  len : cs.length = m ^ k
  lt : ∀ x ∈ cs, x < m
theorem Cs.at_lt {m k : Nat} {cs : List Nat} (h : Cs m k cs) {p : Nat} (hp : p < m ^ k) : at' cs p < m := by
  unfold at'
  rw [List.getD_eq_getElem?_getD, List.getElem?_eq_getElem (by rw [h.len]; exact hp)]
  exact h.lt _ (List.getElem_mem _)
theorem Rw.map {m k : Nat} {r : List Nat} {f : Nat → Nat} (h : Rw m k r) (hf : ∀ x, x < m → f x < m) : Rw m k (r.map f) := ⟨by rw [List.length_map]; exact h.1, fun x hx => by
  obtain ⟨y, hy, e⟩ := List.mem_map.mp hx
  rw [← e]
  exact hf y (h.2 y hy)⟩
theorem ext_cs {m k : Nat} {a b : List Nat} (ha : a.length = m ^ k) (hb : b.length = m ^ k) (h : ∀ r, Rw m k r → at' a (place m r) = at' b (place m r)) : a = b :=
  ext_at ha hb fun i hi => by
    obtain ⟨r, hr, e⟩ := row_of k i hi
    rw [← e]
    exact h r hr
theorem map_inv {m : Nat} {r : List Nat} {f g : Nat → Nat} (h : ∀ x ∈ r, g (f x) = x) : (r.map f).map g = r := by
  rw [List.map_map]
  conv => rhs; rw [← List.map_id r]
  exact List.map_congr_left fun x hx => h x hx
theorem tc_cs {m k : Nat} {o cs : List Nat} (h : Or m o) (c : Cs m k cs) : Cs m k (tc m o k cs) := ⟨tc_len .., fun x hx => by
  obtain ⟨i, hi⟩ := List.getElem?_of_mem hx
  have hl : i < m ^ k := by
    have := (List.getElem?_eq_some_iff.mp hi).1
    rw [tc_len] at this
    exact this
  obtain ⟨r, hr, e⟩ := row_of k i hl
  have e2 : at' (tc m o k cs) i = x := by
    unfold at'
    rw [List.getD_eq_getElem?_getD, hi]
    rfl
  rw [← e2, ← e, tc_at hr]
  exact h.at_lt (c.at_lt (place_lt k _ (hr.map fun x hx => h.inv_lt hx)))⟩
theorem tc_row {m k : Nat} {o cs r : List Nat} (h : Or m o) (hr : Rw m k r) : at' (tc m o k cs) (place m (r.map (at' o))) = at' o (at' cs (place m r)) := by
  rw [tc_at (hr.map fun x hx => h.at_lt hx), map_inv (m := m) fun x hx => h.inv_r (hr.2 x hx)]
theorem tc_back {m k : Nat} {o cs : List Nat} (h : Or m o) (c : Cs m k cs) : tc m (inv m o) k (tc m o k cs) = cs := by
  refine ext_cs (tc_len ..) c.len fun r hr => ?_
  rw [tc_at hr, h.inv_inv, tc_row h hr]
  exact h.inv_r (c.at_lt (place_lt k _ hr))
def tw (m : Nat) (o ws : List Nat) : List Nat := (List.range m).filter fun i => decide (at' (inv m o) i ∈ ws)
theorem tw_mem {m : Nat} {o ws : List Nat} {i : Nat} : i ∈ tw m o ws ↔ i < m ∧ at' (inv m o) i ∈ ws := by
  unfold tw
  rw [List.mem_filter, List.mem_range, decide_eq_true_iff]
theorem sub_range {m : Nat} {ws : List Nat} (hs : ws.Pairwise (· < ·)) (hl : ∀ x ∈ ws, x < m) : (List.range m).filter (fun i => decide (i ∈ ws)) = ws := by
  have h1 : ((List.range m).filter (fun i => decide (i ∈ ws))).Pairwise (· < ·) := List.Pairwise.filter _ List.pairwise_lt_range
  refine List.Perm.eq_of_pairwise (le := (· < ·)) (fun a b _ _ x y => absurd x (Nat.lt_asymm y)) h1 hs ?_
  refine (List.perm_ext_iff_of_nodup ?_ ?_).mpr fun a => ?_
  · exact h1.imp fun h => Nat.ne_of_lt h
  · exact hs.imp fun h => Nat.ne_of_lt h
  · rw [List.mem_filter, List.mem_range, decide_eq_true_iff]
    exact ⟨fun h => h.2, fun h => ⟨hl a h, h⟩⟩
theorem tw_ris (m : Nat) (o ws : List Nat) : (tw m o ws).Pairwise (· < ·) := List.Pairwise.filter _ List.pairwise_lt_range
theorem tw_sorted {m : Nat} {o ws ms : List Nat} (h : Or m o) (hs : ws.Pairwise (· < ·)) (hl : ∀ x ∈ ws, x < m) (hp : ms.Perm (ws.map (at' o))) (hm : ms.Pairwise (· ≤ ·)) : tw m o ws = ms := by
  have nd : (ws.map (at' o)).Nodup := by
    rw [List.nodup_iff_pairwise_ne, List.pairwise_map]
    refine List.Pairwise.imp_of_mem ?_ hs
    intro a b ha hb lt e
    have e2 := congrArg (at' (inv m o)) e
    rw [h.inv_r (hl a ha), h.inv_r (hl b hb)] at e2
    omega
  have h1 : (tw m o ws).Pairwise (· ≤ ·) := (tw_ris m o ws).imp fun h => Nat.le_of_lt h
  refine List.Perm.eq_of_pairwise (le := (· ≤ ·)) (fun a b _ _ x y => Nat.le_antisymm x y) h1 hm ?_
  refine List.Perm.trans ?_ hp.symm
  refine (List.perm_ext_iff_of_nodup ((tw_ris m o ws).imp fun h => Nat.ne_of_lt h) nd).mpr fun a => ?_
  rw [tw_mem, List.mem_map]
  constructor
  · rintro ⟨h2, h3⟩
    exact ⟨_, h3, h.inv_l h2⟩
  · rintro ⟨b, hb, rfl⟩
    exact ⟨h.at_lt (hl b hb), by rw [h.inv_r (hl b hb)]; exact hb⟩
theorem tw_congr {m : Nat} {f g : Nat → Bool} (h : ∀ i, i < m → f i = g i) : (List.range m).filter f = (List.range m).filter g := List.filter_congr fun i hi => h i (List.mem_range.mp hi)
theorem tw_back {m : Nat} {o ws : List Nat} (h : Or m o) (hs : ws.Pairwise (· < ·)) (hl : ∀ x ∈ ws, x < m) : tw m (inv m o) (tw m o ws) = ws := by
  rw [← sub_range hs hl]
  unfold tw
  refine tw_congr fun i hi => ?_
  rw [h.inv_inv]
  refine decide_eq_decide.mpr ?_
  rw [← tw, tw_mem, h.inv_r hi, sub_range hs hl]
  exact ⟨fun z => z.2, fun z => ⟨h.at_lt hi, z⟩⟩
end Tn
namespace L2
open PySem PySem.Spec PyProof.Rows
section
variable {prog : Program} {w : World} {A : Around} {E : Value → Shared → Prop} {s : Shared}
variable {z TI TO i1 i2 t1 t2 : Addr} {xs ys : Array Value} {k1 k2 : Nat}
end
end L2
namespace L2
open PySem PySem.Spec PyProof.Rows
section
variable {X : Cx}
end
end L2
namespace L2
open PySem PySem.Spec PyProof.Rows
section
variable {X : Cx}
end
end L2
namespace Tn
def rowsR (n : Nat) : Nat → List (List Nat)
  | 0 => [[]]
  | 1 => (List.range n).map fun i => [i]
  | 2 => (List.range (n * n)).map fun i => [i / n, i % n]
  | _ => []
theorem rows_rw {n : Nat} : ∀ {k : Nat}, ∀ r ∈ rowsR n k, Rw n k r
  | 0, r, h => by
    rw [List.mem_singleton.mp h]
    exact ⟨rfl, fun x hx => by cases hx⟩
  | 1, r, h => by
    obtain ⟨i, hi, rfl⟩ := List.mem_map.mp h
    exact ⟨rfl, fun x hx => by rw [List.mem_singleton.mp hx]; exact List.mem_range.mp hi⟩
  | 2, r, h => by
    obtain ⟨i, hi, rfl⟩ := List.mem_map.mp h
    have hi := List.mem_range.mp hi
    have mp : 0 < n := by
      rcases Nat.eq_zero_or_pos n with z | z
      · rw [z] at hi
        omega
      · exact z
    refine ⟨rfl, fun x hx => ?_⟩
    rcases List.mem_cons.mp hx with h | h
    · rw [h]
      exact (Nat.div_lt_iff_lt_mul mp).mpr hi
    · rw [List.mem_singleton.mp h]
      exact Nat.mod_lt _ mp
  | k + 3, r, h => by cases h
theorem at_map {gs : List Nat} {i : Nat} (hi : i < gs.length) : gs[i]? = some (at' gs i) := by
  unfold at'
  rw [List.getD_eq_getElem?_getD, List.getElem?_eq_getElem hi]
  rfl
theorem pls_rows {m : Nat} {gs : List Nat} : ∀ {k : Nat}, k ≤ 2 → pls m gs k = (rowsR gs.length k).map fun r => place m (r.map (at' gs))
  | 0, _ => rfl
  | 1, _ => by
    show ([0].flatMap fun p => gs.map fun g => p * m + g) = ((List.range gs.length).map fun i => [i]).map _
    rw [List.map_map]
    refine List.ext_getElem? fun i => ?_
    simp only [List.flatMap_cons, List.flatMap_nil, List.append_nil]
    rw [List.getElem?_map, List.getElem?_map]
    by_cases hi : i < gs.length
    · rw [at_map hi, List.getElem?_range hi]
      rfl
    · rw [List.getElem?_eq_none (by omega), List.getElem?_eq_none (by rw [List.length_range]; omega)]
      rfl
  | 2, _ => by
    have e1 : pls m gs 1 = gs.map fun g => 0 * m + g := by
      show ([0].flatMap fun p => gs.map fun g => p * m + g) = _
      simp
    show ((pls m gs 1).flatMap fun p => gs.map fun g => p * m + g) = ((List.range (gs.length * gs.length)).map fun i => [i / gs.length, i % gs.length]).map _
    rw [List.map_map]
    refine List.ext_getElem? fun i => ?_
    rw [List.getElem?_map]
    have fl : ((pls m gs 1).flatMap fun p => gs.map fun g => p * m + g).length = gs.length * gs.length := by
      rw [flat_len _ gs.length (fun x => by rw [List.length_map]), e1, List.length_map]
    by_cases hi : i < gs.length * gs.length
    · have np : 0 < gs.length := by
        rcases Nat.eq_zero_or_pos gs.length with z | z
        · rw [z] at hi
          omega
        · exact z
      have h1 : i / gs.length < gs.length := (Nat.div_lt_iff_lt_mul np).mpr hi
      have h2 : i % gs.length < gs.length := Nat.mod_lt _ np
      have e2 : (pls m gs 1)[i / gs.length]? = some (0 * m + at' gs (i / gs.length)) := by
        rw [e1, List.getElem?_map, at_map h1]
        rfl
      have e3 := flat_get (fun p => gs.map fun g => p * m + g) gs.length (fun x => by rw [List.length_map]) (pls m gs 1) (i / gs.length) (i % gs.length) _ e2 h2
      have e4 : i / gs.length * gs.length + i % gs.length = i := by
        rw [Nat.mul_comm]
        exact Nat.div_add_mod i gs.length
      rw [e4] at e3
      rw [e3, List.getElem?_map, at_map h2, List.getElem?_range hi]
      rfl
    · rw [List.getElem?_eq_none (by omega), List.getElem?_eq_none (by rw [List.length_range]; omega)]
      rfl
  | k + 3, h => by omega
end Tn
namespace L2
open PySem PySem.Spec PyProof.Rows
section
variable {X : Cx}
theorem kslT (K : PySem.W.Frag) (hK : X.K = K := by rfl) : SlR X (fun x lo hi H Q => rSlT K x lo hi H Q ∨ rSlTW K x lo hi H Q) := by
  subst hK
  exact sl_tup.or sl_tupW
end
theorem comp_tt3m {K : PySem.W.Frag} {a : Addr} {n : Nat} {xs : List V} {ad : Nat → Addr} {v1 v2 v3 : Nat → V} {tt : TT} {te : TE} {H1 : Hp} {Q : VK} {D : Addr} {more : St} (P : Nat → List V → Hp → Prop) (h0 : P 0 [] (upd H1 D (.lst []))) (hn : xs.length = n) (hx : ∀ i, i < n → xs[i]? = some (.ref (ad i)))
    (hl : ∀ i ys H, P i ys H → H D = some (.lst ys) → SqT K H a xs) (ht : ∀ i ys H, i < n → P i ys H → SqT K H (ad i) [v1 i, v2 i, v3 i])
    (hs : ∀ i ys H, i < n → P i ys H → H D = some (.lst ys) → tt (some (v1 i) :: some (v2 i) :: some (v3 i) :: more) H fun b H4 => if b = true then te (some (v1 i) :: some (v2 i) :: some (v3 i) :: more) H4 (cYes (fun σ => ∃ x y z, σ = x :: y :: z :: more) P n D (some (v1 i) :: some (v2 i) :: some (v3 i) :: more) i) else cNo (fun σ => ∃ x y z, σ = x :: y :: z :: more) P n D (some (v1 i) :: some (v2 i) :: some (v3 i) :: more) i H4)
    (hd : ∀ ys H, P n ys H → H D = some (.lst ys) → Q (.ref D) H) :
    CompGo (Itt K a) (gTup K 3 (gCons (gName 0) (gCons (gName 1) (gCons (gName 2) gNil)))) tt te (none :: none :: none :: more) H1 Q D := by
  refine comp_gen (xv := fun i => .ref (ad i)) (st := fun i => some (v1 i) :: some (v2 i) :: some (v3 i) :: more) (fun σ => ∃ x y z, σ = x :: y :: z :: more) P ⟨_, _, _, rfl⟩ h0 (fun i ys H hi p hD => ⟨⟨xs, _, hl i ys H p hD, hx i hi⟩, fun x H2 y => ⟨y.1, ?_⟩⟩) (fun ys H p hD => ⟨xs, hl _ ys H p hD, Nat.le_of_eq hn⟩)
    (fun i ys σ' H K' hi r p k => ?_) hs hd
  · have e := y.2 xs (hl i ys H p hD)
    rw [hx i hi] at e
    exact (Option.some.inj e).symm
  · obtain ⟨x, y, z, rfl⟩ := r
    exact ⟨ad i, _, rfl, ht i ys H hi p, rfl, _, _, rfl, _, _, rfl, _, _, rfl, rfl, k⟩
end L2
namespace L2
open PySem PySem.Spec PyProof.Rows
section
variable {X : Cx}
end
end L2
namespace L2
open PySem PySem.Spec PyProof.Rows
section
variable {κ : Type} [DecidableEq κ]
def valV (kvs : List (κ × V)) (k : κ) : Option V := (kvs.find? fun kv => decide (kv.1 = k)).map (·.2)
def putK (kvs : List (κ × V)) (k : κ) (v : V) : List (κ × V) :=
  if (kvs.any fun kv => decide (kv.1 = k)) = true then kvs.map (fun kv => if kv.1 = k then (kv.1, v) else kv) else kvs ++ [(k, v)]
theorem valV_pos {p : κ × V} {r : List (κ × V)} {k : κ} (e : p.1 = k) : valV (p :: r) k = some p.2 := by simp [valV, List.find?_cons, e]
theorem valV_neg {p : κ × V} {r : List (κ × V)} {k : κ} (e : ¬ p.1 = k) : valV (p :: r) k = valV r k := by simp [valV, List.find?_cons, e]
theorem valV_any (k : κ) : ∀ kvs : List (κ × V), (kvs.any fun kv => decide (kv.1 = k)) = (valV kvs k).isSome
  | [] => rfl
  | p :: r => by
    rw [List.any_cons]
    by_cases e : p.1 = k
    · simp only [valV_pos e, decide_eq_true e, Bool.true_or, Option.isSome_some]
    · rw [valV_neg e, decide_eq_false e, Bool.false_or]; exact valV_any k r
theorem valV_map (k j : κ) (y : V) : ∀ kvs : List (κ × V), valV (kvs.map fun kv => if kv.1 = k then (kv.1, y) else kv) j = (valV kvs j).map fun x => if j = k then y else x
  | [] => rfl
  | p :: r => by
    have ih := valV_map k j y r
    rw [List.map_cons]
    by_cases h : p.1 = k
    · rw [if_pos h]
      by_cases e : p.1 = j
      · rw [valV_pos (p := (p.1, y)) e, valV_pos e, Option.map_some, if_pos (e.symm.trans h)]
      · rw [valV_neg (p := (p.1, y)) e, valV_neg e, ih]
    · rw [if_neg h]
      by_cases e : p.1 = j
      · rw [valV_pos (p := p) e, valV_pos e, Option.map_some, if_neg (fun z => h (e.trans z))]
      · rw [valV_neg (p := p) e, valV_neg e, ih]
theorem valV_snoc (k j : κ) (y : V) : ∀ kvs : List (κ × V), valV kvs k = none → valV (kvs ++ [(k, y)]) j = if j = k then some y else valV kvs j
  | [], _ => by
    by_cases e : k = j
    · rw [if_pos e.symm]; exact valV_pos (p := (k, y)) e
    · rw [if_neg (fun z => e z.symm)]; exact valV_neg (p := (k, y)) e
  | p :: r, hn => by
    rw [List.cons_append]
    have hk : ¬ p.1 = k := fun z => by rw [valV_pos z] at hn; cases hn
    rw [valV_neg hk] at hn
    have ih := valV_snoc k j y r hn
    by_cases e : p.1 = j
    · rw [valV_pos e, valV_pos e, if_neg (fun z => hk (e.trans z))]
    · rw [valV_neg e, valV_neg e, ih]
theorem valV_put (kvs : List (κ × V)) (k j : κ) (y : V) : valV (putK kvs k y) j = if j = k then some y else valV kvs j := by
  unfold putK
  by_cases a : (kvs.any fun kv => decide (kv.1 = k)) = true
  · rw [if_pos a, valV_map]
    rw [valV_any] at a
    by_cases e : j = k
    · obtain ⟨x, hx⟩ := Option.isSome_iff_exists.mp a
      rw [if_pos e, e, hx, Option.map_some, if_pos rfl]
    · rw [if_neg e]
      cases valV kvs j with
      | none => rfl
      | some x => rw [Option.map_some, if_neg e]
  · rw [if_neg a]
    refine valV_snoc k j y kvs ?_
    rw [valV_any] at a
    cases q : valV kvs k with
    | none => rfl
    | some x => rw [q] at a; exact (a rfl).elim
theorem length_putK (kvs : List (κ × V)) (k : κ) (v : V) : (putK kvs k v).length ≤ kvs.length + 1 := by
  unfold putK
  split
  · rw [List.length_map]; omega
  · rw [List.length_append, List.length_cons, List.length_nil]; omega
theorem putK_new {kvs : List (κ × V)} {k : κ} (v : V) (h : valV kvs k = none) : putK kvs k v = kvs ++ [(k, v)] := by
  unfold putK
  rw [valV_any, h]
  exact if_neg (by decide)
theorem RelO.isSome_eq {o : Option V} {u : Option Value} (r : RelO o u) : o.isSome = u.isSome := by
  cases o with
  | none => cases u with
    | none => rfl
    | some _ => exact (show False from r).elim
  | some _ => cases u with
    | none => exact (show False from r).elim
    | some _ => rfl
theorem KV.val {kvs : List (κ × V)} {vs : List (κ × Value)} (r : KV kvs vs) (k : κ) : RelO (valV kvs k) (valueAt vs k) := by
  unfold KV at r
  induction r with
  | nil => exact True.intro
  | @cons p q ps qs h t ih =>
    obtain ⟨h1, h2⟩ := h
    by_cases e : p.1 = k
    · have e' : q.1 = k := h1.symm.trans e
      have b : valueAt (q :: qs) k = some q.2 := by simp [valueAt, List.find?_cons, e']
      rw [valV_pos e, b]; exact h2
    · have e' : ¬ q.1 = k := fun z => e (h1.trans z)
      have b : valueAt (q :: qs) k = valueAt qs k := by simp [valueAt, List.find?_cons, e']
      rw [valV_neg e, b]; exact ih
theorem KV.any {kvs : List (κ × V)} {vs : List (κ × Value)} (r : KV kvs vs) (k : κ) : (kvs.any fun kv => decide (kv.1 = k)) = vs.any fun kv => decide (kv.1 = k) := by
  unfold KV at r
  induction r with
  | nil => rfl
  | cons h t ih => rw [List.any_cons, List.any_cons, ih, h.1]
theorem KV.repl {kvs : List (κ × V)} {vs : List (κ × Value)} (r : KV kvs vs) (k : κ) {y : V} {u : Value} (ry : RelV y u) :
    KV (kvs.map fun kv => if kv.1 = k then (kv.1, y) else kv) (vs.map fun kv => if kv.1 = k then (kv.1, u) else kv) := by
  unfold KV at r ⊢
  induction r with
  | nil => exact .nil
  | @cons p q ps qs h t ih =>
    rw [List.map_cons, List.map_cons]
    refine .cons ?_ ih
    obtain ⟨h1, h2⟩ := h
    by_cases e : p.1 = k
    · rw [if_pos e, if_pos (h1.symm.trans e)]; exact ⟨h1, ry⟩
    · rw [if_neg e, if_neg (fun z => e (h1.trans z))]; exact ⟨h1, h2⟩
theorem KV.put {kvs : List (κ × V)} {vs : List (κ × Value)} (r : KV kvs vs) (k : κ) {y : V} {u : Value} (ry : RelV y u) : KV (putK kvs k y) (stored vs k u) := by
  unfold putK stored
  rw [r.any k]
  by_cases e : (vs.any fun kv => decide (kv.1 = k)) = true
  · rw [if_pos e, if_pos e]; exact r.repl k ry
  · rw [if_neg e, if_neg e]; exact Paired.snoc r ⟨rfl, ry⟩
theorem KV.keys {kvs : List (κ × V)} {vs : List (κ × Value)} (r : KV kvs vs) : kvs.map (·.1) = vs.map (·.1) := by
  unfold KV at r
  induction r with
  | nil => rfl
  | cons h t ih => rw [List.map_cons, List.map_cons, ih, h.1]
theorem KV.length {kvs : List (κ × V)} {vs : List (κ × Value)} (r : KV kvs vs) : kvs.length = vs.length := Paired.length r
end
theorem kV_is {P : Program} {w : World} {k : Key} {u : Value} (r : RelV (kV k) u) : (mixKind P w).is k u = true := by
  cases k with
  | inl i => obtain ⟨t, e⟩ := (show ∃ t, u = Value.int i t from r); subst e; exact mixKind_int P w i t
  | inr x => obtain ⟨t, e⟩ := (show ∃ t, u = Value.str x t from r); subst e; exact mixKind_str P w x t
theorem items_are {P : Program} {w : World} : ∀ {ks : List Key} {us : List Value}, Vals (ks.map kV) us → ItemsAre (mixKind P w) ks us
  | [], _, r => by rw [List.map_nil] at r; cases r; exact .nil
  | k :: ks, _, r => by
    rw [List.map_cons] at r
    cases r with
    | cons h t => exact .cons (kV_is h) (items_are t)
abbrev KT (H : Hp) : List (List Key × V) → List (List Key × Addr × Value) → Prop := Paired fun p q => p.1 = q.1 ∧ H q.2.1 = some (.tup (p.1.map kV)) ∧ RelV p.2 q.2.2
theorem KT.val {H : Hp} {kvs : List (List Key × V)} {xs : List (List Key × Addr × Value)} (r : KT H kvs xs) (k : List Key) : RelO (valV kvs k) ((atKey xs k).map (·.2)) := by
  induction r with
  | nil => exact True.intro
  | @cons p q ps qs h t ih =>
    obtain ⟨h1, _, h2⟩ := h
    by_cases e : p.1 = k
    · have e' : q.1 = k := h1.symm.trans e
      have b : atKey (q :: qs) k = some q.2 := by simp [atKey, List.find?_cons, e']
      rw [valV_pos e, b]; exact h2
    · have e' : ¬ q.1 = k := fun z => e (h1.trans z)
      have b : atKey (q :: qs) k = atKey qs k := by simp [atKey, List.find?_cons, e']
      rw [valV_neg e, b]; exact ih
theorem KT.repl {H : Hp} {kvs : List (List Key × V)} {xs : List (List Key × Addr × Value)} (r : KT H kvs xs) (k : List Key) {y : V} {u : Value} (ry : RelV y u) :
    KT H (kvs.map fun kv => if kv.1 = k then (kv.1, y) else kv) (xs.map (putAt k u)) := by
  induction r with
  | nil => exact .nil
  | @cons p q ps qs h t ih =>
    rw [List.map_cons, List.map_cons]
    refine .cons ?_ ih
    obtain ⟨h1, h2, h3⟩ := h
    unfold putAt
    by_cases e : p.1 = k
    · rw [if_pos e, if_pos (h1.symm.trans e)]; exact ⟨h1, h2, ry⟩
    · rw [if_neg e, if_neg (fun z => e (h1.trans z))]; exact ⟨h1, h2, h3⟩
theorem KT.put {H : Hp} {kvs : List (List Key × V)} {xs : List (List Key × Addr × Value)} (r : KT H kvs xs) (k : List Key) {b : Addr} {y : V} {u : Value} (hb : H b = some (.tup (k.map kV))) (ry : RelV y u) :
    KT H (putK kvs k y) (storedH xs k b u) := by
  have e : (kvs.any fun kv => decide (kv.1 = k)) = (atKey xs k).isSome := by
    rw [valV_any, (r.val k).isSome_eq, Option.isSome_map]
  unfold putK storedH
  rw [e]
  by_cases q : (atKey xs k).isSome = true
  · rw [if_pos q, if_pos q]; exact r.repl k ry
  · rw [if_neg q, if_neg q]; exact Paired.snoc r ⟨rfl, hb, ry⟩
theorem KT.keeps {H H' : Hp} {kvs : List (List Key × V)} {xs : List (List Key × Addr × Value)} (r : KT H kvs xs) (ht : ∀ b ys, H b = some (.tup ys) → H' b = some (.tup ys)) : KT H' kvs xs :=
  Paired.mapP r fun _ _ z => ⟨z.1, ht _ _ z.2.1, z.2.2⟩
section
variable {P : Program} {w : World} {H : Hp} {h : Heap} {a : Addr}
theorem rd_of {u : HO} (ok : HOk P w H h) (e : Rd H a u) : ObjOk P w H h a u := e.ok ok
theorem dk_rd {kvs : List (Key × V)} (ok : HOk P w H h) (e : Rd H a (.dK kvs)) : kvs.length ≤ sizeLine ∧ (a == sysModules) = false ∧ ∃ vs, KV kvs vs ∧ h.DictOf (mixKind P w) a vs :=
  show ObjOk P w H h a (.dK kvs) from rd_of ok e
theorem dk_of {kvs : List (Key × V)} (ok : HOk P w H h) (e : H a = some (.dK kvs)) : kvs.length ≤ sizeLine ∧ (a == sysModules) = false ∧ ∃ vs, KV kvs vs ∧ h.DictOf (mixKind P w) a vs := dk_rd ok (.inl e)
theorem key_of {ks : List Key} (ok : HOk P w H h) (e : H a = some (.tup (ks.map kV))) : (tupleKind (mixKind P w)).is h ks a := by
  obtain ⟨_, its, r, o, h1, h2, ⟨n, h3⟩, _⟩ := (show ObjOk P w H h a (.tup (ks.map kV)) from ok a _ e)
  exact ⟨o, its.toArray, n, h1, h2, h3, by simpa using items_are r⟩
theorem dt_rd {kvs : List (List Key × V)} (ok : HOk P w H h) (e : Rd H a (.dT kvs)) : kvs.length ≤ sizeLine ∧ (a == sysModules) = false ∧
    ∃ xs, KT H kvs xs ∧ h.DictOfH (tupleKind (mixKind P w)) a xs := by
  obtain ⟨z, y, xs, r, o, es, ep, h1, h2, h3, h4, h5⟩ := (show ObjOk P w H h a (.dT kvs) from rd_of ok e)
  refine ⟨z, y, xs, r, o, es, ep, h1, h2, h3, h4, fun x hx => ?_, h5⟩
  have all : ∀ {l : List (List Key × V)} {m : List (List Key × Addr × Value)}, KT H l m → ∀ x ∈ m, (tupleKind (mixKind P w)).is h x.1 x.2.1 := by
    intro l m q
    induction q with
    | nil => intro x hx; exact nomatch hx
    | @cons p q ps qs hq t ih =>
      intro x hx
      rcases List.mem_cons.mp hx with e | hx
      · subst e
        exact key_of ok (by rw [← hq.1]; exact hq.2.1)
      · exact ih x hx
  exact all r x hx
theorem dt_of {kvs : List (List Key × V)} (ok : HOk P w H h) (e : H a = some (.dT kvs)) : kvs.length ≤ sizeLine ∧ (a == sysModules) = false ∧
    ∃ xs, KT H kvs xs ∧ h.DictOfH (tupleKind (mixKind P w)) a xs := dt_rd ok (.inl e)
end
def DGet (H : Hp) (a : Addr) (y : V) (r : Option V) : Prop :=
  (∃ kvs k, Rd H a (.dK kvs) ∧ y = kV k ∧ r = valV kvs k) ∨ ∃ kvs k b, Rd H a (.dT kvs) ∧ y = .ref b ∧ H b = some (.tup (k.map kV)) ∧ r = valV kvs k
def DPut (H : Hp) (a : Addr) (y v : V) (H' : Hp) : Prop :=
  (∃ kvs k, H a = some (.dK kvs) ∧ y = kV k ∧ kvs.length < sizeLine ∧ H' = upd H a (.dK (putK kvs k v))) ∨
  ∃ kvs k b, H a = some (.dT kvs) ∧ y = .ref b ∧ H b = some (.tup (k.map kV)) ∧ kvs.length < sizeLine ∧ H' = upd H a (.dT (putK kvs k v))
theorem DGet.k {H : Hp} {a : Addr} {kvs : List (Key × V)} {k : Key} (e : H a = some (.dK kvs)) : DGet H a (kV k) (valV kvs k) := .inl ⟨kvs, k, .inl e, rfl, rfl⟩
theorem DGet.t {H : Hp} {a b : Addr} {kvs : List (List Key × V)} {k : List Key} (e : H a = some (.dT kvs)) (eb : H b = some (.tup (k.map kV))) : DGet H a (.ref b) (valV kvs k) := .inr ⟨kvs, k, b, .inl e, rfl, eb, rfl⟩
theorem DPut.k {H : Hp} {a : Addr} {kvs : List (Key × V)} {k : Key} {v : V} (e : H a = some (.dK kvs)) (hl : kvs.length < sizeLine) : DPut H a (kV k) v (upd H a (.dK (putK kvs k v))) := .inl ⟨kvs, k, e, rfl, hl, rfl⟩
theorem DPut.t {H : Hp} {a b : Addr} {kvs : List (List Key × V)} {k : List Key} {v : V} (e : H a = some (.dT kvs)) (eb : H b = some (.tup (k.map kV))) (hl : kvs.length < sizeLine) :
    DPut H a (.ref b) v (upd H a (.dT (putK kvs k v))) := .inr ⟨kvs, k, b, e, rfl, eb, hl, rfl⟩
section
variable {X : Cx} {pins : List (Addr × Obj)} {σ : St} {H : Hp} {s : Shared} {a : Addr} {y v : V} {u r : Value} {o : Option V} {A : Around} {E : Value → Shared → Prop}
theorem Inv.big (I : Inv X pins σ H s) : sysModules < s.heap.objs.size := by
  have h : mainGlobals < s.heap.objs.size := (I.mod.glob.keeps I.bk).lt
  exact Nat.lt_trans (by decide) h
theorem d_getItem {Q : Value → Shared → Prop} (hu : A.units + 1 < cLine) (I : Inv X pins σ H s) (g : DGet H a y (some v)) (ry : RelV y u) (h : ∀ w' s', Inv X pins σ H s' → RelV v w' → Q w' s') :
    wpAny (model X.prog X.w) A (getItem (.ref a) u) Q E s := by
  rcases g with ⟨kvs, k, e, ey, l⟩ | ⟨kvs, k, b, e, ey, eb, l⟩
  · subst ey
    obtain ⟨z, hd, vs, rel, dd⟩ := dk_rd I.hok e
    obtain ⟨w', hw, rw'⟩ := RelO.some_of (v := v) (o := valueAt vs k) (by rw [l]; exact rel.val k)
    exact wpAny_getItem_of (kV_is ry) dd.mapOf hw (h w' _ (I.tok _) rw')
  · subst ey
    cases (show u = Value.ref b from ry)
    obtain ⟨z, hd, xs, rel, dd⟩ := dt_rd I.hok e
    obtain ⟨w', hw, rw'⟩ := RelO.some_of (v := v) (o := (atKey xs k).map (·.2)) (by rw [l]; exact rel.val k)
    obtain ⟨p, hp, hp2⟩ := Option.map_eq_some_iff.mp hw
    refine wpAny_getItem_heap (tupleKind_room_in1 hu) (key_of I.hok eb) dd hp ?_
    rw [hp2]
    exact h w' _ (I.tok _) rw'
theorem d_notIn {Q : Value → Shared → Prop} (hu : A.units + 1 < cLine) (I : Inv X pins σ H s) (g : DGet H a y o) (ry : RelV y u) (h : ∀ s', Inv X pins σ H s' → Q (.bool (!o.isSome)) s') :
    wpAny (model X.prog X.w) A (compareOp .NotIn u (.ref a)) Q E s := by
  rcases g with ⟨kvs, k, e, ey, l⟩ | ⟨kvs, k, b, e, ey, eb, l⟩
  · subst ey
    obtain ⟨z, hd, vs, rel, dd⟩ := dk_rd I.hok e
    refine wpAny_notIn_of (kV_is ry) hd dd.mapOf ?_
    rw [← (rel.val k).isSome_eq, ← l]
    exact h _ (I.tok _)
  · subst ey
    cases (show u = Value.ref b from ry)
    obtain ⟨z, hd, xs, rel, dd⟩ := dt_rd I.hok e
    refine wpAny_notIn_heap (tupleKind_room_in1 hu) (key_of I.hok eb) hd dd ?_
    have q := (rel.val k).isSome_eq
    rw [Option.isSome_map] at q
    rw [← q, ← l]
    exact h _ (I.tok _)
theorem d_write {h' : Heap} {t' : Nat} {ob : HO} (I : Inv X pins σ H s) (mu : Mut (H a)) (hs : Heap.SameBut a s.heap h') (he : ∃ q, h'.get? a = some q) (new : ObjOk X.prog X.w (upd H a ob) h' a ob) :
    Inv X pins σ (upd H a ob) { s with heap := h', toks := t' } :=
  I.write (x := a) (e := a) mu (.inl rfl) (fun b q hb z => (hs.2 b hb).trans z) he new
theorem dk_new {P : Program} {w : World} {H' : Hp} {h' : Heap} {kvs : List (Key × V)} {vs : List (Key × Value)} (z : kvs.length ≤ sizeLine) (hd : (a == sysModules) = false) (rel : KV kvs vs) (dd : h'.DictOf (mixKind P w) a vs) :
    ObjOk P w H' h' a (.dK kvs) := ⟨z, hd, vs, rel, dd⟩
theorem d_setItem {H' : Hp} {Q : Unit → Shared → Prop} (hu : A.units + 1 < cLine) (I : Inv X pins σ H s) (g : DPut H a y v H') (ry : RelV y u) (rv : RelV v r) (h : ∀ s', Inv X pins σ H' s' → Q () s') :
    wpAny (model X.prog X.w) A (setItem (.ref a) u r) Q E s := by
  rcases g with ⟨kvs, k, e, ey, l, eH⟩ | ⟨kvs, k, b, e, ey, eb, l, eH⟩
  · subst ey eH
    obtain ⟨z, hd, vs, rel, dd⟩ := dk_of I.hok e
    have hz : vs.length ≤ sizeLine := by rw [← rel.length]; exact z
    have hl : (putK kvs k v).length ≤ sizeLine := by have := length_putK kvs k v; omega
    refine wpAny_setItem_pairs (hsz := hz) (kV_is ry) dd fun h' dd' hs => h _ ?_
    have he : ∃ q, h'.get? a = some q := let ⟨q, _, _, hq, _⟩ := dd'; ⟨q, hq⟩
    exact d_write I (by rw [e]; exact True.intro) hs he (dk_new hl hd (rel.put k rv) dd')
  · subst ey eH
    cases (show u = Value.ref b from ry)
    obtain ⟨z, hd, xs, rel, dd⟩ := dt_of I.hok e
    have hz : xs.length ≤ sizeLine := by rw [← Paired.length rel]; exact z
    have hl : (putK kvs k v).length ≤ sizeLine := by have := length_putK kvs k v; omega
    refine wpAny_setItem_heap (hsz := hz) (tupleKind_room_in1 hu) (key_of I.hok eb) dd fun h' dd' hs => h _ ?_
    obtain ⟨q, es, ep, hq, h2, h3, h4, _, h5⟩ := dd'
    refine d_write I (by rw [e]; exact True.intro) hs ⟨q, hq⟩ ⟨hl, hd, _, (rel.put k eb rv).keeps fun c ys ec => ?_, q, es, ep, hq, h2, h3, h4, h5⟩
    rw [upd_ne (ne_of ec e (fun z => nomatch z))]
    exact ec
end
section
variable {X : Cx} {pins : List (Addr × Obj)} {σ : St} {H : Hp} {s : Shared} {a : Addr} {kvs : List (Key × V)} {k : Key} {u : Value} {A : Around} {E : Value → Shared → Prop}
theorem d_len {Q : Value → Shared → Prop} (I : Inv X pins σ H s) (e : Rd H a (.dK kvs)) (h : ∀ t s', Inv X pins σ H s' → Q (.int kvs.length t) s') : wpAny (model X.prog X.w) A (call (.builtin "len") [.ref a]) Q E s := by
  obtain ⟨z, hd, vs, rel, dd⟩ := dk_rd I.hok e
  refine call_len_dict hd dd (by rw [← rel.length]; rw [sizeLine_eq] at z; omega) ?_
  rw [← rel.length]
  exact h _ _ (I.tok _)
end
def NoSl (i : Expr) : Prop := ∀ ov iv, subscripted i false ov iv = operate [ov, iv] (getItem ov iv)
theorem subD_of {prog : Program} {w : World} {A : Around} {E : Value → Shared → Prop} {s : Shared} {env : Env} {value slice : Expr} {pos : Pos} {T id : String} {Q : Value → Shared → Prop}
    (hl : typeLookup (.type T) "__getitem__" = pure (some (.builtin id))) (hs : NoSl slice)
    (h : wpAny (model prog w) A (eval value env) (fun o s₁ => wpAny (model prog w) A (eval slice env) (fun i s₂ => s₂.TypeIs o T ∧ wpAny (model prog w) A (getItem o i) Q E s₂) E s₁) E s) :
    wpAny (model prog w) A (eval (.Subscript value slice pos) env) Q E s := by
  refine Subscript_ (wpAny_mono h (fun o s₁ h₁ => wpAny_mono h₁ (fun i s₂ h₂ => ?_) fun _ _ x => x) fun _ _ x => x)
  obtain ⟨hT, h₂⟩ := h₂
  unfold subscriptTail
  refine wpAny_bind ?_
  rw [getitemInPython_of_ne hT.not_modules]
  refine wpAny_bind (wpAny_specialOf hT hl ?_)
  have fin : wpAny (model prog w) A (subscripted slice false o i) (fun r s₃ => wpAny (model prog w) A (letTemporaryGo value o r >>= fun _ => pure r) Q E s₃) E s₂ := by
    rw [hs o i]
    exact wpAny_operating (wpAny_mono h₂ (fun r s₃ h₃ => wpAny_bind (wpAny_letTemporaryGo (wpAny_pure h₃))) fun _ _ x => x)
  first
    | exact wpAny_pure (wpAny_bind fin)
    | exact wpAny_bind (wpAny_pure (wpAny_bind fin))
    | exact wpAny_bind fin
theorem dict_typeIs {X : Cx} {pins : List (Addr × Obj)} {σ : St} {H : Hp} {s : Shared} {a : Addr} {y : V} {o : Option V} (I : Inv X pins σ H s) (g : DGet H a y o) : s.TypeIs (.ref a) "dict" := by
  rcases g with ⟨kvs, k, e, _, _⟩ | ⟨kvs, k, b, e, _, _, _⟩
  · obtain ⟨_, _, vs, _, dd⟩ := dk_rd I.hok e
    exact dd.typeIs
  · obtain ⟨_, _, xs, _, dd⟩ := dt_rd I.hok e
    exact dd.typeIs
def tDGet (td ty : TE) : TE := fun σ H Q => td σ H fun x H1 => ty σ H1 fun y H2 => ∃ a v, x = .ref a ∧ DGet H2 a y (some v) ∧ Q v H2
def sDPut (td ty tv : TE) : TS := fun D σ H => tv σ H fun v H1 => td σ H1 fun x H2 => ty σ H2 fun y H3 => ∃ a H4, x = .ref a ∧ DPut H3 a y v H4 ∧ D.nx σ H4
section
variable {X : Cx} {o i e value : Expr} {pos pos' tpos : Pos} {td ty tv : TE}
theorem pe_dget (hu : X.A.units + 1 < cLine) (ho : PE X o td) (hi : PE X i ty) (hs : NoSl i) : PE X (.Subscript o i pos) (tDGet td ty) := by
  intro pins s σ H Q I h
  refine subD_of PySem.F.slot_dict_getitem.lookup hs (thn (ho pins s σ H _ I h) fun u s1 ⟨x, H1, I1, rx, q1⟩ => thn (hi pins s1 σ H1 _ I1 q1) fun iv s2 ⟨y, H2, I2, ry, a, v, ex, g, q2⟩ => ?_)
  subst ex
  obtain rfl : u = Value.ref a := rx
  exact ⟨dict_typeIs I2 g, d_getItem hu I2 g ry fun w' s3 I3 rw' => ⟨v, H2, I3, rw', q2⟩⟩
theorem ps_dput (hu : X.A.units + 1 < cLine) (ho : PE X o td) (hi : PE X i ty) (hv : PE X value tv) (hs : swapsWith value (some (.Subscript o i pos')) pos.line X.env = pure false) :
    PS X (.Assign [.Subscript o i pos'] value pos) (sDPut td ty tv) := by
  intro pins s σ H D I h
  refine wpAny_Assign_Subscript (thn (hv pins s σ H _ I h) fun r s1 ⟨v, H1, I1, rv, q1⟩ => thn (ho pins s1 σ H1 _ I1 q1) fun u s2 ⟨x, H2, I2, rx, q2⟩ => thn (hi pins s2 σ H2 _ I2 q2) fun iv s3 ⟨y, H3, I3, ry, a, H4, ex, g, q3⟩ => ?_) hs
  subst ex
  obtain rfl : u = Value.ref a := rx
  exact d_setItem hu I3 g ry rv fun s4 I4 => ⟨σ, H4, I4, q3⟩
end
theorem dk_empty {P : Program} {w : World} {H : Hp} (h : Heap) (hb : sysModules < h.objs.size) : ObjOk P w H (h.push { cls := .type "dict", data := .dict #[] }) h.objs.size (.dK []) :=
  ⟨Nat.zero_le _, beq_eq_false_iff_ne.mpr (Ne.symm (Nat.ne_of_lt hb)), [], .nil, Heap.DictOf.new h⟩
theorem dt_empty {P : Program} {w : World} {H : Hp} (h : Heap) (hb : sysModules < h.objs.size) : ObjOk P w H (h.push { cls := .type "dict", data := .dict #[] }) h.objs.size (.dT []) :=
  ⟨Nat.zero_le _, beq_eq_false_iff_ne.mpr (Ne.symm (Nat.ne_of_lt hb)), [], .nil, _, #[], 0, Heap.get?_push_size _ rfl, ⟨rfl, rfl, rfl⟩, rfl, rfl, List.nodup_nil⟩
def tDNewK : TE := fun _ H Q => ∀ p, H p = none → Q (.ref p) (upd H p (.dK []))
def tDNewT : TE := fun _ H Q => ∀ p, H p = none → Q (.ref p) (upd H p (.dT []))
section
variable {X : Cx} {pos : Pos}
theorem pe_dnewK : PE X (.Dict [] [] pos) tDNewK := fun pins s σ H Q I h =>
  wpAny_Dict_empty ⟨.ref s.heap.objs.size, _, I.laid (a := s.heap.objs.size) (o := .dK []) (t' := s.toks) (fun _ _ q => Heap.get?_push_of_some _ q) (Nat.le_refl _) (dk_empty s.heap I.big), rfl, h _ (I.hok.fresh (Nat.le_refl _))⟩
theorem pe_dnewT : PE X (.Dict [] [] pos) tDNewT := fun pins s σ H Q I h =>
  wpAny_Dict_empty ⟨.ref s.heap.objs.size, _, I.laid (a := s.heap.objs.size) (o := .dT []) (t' := s.toks) (fun _ _ q => Heap.get?_push_of_some _ q) (Nat.le_refl _) (dt_empty s.heap I.big), rfl, h _ (I.hok.fresh (Nat.le_refl _))⟩
end
section
variable {X : Cx} {pins : List (Addr × Obj)} {σ : St} {H : Hp} {s : Shared} {a : Addr} {y d : V} {u r : Value} {o : Option V} {A : Around} {E : Value → Shared → Prop}
end
section
end
section
variable {X : Cx} {pins : List (Addr × Obj)} {σ : St} {H : Hp} {s : Shared} {a : Addr} {kvs : List (Key × V)} {A : Around} {E : Value → Shared → Prop}
end
section
variable {X : Cx} {pins : List (Addr × Obj)} {σ : St} {H : Hp} {s : Shared} {a : Addr} {y : V} {u : Value} {A : Around} {E : Value → Shared → Prop}
end
end L2
namespace L2
open PySem PySem.Spec PyProof.Rows
theorem no_keys : typeLookup (.type "list") "keys" = pure none := am_miss_of_fast (by decide +kernel)
theorem plain_upd_loop : plainId "dict.update.loop" = true := by decide +kernel
theorem entry_upd_loop : entryFor table "dict.update.loop" = some Builtin.«dict.update.loop» := entryFor_of_fast (by kernel_rfl)
theorem sub_attr_err : isSubtype (.type "AttributeError") (.type "AttributeError") = pure true := by rw [isSubtype_type]; kernel_rfl
theorem keys_by {prog : Program} {w : World} {A : Around} {E : Value → Shared → Prop} {s : Shared} {a : Addr} {o : Obj} {xs : Array Value} {k : Nat} {t : Tok} {Q : Value → Shared → Prop}
    (hx : s.heap.get? a = some o) (hc : o.cls = .type "list") (hdat : o.data = .seq xs k) (hd : o.dict = none) (hA : A.handled = none)
    (h : ∀ h' tk e, Heap.NewExcOf s.heap h' e "AttributeError" → E (.ref e) { s with heap := h', toks := tk }) :
    wpAny (model prog w) A (getAttrBy (.ref a) (.str "keys" t) false) Q E s := by
  obtain ⟨c, dct, dat, sl⟩ := o
  simp only at hc hdat hd
  subst hc hdat hd
  obtain ⟨hp, g, d, tk, os⟩ := s
  have hT : ∀ tk', (⟨hp, g, d, tk', os⟩ : Shared).TypeIs (.ref a) "list" := fun _ => ⟨_, hx, rfl⟩
  have f1 := sub_attr_err
  have f3 := PySem.F.slot_list_getattribute.lookup
  have f4 := PySem.F.slot_list_getattribute.bind (.ref a)
  have f5 := am_list_getattr_none
  unfold getAttrBy
  repeat (any_goals (first | assumption | exact hT _ | ((with_reducible show wpAny _ _ (call (Value.builtin "list.__getattribute__") _ _) _ _ _); refine call_meets PySem.F.slot_list_getattribute (hT _) am_entry_list_getattribute (PySem.F.args_list_getattribute_2 _ _) (meets_getattribute_miss_list a xs k sl "keys" _ no_keys (by decide) (by decide)) ⟨hx, hA, fun h' tk' e hx' => ?_⟩) | wp_step))
  obtain ⟨t', u', he⟩ := hx'.there
  show wpAny _ _ (getattributeRaised _ _ _ _ _ _ _) _ _ _
  unfold getattributeRaised
  repeat (any_goals (first | assumption | wp_step))
  exact h _ _ _ hx'.of
theorem keys_miss {prog : Program} {w : World} {A : Around} {E : Value → Shared → Prop} {s : Shared} {a : Addr} {o : Obj} {xs : Array Value} {k : Nat} {Q : Option Value → Shared → Prop}
    (hx : s.heap.get? a = some o) (hc : o.cls = .type "list") (hdat : o.data = .seq xs k) (hd : o.dict = none) (hA : A.handled = none)
    (h : ∀ h' tk, (∀ b ob, s.heap.get? b = some ob → h'.get? b = some ob) → Q none { s with heap := h', toks := tk }) :
    wpAny (model prog w) A (getAttr? (.ref a) "keys") Q E s := by
  unfold getAttr? getAttrBy?
  refine wpAny_bind (wpAny_mkText (wpAny_bind (wpAny_attempt (keys_by (s := { s with toks := s.toks + 1 }) hx hc hdat hd hA fun h' tk e ne => ?_))))
  obtain ⟨kp, nw, ob, vs, he, h1, h2⟩ := ne
  refine wpAny_bind (wpAny_isInstance (T := "AttributeError") (b := true) ⟨ob, he, h1⟩ sub_attr_err ?_)
  exact wpAny_pure (h h' tk kp)
section
variable {prog : Program} {w : World} {A : Around} {R : Result → Shared → Prop}
end
theorem bt_dict : bootBuiltins "dict" = some (.type "dict") := by decide +kernel
section
variable {X : Cx}
end
end L2
namespace L2
open PySem PySem.Spec PyProof.Rows L4
end L2
namespace L2
open PySem PySem.Spec PyProof.Rows
section
variable {prog : Program} {w : World} {K : Type} [DecidableEq K] {knd : KeyKind prog w K} {A : Around} {E : Value → Shared → Prop} {s : Shared}
end
section
variable {X : Cx}
end
end L2
namespace L2
open PySem PySem.Spec PyProof.Rows
theorem owner_rev : Manifest.owners.lookup (String.ofList ['d', 'e', 's', 'r', 'e', 'v', 'e', 'r'].reverse) = some Manifest.sig_reversed := by kernel_rfl
theorem slot_rev_next : Slot "reversed" "__next__" "reversed.__next__" :=
  .of (owner := "reversed") (n := "__next__") (by rw [typeLookup_type, builtinLookup_eq_fast]; kernel_rfl) (by decide +kernel) (by decide +kernel) (by decide +kernel)
    (by first | exact .inl (by decide +kernel) | exact .inr (by decide +kernel)) (by rw [isSubtype_type]; kernel_rfl)
theorem entry_rev_next : entryFor table "reversed.__next__" = some Builtin.«reversed.__next__» := entryFor_of_tree (by kernel_rfl)
theorem args_rev_next_1 (a : Value) : argsOk "reversed.__next__" ⟨[a], []⟩ := by
  unfold argsOk; rw [signature?_of (id := "reversed.__next__") (n := ['_', '_', 't', 'x', 'e', 'n', '_', '_']) (o := ['d', 'e', 's', 'r', 'e', 'v', 'e', 'r']) (by kernel_rfl) owner_rev]; kernel_rfl
theorem slot_rev_hint : Slot "reversed" "__length_hint__" "reversed.__length_hint__" :=
  .of (owner := "reversed") (n := "__length_hint__") (by rw [typeLookup_type, builtinLookup_eq_fast]; kernel_rfl) (by decide +kernel) (by decide +kernel) (by decide +kernel)
    (by first | exact .inl (by decide +kernel) | exact .inr (by decide +kernel)) (by rw [isSubtype_type]; kernel_rfl)
theorem entry_rev_hint : entryFor table "reversed.__length_hint__" = some Builtin.«reversed.__length_hint__» := entryFor_of_tree (by kernel_rfl)
theorem args_rev_hint_1 (a : Value) : argsOk "reversed.__length_hint__" ⟨[a], []⟩ := by
  unfold argsOk; rw [signature?_of (id := "reversed.__length_hint__") (n := ['_', '_', 't', 'n', 'i', 'h', '_', 'h', 't', 'g', 'n', 'e', 'l', '_', '_']) (o := ['d', 'e', 's', 'r', 'e', 'v', 'e', 'r']) (by kernel_rfl) owner_rev]; kernel_rfl
theorem slot_rev_iter : Slot "reversed" "__iter__" "reversed.__iter__" :=
  .of (owner := "reversed") (n := "__iter__") (by rw [typeLookup_type, builtinLookup_eq_fast]; kernel_rfl) (by decide +kernel) (by decide +kernel) (by decide +kernel)
    (by first | exact .inl (by decide +kernel) | exact .inr (by decide +kernel)) (by rw [isSubtype_type]; kernel_rfl)
theorem args_rev_iter_1 (a : Value) : argsOk "reversed.__iter__" ⟨[a], []⟩ := by
  unfold argsOk; rw [signature?_of (id := "reversed.__iter__") (n := ['_', '_', 'r', 'e', 't', 'i', '_', '_']) (o := ['d', 'e', 's', 'r', 'e', 'v', 'e', 'r']) (by kernel_rfl) owner_rev]; kernel_rfl
theorem entry_rev_iter : entryFor table "reversed.__iter__" = some Builtin.«dict_keyiterator.__iter__» :=
  entryFor_alias (id' := "dict_keyiterator.__iter__") (by kernel_rfl) (by first | rfl | decide +kernel | (unfold String.splitOn; simp +decide [String.splitOnAux])) (by decide +kernel) (by kernel_rfl)
theorem no_rev_tup : typeLookup (.type "tuple") "__reversed__" = pure none := am_miss_of_fast (by decide +kernel)
theorem no_len_rev : typeLookup (.type "reversed") "__len__" = pure none := am_miss_of_fast (by decide +kernel)
theorem slot_rev_init : Slot "reversed" "__init__" "object.__init__" :=
  .of (owner := "object") (n := "__init__") (by rw [typeLookup_type, builtinLookup_eq_fast]; kernel_rfl) (by decide +kernel) (by decide +kernel) (by decide +kernel)
    (by first | exact .inl (by decide +kernel) | exact .inr (by decide +kernel)) (by rw [isSubtype_type]; kernel_rfl)
theorem called_rev : TypeCalled "reversed" "reversed.__new__" "object.__init__" :=
  ⟨by decide +kernel, by decide +kernel, ⟨_, _, PySem.F.mro_reversed⟩, PySem.F.made_reversed, by decide +kernel, by rw [isSubtype_type]; kernel_rfl, slot_rev_init⟩
theorem sub_tup_dict : isSubtype (.type "tuple") (.type "dict") = pure false := by rw [isSubtype_type]; kernel_rfl
theorem seq_nat' {v n : Nat} (h : v < n) : seqIndex? (v : Int) n = some v := by
  unfold seqIndex?
  have h1 : ¬ ((v : Int) < 0) := by omega
  simp only [h1, if_false]
  rw [if_pos (by simp; omega)]
  rfl
def revO (t : Addr) (i : Int) : Obj := { cls := .type "reversed", data := .fields #[.ref t, rawInt i] }
def IsRev (h : Heap) (a t : Addr) (i : Int) : Prop := ∃ o, h.get? a = some o ∧ o.cls = .type "reversed" ∧ o.data = .fields #[.ref t, rawInt i]
theorem IsRev.typeIs {s : Shared} {a t : Addr} {i : Int} (x : IsRev s.heap a t i) : s.TypeIs (.ref a) "reversed" := let ⟨o, ho, hc, _⟩ := x; ⟨o, ho, hc⟩
theorem IsRev.at {h h' : Heap} {a t : Addr} {i : Int} (x : IsRev h a t i) (e : ∀ o, h.get? a = some o → h'.get? a = some o) : IsRev h' a t i := let ⟨o, ho, r⟩ := x; ⟨o, e _ ho, r⟩
theorem meets_rev_new (t : Addr) (items : Array Value) (hz : (items.size : Int) < 2 ^ 63) :
    Meets (Builtin.«reversed.__new__» ⟨[.type "reversed", .ref t], []⟩) (fun _ R s => IsTup s.heap t items ∧ ∀ tk, R (.ok (.ret (.ref s.heap.objs.size))) { s with heap := s.heap.push (revO t ((items.size : Int) - 1)), toks := tk }) :=
  .of_wp fun prog w A R s h => by
    obtain ⟨ht, h⟩ := h
    have hT : s.TypeIs (.ref t) "tuple" := ht.typeIs
    unfold Builtin.«reversed.__new__»
    refine wpAny_bind (wpAny_of_eq (newClass_reversed _) ?_)
    try dsimp only
    refine wpAny_bind (wpAny_of_eq (a := ()) (by first | rfl | kernel_rfl) ?_)
    refine wpAny_bind (wpAny_of_eq (a := ()) (by first | rfl | kernel_rfl) ?_)
    try dsimp only
    refine wpAny_bind (wpAny_specialOf hT no_rev_tup ?_)
    try dsimp only
    refine wpAny_bind ?_
    refine wpAny_bind (m := isInstance (.ref t) (.type "dict")) (wpAny_isInstance (T := "tuple") (b := false) hT sub_tup_dict ?_)
    rw [if_neg Bool.false_ne_true]
    refine wpAny_bind (m := specialOf (.ref t) "__getitem__") (wpAny_specialOf hT PySem.F.slot_tuple_getitem.lookup ?_)
    refine wpAny_of_eq (a := true) (by first | rfl | kernel_rfl) ?_
    show wpAny _ _ (call (.builtin "len") [.ref t] >>= _) _ _ _
    refine wpAny_bind (len_tuple ht hz ?_)
    show wpAny _ _ (asInt? (.int items.size (s.toks + 1)) >>= _) _ _ _
    refine wpAny_bind (wpAny_of_eq (a := some (items.size : Int)) rfl ?_)
    show wpAny _ _ (newObj (.type "reversed") (.fields #[.ref t, rawInt ((items.size : Int) - 1)]) >>= _) _ _ _
    refine wpAny_bind (wpAny_newObj_type (wpAny_pure ?_) (by size_fits))
    exact ⟨_, rfl, h _⟩
section
variable {prog : Program} {w : World} {A : Around} {E : Value → Shared → Prop} {s : Shared}
theorem call_reversed_tuple {t : Addr} {items : Array Value} {Q : Value → Shared → Prop} (ht : IsTup s.heap t items) (hz : (items.size : Int) < 2 ^ 63)
    (h : ∀ tk, Q (.ref s.heap.objs.size) { s with heap := s.heap.push (revO t ((items.size : Int) - 1)), toks := tk }) : wpAny (model prog w) A (call (.type "reversed") [.ref t]) Q E s := by
  refine callType_new called_rev (by decide) (PySem.F.typeCall_reversed_1 _) (PySem.F.newCall_reversed_1 _) (fun obj => PySem.F.args_object_init_2 obj _) PySem.F.entry_reversed_new (meets_rev_new t items hz) ⟨ht, fun tk => ?_⟩
  exact ⟨⟨_, Heap.get?_push_size _ rfl, rfl⟩, h tk⟩
theorem next_rev_item {it t : Addr} {i : Nat} {items : Array Value} {x : Value} {Q : Option Value → Shared → Prop} (hit : IsRev s.heap it t (i : Int)) (ht : IsTup s.heap t items) (hx : items[i]? = some x) (hz : (items.size : Int) < 2 ^ 63)
    (hQ : ∀ h' tk, IsRev h' it t ((i : Int) - 1) → Heap.SameBut it s.heap h' → Q (some x) { s with heap := h', toks := tk }) : wpAny (model prog w) A (pyNext (.ref it)) Q E s := by
  obtain ⟨o, ho, hc, hd⟩ := id hit
  have hi : i < items.size := by
    rcases Nat.lt_or_ge i items.size with z | z
    · exact z
    · rw [Array.getElem?_eq_none z] at hx; cases hx
  unfold pyNext
  refine wpAny_bind (wpAny_attempt (wpAny_callSpecial?_slot (name := Str.ofString "__next__") hit.typeIs slot_rev_next
    (wpAny_call_entry slot_rev_next hit.typeIs entry_rev_next ?_ (args_rev_next_1 _))))
  unfold Builtin.«reversed.__next__»
  refine wpAny_bind (wpAny_of_eq (a := (Value.ref it, [])) rfl ?_)
  try dsimp only
  refine wpAny_bind (wpAny_field ho hd (x := .ref t) rfl ?_)
  refine wpAny_bind (wpAny_field ho hd (x := rawInt (i : Int)) rfl ?_)
  show wpAny _ _ (if (i : Int) < 0 then _ else _) _ _ s
  rw [if_neg (by omega)]
  show wpAny _ _ (specialOf (.ref t) "__getitem__" >>= _) _ _ s
  refine wpAny_bind (wpAny_specialOf ht.typeIs PySem.F.slot_tuple_getitem.lookup ?_)
  show wpAny _ _ (mkInt (i : Int) >>= _) _ _ _
  refine wpAny_bind (wpAny_mkInt ?_)
  refine wpAny_bind (wpAny_attempt (getItem_tuple (s := { s with toks := s.toks + 1 }) ht (by omega) (by omega) (j := i) (seq_nat' hi) hx ?_))
  show wpAny _ _ (field (.ref it) 1 >>= _) _ _ _
  refine wpAny_bind (wpAny_field ho hd (x := rawInt (i : Int)) rfl ?_)
  show wpAny _ _ (setField (.ref it) 1 (rawInt ((i : Int) - 1)) >>= _) _ _ _
  refine wpAny_bind (wpAny_setField ho hd (by simp) (wpAny_pure ⟨x, rfl, wpAny_pure (hQ _ _ ?_ (Heap.SameBut.update ..))⟩))
  exact ⟨_, Heap.get?_update_self _ ho (Obj.isFreed_of_fields (Obj.data_mapFields hd _)), (Obj.cls_mapFields ..).trans hc, by
    rw [Obj.data_mapFields hd]; simp⟩
theorem next_rev_end {it t : Addr} {Q : Option Value → Shared → Prop} (hh : A.handled = none) (hit : IsRev s.heap it t (-1))
    (hQ : ∀ h', Heap.ExtBut it s.heap h' → Q none { s with heap := h' }) : wpAny (model prog w) A (pyNext (.ref it)) Q E s := by
  obtain ⟨o, ho, hc, hd⟩ := id hit
  unfold pyNext
  refine wpAny_bind (wpAny_attempt (wpAny_callSpecial?_slot (name := Str.ofString "__next__") hit.typeIs slot_rev_next
    (wpAny_call_entry slot_rev_next hit.typeIs entry_rev_next ?_ (args_rev_next_1 _))))
  unfold Builtin.«reversed.__next__»
  refine wpAny_bind (wpAny_of_eq (a := (Value.ref it, [])) rfl ?_)
  try dsimp only
  refine wpAny_bind (wpAny_field ho hd (x := .ref t) rfl ?_)
  refine wpAny_bind (wpAny_field ho hd (x := rawInt (-1)) rfl ?_)
  show wpAny _ _ (if (-1 : Int) < 0 then _ else _) _ _ s
  rw [if_pos (by decide)]
  refine wpAny_bind (wpAny_rule ?_)
  refine wpAny_bind ?_
  refine wpAny_bind (m := setField (.ref it) 1 (rawInt (-1))) (wpAny_setField ho hd (by simp) ?_)
  have ho2 := Heap.get?_update_self (Obj.mapFields fun vs => vs.set! 1 (rawInt (-1))) ho (Obj.isFreed_of_fields (Obj.data_mapFields hd _))
  have hd2 := Obj.data_mapFields hd (fun vs => vs.set! 1 (rawInt (-1)))
  refine wpAny_setField ho2 hd2 (by simp) ?_
  refine wpAny_bind ?_
  show wpAny _ _ (newExc (.type "StopIteration") [] >>= _) _ _ _
  refine wpAny_bind ?_
  simp only [newExc, newTuple]
  refine wpAny_bind (wpAny_newObj_type ?_ (by size_fits))
  refine wpAny_bind (m := firstArgMember _ _) (wpAny_of_eq (a := Value.none) (by first | rfl | (simp only [firstArgMember]; rfl)) ?_)
  refine wpAny_newObj_type ?_ (by size_fits)
  simp only [raiseNew]
  refine wpAny_bind (wpAny_handled ?_)
  first | rw [show A.in1.handled = none from hh] | rw [hh]
  refine wpAny_bind (wpAny_pure (wpAny_throw ?_))
  refine wpAny_bind (wpAny_isInstance (T := "StopIteration") (b := true) ⟨_, Heap.get?_push_size _ rfl, rfl⟩ isSubtype_stop ?_)
  refine wpAny_pure (hQ _ ?_)
  intro b o' hb e
  exact Heap.get?_push_of_some _ (Heap.get?_push_of_some _ ((Heap.get?_update_other _ _ (Ne.symm hb)).trans ((Heap.get?_update_other _ _ (Ne.symm hb)).trans e)))
theorem pyIter_rev {it t : Addr} {i : Int} {Q : Value → Shared → Prop} (hit : IsRev s.heap it t i) (h : Q (.ref it) s) : wpAny (model prog w) A (pyIter (.ref it)) Q E s := by
  refine wpAny_pyIter_slot hit.typeIs slot_rev_iter (wpAny_call_entry slot_rev_iter hit.typeIs entry_rev_iter ?_ (args_rev_iter_1 _))
  show wpAny _ _ (ret (.ref it)) _ _ s
  exact wpAny_pure ⟨_, rfl, "reversed", _, hit.typeIs, slot_rev_next.lookup, h⟩
theorem hint_rev {it t : Addr} {i : Nat} {items : Array Value} {Q : Bool → Shared → Prop} (hit : IsRev s.heap it t ((i : Int) - 1)) (ht : IsTup s.heap t items) (hi : i ≤ items.size) (hz : items.size ≤ 1000)
    (h : ∀ b tk, Q b { s with toks := tk }) : wpAny (model prog w) A (Builtin.List.listLengthHint (.ref it)) Q E s := by
  obtain ⟨o, ho, hc, hd⟩ := id hit
  unfold Builtin.List.listLengthHint
  refine wpAny_bind (wpAny_specialOf hit.typeIs no_len_rev ?_)
  show wpAny _ _ (specialOf (Value.ref it) (Str.ofString "__length_hint__") >>= _) _ _ _
  refine wpAny_bind (wpAny_specialOf hit.typeIs slot_rev_hint.lookup ?_)
  generalize hid : ("reversed.__length_hint__" : String) = id0
  wp_delta
  rw [show splitId id0 = some ("reversed", "__length_hint__") from by subst hid; decide +kernel]
  subst hid
  refine wpAny_bind (wpAny_isInstance (T := "reversed") (b := true) hit.typeIs PySem.F.sub_reversed_self ?_)
  refine wpAny_ite_split (fun hab => absurd hab (by decide)) (fun _ => ?_)
  refine wpAny_ite_split (fun hab => absurd hab (by decide +kernel)) (fun _ => ?_)
  refine wpAny_bind (wpAny_rule ?_)
  refine wpAny_bind (wpAny_of_eq (slot_rev_hint.bind _) ?_)
  have htl : Builtin.List.listTooLong ((i : Int).toNat) = false := by simp [Builtin.List.listTooLong, sizeLine]; omega
  have hfi : Builtin.List.listFitsIndex (i : Int) = true := by simp [Builtin.List.listFitsIndex]; omega
  refine wpAny_bind (wpAny_attempt (wpAny_call_entry slot_rev_hint hit.typeIs entry_rev_hint ?_ (args_rev_hint_1 _)))
  unfold Builtin.«reversed.__length_hint__»
  refine wpAny_bind (wpAny_of_eq (a := Value.ref it) rfl ?_)
  refine wpAny_bind (wpAny_field ho hd (x := .ref t) rfl ?_)
  show wpAny _ _ (if (Value.ref t == Value.none) = true then _ else call (.builtin "len") [.ref t] >>= _) _ _ s
  rw [if_neg (show ¬ ((Value.ref t == Value.none) = true) from Bool.false_ne_true)]
  refine wpAny_bind (len_tuple ht (by omega) ?_)
  show wpAny _ _ (asInt? (.int items.size (s.toks + 1)) >>= _) _ _ _
  refine wpAny_bind (wpAny_of_eq (a := some (items.size : Int)) rfl ?_)
  refine wpAny_bind (wpAny_field ho hd (x := rawInt ((i : Int) - 1)) rfl ?_)
  show wpAny _ _ (if ((items.size : Nat) : Int) < ((i : Int) - 1) + 1 then _ else _) _ _ _
  rw [if_neg (by omega)]
  rw [show (i : Int) - 1 + 1 = (i : Int) by omega]
  show wpAny _ _ (mkInt (i : Int) >>= fun v => ret v) _ _ _
  refine wpAny_bind (wpAny_mkInt (wpAny_pure ⟨_, rfl, ?_⟩))
  have h0 : ¬ ((i : Int) < 0) := by omega
  dsimp only
  generalize (i : Int) = k at *
  refine wpAny_bind (m := asInt? (Value.int k _)) (wpAny_pure ?_)
  refine wpAny_ite_split (fun hab => absurd hab (by rw [hfi]; decide)) (fun _ => ?_)
  refine wpAny_ite_split (fun hab => absurd hab h0) (fun _ => ?_)
  exact wpAny_ite_split (fun hab => absurd hab (by rw [htl]; decide)) (fun _ => wpAny_pure (h _ _))
end
theorem Walks.rev {prog : Program} {w : World} {A : Around} (hh : A.handled = none) (I l : Addr) (hne : l ≠ I) (items : Array Value) (hz : (items.size : Int) < 2 ^ 63) :
    Walks prog w A I [I, l] [I] items.size (fun i v => items[items.size - 1 - i]? = some v) (fun i h => i ≤ items.size ∧ IsRev h I l ((items.size : Int) - 1 - (i : Int)) ∧ IsTup h l items) where
  sub := fun b hb => by simp at hb; simp [hb]
  frame := fun _ _ _ x hk => ⟨x.1, x.2.1.at fun o e => hk I (by simp) o e, let ⟨o, e, r⟩ := x.2.2; ⟨o, hk l (by simp) o e, r⟩⟩
  item := fun i s Q E hi x hQ => by
    have e : (items.size : Int) - 1 - (i : Int) = ((items.size - 1 - i : Nat) : Int) := by omega
    have hit := x.2.1
    rw [e] at hit
    have hx : items[items.size - 1 - i]? = some (items[items.size - 1 - i]'(by omega)) := Array.getElem?_eq_getElem (by omega)
    refine next_rev_item hit x.2.2 hx hz fun h' tk hit' hs' => ?_
    have e2 : ((items.size - 1 - i : Nat) : Int) - 1 = (items.size : Int) - 1 - ((i + 1 : Nat) : Int) := by omega
    rw [e2] at hit'
    exact hQ _ h' tk hx ⟨hi, hit', let ⟨o, e, r⟩ := x.2.2; ⟨o, (hs'.2 l hne).trans e, r⟩⟩ fun b o hb eo => hs'.extBut b o (fun h => hb (by simp [h])) eo
  done := fun s Q E x hQ => by
    have e : (items.size : Int) - 1 - (items.size : Int) = -1 := by omega
    have hit := x.2.1
    rw [e] at hit
    exact next_rev_end hh hit fun h' he' => hQ h' s.toks fun b o hb eo => he' b o (fun h => hb (by simp [h])) eo
  self := fun _ _ _ _ x hQ => pyIter_rev x.2.1 hQ
section
variable {prog : Program} {w : World} {A : Around} {s : Shared}
theorem extend_rev {R : Result → Shared → Prop} {it t : Addr} {items : Array Value} (hh : A.handled = none) (hit : IsRev s.heap it t ((items.size : Int) - 1)) (ht : IsTup s.heap t items) (hne : t ≠ it) (hz : items.size ≤ 1000)
    (S : Addr) (res : Value) (c₀ : Nat) (hS : s.heap.get? S = some { cls := .type "list", data := .seq #[] c₀ })
    (hR : ∀ h' tk acc' c', (∀ b o, b ≠ S → b ≠ it → s.heap.get? b = some o → h'.get? b = some o) → h'.get? S = some { cls := .type "list", dict := none, data := .seq acc' c', slots := #[] } →
      ItemsOf (fun i v => items[items.size - 1 - i]? = some v) acc' items.size → R (.ok (.ret res)) { s with heap := h', toks := tk }) :
    wpAny (model prog w) A.in1 (Builtin.List.listExtendWith (.ref S) (.ref it) res)
      (fun fin s' => match fin with | .done f => R (.ok f) s' | .again c' => c'.quiet = true ∧ codeAny (model prog w) A c' R s') (fun e s' => R (.error e) s') s := by
  have hSit : S ≠ it := fun e => by
    obtain ⟨o, ho, hc, _⟩ := hit
    rw [e, ho] at hS
    have := Option.some.inj hS
    rw [this] at hc
    exact absurd hc (show ¬ (Value.type "list" = Value.type _) by decide)
  have hSt : S ≠ t := fun e => by
    obtain ⟨o, ho, hc, _⟩ := ht
    rw [e, ho] at hS
    have := Option.some.inj hS
    rw [this] at hc
    exact absurd hc (show ¬ (Value.type "list" = Value.type _) by decide)
  have hSf : S ∉ [it, t] := fun hm => by
    rcases List.mem_cons.mp hm with h | h
    · exact hSit h
    · exact hSt (List.mem_singleton.mp h)
  have W := (Walks.rev (prog := prog) (w := w) (A := A.in1) hh it t hne items (by omega)).toS
  have key : ∀ (h : Heap) (c₁ tk : Nat), IsRev h it t ((items.size : Int) - 1) → IsTup h t items → (∀ b o, b ≠ S → s.heap.get? b = some o → h.get? b = some o) →
      h.get? S = some { cls := .type "list", data := .seq #[] c₁ } → codeAny (model prog w) A (.builtin "list.extend.loop" ⟨[.ref S, .ref it, res], []⟩) R { s with heap := h, toks := tk } := by
    intro h c₁ tk hit' ht' hk hS₁
    refine codeAny_extend_loopS W (by rw [sizeLine_eq]; omega) S hSf res items.size 0 _ #[] c₁ rfl (Nat.zero_le _) ⟨Nat.zero_le _, by simpa using hit', ht'⟩ hS₁ (ItemsOf.nil _) fun s' acc' c' hm hS' hacc => ?_
    rw [Moved.eq_with hm]
    refine hR s'.heap s'.toks acc' c' (fun b o hb hi e => hm.heap b o (fun hmem => ?_) (hk b o hb e)) hS' hacc
    rcases List.mem_cons.mp hmem with e' | hmem
    · exact hb e'
    · exact hi (List.mem_singleton.mp hmem)
  unfold Builtin.List.listExtendWith
  refine wpAny_bind (wpAny_typeOf (T := "reversed") hit.typeIs ?_)
  have h1 : Builtin.List.listSameRef (.ref S) (.ref it) = false := by simp [Builtin.List.listSameRef, hSit]
  have h2 : (Value.type "reversed" == Value.type "list") = false := by decide
  have h3 : (Value.type "reversed" == Value.type "tuple") = false := by decide
  simp only [h1, h2, h3, Bool.or_false, Bool.false_eq_true, if_false]
  refine wpAny_bind (pyIter_rev hit ?_)
  refine wpAny_bind (wpAny_holding (hint_rev (i := items.size) hit ht (Nat.le_refl _) hz fun b tk => ?_))
  refine wpAny_ite_split (fun _ => ?_) (fun _ => wpAny_pure ⟨plainId_quiet PySem.F.plain_extend_loop _, key _ c₀ _ hit ht (fun b o _ e => e) hS⟩)
  refine wpAny_bind (wpAny_rule ?_)
  refine wpAny_bind ?_
  show wpAny _ _ (updateSeq S (·.push .none) >>= fun _ => updateSeq S (·.pop)) _ _ _
  refine wpAny_bind (wpAny_updateSeq hS rfl ?_)
  have hS₂ := Heap.get?_update_self (Obj.mapSeq (·.push Value.none)) hS rfl
  refine wpAny_updateSeq (hz := by seq_fits) hS₂ rfl ?_
  have hS₃ := Heap.get?_update_self (Obj.mapSeq (·.pop)) hS₂ rfl
  have oth : ∀ b o, b ≠ S → s.heap.get? b = some o → ((s.heap.update S (Obj.mapSeq (·.push Value.none))).update S (Obj.mapSeq (·.pop))).get? b = some o := fun b o hb e => (Heap.get?_update_other _ _ (Ne.symm hb)).trans ((Heap.get?_update_other _ _ (Ne.symm hb)).trans e)
  refine wpAny_pure ⟨plainId_quiet PySem.F.plain_extend_loop _, key _ _ _ (hit.at fun o e => oth it o (Ne.symm hSit) e) (let ⟨o, e, r⟩ := ht; ⟨o, oth t o (Ne.symm hSt) e, r⟩) oth hS₃⟩
theorem init_rev {R : Result → Shared → Prop} {it t : Addr} {items : Array Value} (hh : A.handled = none) (hit : IsRev s.heap it t ((items.size : Int) - 1)) (ht : IsTup s.heap t items) (hne : t ≠ it) (hz : items.size ≤ 1000) (S : Addr) (hS : s.heap.get? S = some { cls := .type "list", data := .seq #[] })
    (hSt : S ≠ t) (hSi : S ≠ it) (hR : ∀ h' tk acc' c', (∀ b o, b ≠ S → b ≠ it → s.heap.get? b = some o → h'.get? b = some o) → h'.get? S = some { cls := .type "list", dict := none, data := .seq acc' c', slots := #[] } →
      ItemsOf (fun i v => items[items.size - 1 - i]? = some v) acc' items.size → R (.ok (.ret .none)) { s with heap := h', toks := tk }) :
    wpAny (model prog w) A.in1 (Builtin.«list.__init__» ⟨[.ref S, .ref it], []⟩)
      (fun fin s' => match fin with | .done f => R (.ok f) s' | .again c' => c'.quiet = true ∧ codeAny (model prog w) A c' R s') (fun e s' => R (.error e) s') s := by
  show wpAny _ _ (do let old ← Builtin.List.listItems (.ref S); Builtin.List.listUpdate (.ref S) (fun _ => #[]); letGo old.toList.reverse; Builtin.List.listExtendWith (.ref S) (.ref it) .none) _ _ s
  refine wpAny_bind ?_
  unfold Builtin.List.listItems
  refine wpAny_bind (wpAny_seqItems hS rfl (wpAny_pure ?_))
  show wpAny _ _ (updateSeq S (fun _ => #[]) >>= fun _ => letGo (#[] : Array Value).toList.reverse >>= fun _ => Builtin.List.listExtendWith (.ref S) (.ref it) .none) _ _ s
  refine wpAny_bind (wpAny_updateSeq hS rfl ?_)
  have hS₂ := Heap.get?_update_self (Obj.mapSeq (fun _ => (#[] : Array Value))) hS rfl
  have oth : ∀ b o, b ≠ S → s.heap.get? b = some o → (s.heap.update S (Obj.mapSeq (fun _ => (#[] : Array Value)))).get? b = some o :=
    fun b o hb e => (Heap.get?_update_other _ _ (Ne.symm hb)).trans e
  refine wpAny_bind (wpAny_letGo ?_)
  refine extend_rev hh (hit.at fun o e => oth it o (Ne.symm hSi) e) (let ⟨o, e, r⟩ := ht; ⟨o, oth t o (Ne.symm hSt) e, r⟩) hne hz S .none _ hS₂ fun h' tk acc' c' hk hS' hacc => ?_
  exact hR h' tk acc' c' (fun b o hb hi e => hk b o hb hi (oth b o hb e)) hS' hacc
theorem call_list_rev {E : Value → Shared → Prop} {Q : Value → Shared → Prop} {it t : Addr} {items : Array Value} (hh : A.handled = none) (hit : IsRev s.heap it t ((items.size : Int) - 1)) (ht : IsTup s.heap t items) (hne : t ≠ it) (hz : items.size ≤ 1000)
    (hQ : ∀ h' tk acc' c', (∀ b o, b ≠ it → s.heap.get? b = some o → h'.get? b = some o) →
      h'.get? s.heap.objs.size = some { cls := .type "list", dict := none, data := .seq acc' c', slots := #[] } → ItemsOf (fun i v => items[items.size - 1 - i]? = some v) acc' items.size → Q (.ref s.heap.objs.size) { s with heap := h', toks := tk }) :
    wpAny (model prog w) A (call (.type "list") [.ref it]) Q E s := by
  refine callType_codes (Q₁ := fun obj s₁ => obj = .ref s.heap.objs.size ∧ s₁ = { s with heap := s.heap.push { cls := .type "list", data := .seq #[] } }) PySem.F.called_list (PySem.F.typeCall_list_1 _) PySem.F.entry_list_init
    (code_list_new _ ⟨rfl, rfl⟩) fun obj s₁ h₁ => ?_
  obtain ⟨rfl, rfl⟩ := h₁
  have hS : (s.heap.push { cls := .type "list", data := .seq #[] }).get? s.heap.objs.size = some { cls := .type "list", data := .seq #[] } := Heap.get?_push_size _ rfl
  have lt1 : it < s.heap.objs.size := let ⟨_, e, _⟩ := hit; Heap.lt_size e
  have lt2 : t < s.heap.objs.size := let ⟨_, e, _⟩ := ht; Heap.lt_size e
  refine ⟨⟨_, hS, rfl⟩, PySem.F.args_list_init_2 _ _, init_rev (A := A.in1) hh (hit.at fun o e => Heap.get?_push_of_some _ e) (let ⟨o, e, r⟩ := ht; ⟨o, Heap.get?_push_of_some _ e, r⟩) hne hz _ hS (Nat.ne_of_gt lt2) (Nat.ne_of_gt lt1) fun h' tk acc' c' hk hS' hacc => ?_⟩
  exact ⟨rfl, hQ h' tk acc' c' (fun b o hi e => hk b o (Nat.ne_of_lt (Heap.lt_size e)) hi (Heap.get?_push_of_some _ e)) hS' hacc⟩
end
end L2
namespace L2
open PySem PySem.Spec PyProof.Rows
theorem bt_reversed : bootBuiltins "reversed" = some (.type "reversed") := by decide +kernel
theorem vals_rev {xs : List V} {its : List Value} {acc : Array Value} (r : Vals xs its) (h : ItemsOf (fun i v => its.toArray[its.toArray.size - 1 - i]? = some v) acc its.toArray.size) : Vals xs.reverse acc.toList := by
  have l := r.length
  refine vals_get (by rw [List.length_reverse]; have := h.1; simp at this ⊢; omega) fun i x u hx hu => ?_
  have hi : i < xs.length := by
    have := (List.getElem?_eq_some_iff.mp hx).1
    rw [List.length_reverse] at this
    exact this
  rw [List.getElem?_reverse hi] at hx
  obtain ⟨u', hu', ru⟩ := r.get hx
  have e := h.2 i u (by simpa using hu)
  have e2 : its[its.length - 1 - i]? = some u := by simpa using e
  rw [← l, hu'] at e2
  rw [← Option.some.inj e2]
  exact ru
section
variable {X : Cx}
def tListRev (K : PySem.W.Frag) (ta : TA) : TE := fun σ H Q => ta σ H fun vs H1 => ∃ p xs, vs = [.ref p] ∧ SqT K H1 p xs ∧ xs.length ≤ 1000 ∧ ∀ l, H1 l = none → Q (.ref l) (upd H1 l (.lst xs.reverse))
theorem pe_listRev (K : PySem.W.Frag) {a : Expr} {ta : TA} {p p2 pos pos2 : Pos} (hg : Gl X "list") (hm : X.mg "list" = none) (hg2 : Gl X "reversed") (hm2 : X.mg "reversed" = none) (ha : PA X [a] ta) (hs : starEach [a] X.env = [(false, eval a X.env)] := by rfl) (hs2 : starEach [.Call (.Name "reversed" p2) [a] [] pos2] X.env = [(false, eval (.Call (.Name "reversed" p2) [a] [] pos2) X.env)] := by rfl) (hc : X.calm = true := by rfl) (hK : X.K = K := by rfl) :
    PE X (.Call (.Name "list" p) [.Call (.Name "reversed" p2) [a] [] pos2] [] pos) (tListRev K ta) := by
  subst hK
  intro pins s σ H Q I h
  refine Call_ (ld_blt I hg hm bt_list (PyProof.Rows.callWith_type1 ?_ hs2 rfl))
  rw [hs2]
  show wpAny _ _ (spliced [(false, eval (.Call (.Name "reversed" p2) [a] [] pos2) X.env)]) _ _ s
  refine Calls.spliced_cons ?_
  refine Call_ (ld_blt I hg2 hm2 bt_reversed (PyProof.Rows.callWith_type1 (thn (ha pos2 pins s σ H _ I h) fun us s1 ⟨vs, H1, I1, r1, q1⟩ => ?_) hs rfl))
  obtain ⟨p1, xs, e, hq, hz, q⟩ := q1
  subst e
  obtain ⟨u1, rfl, r2⟩ := vals1 r1
  cases r2
  obtain ⟨its, rv, pl, _⟩ := I1.tuple hq
  have lv := rv.length
  have plt : p1 < s1.heap.objs.size := PyProof.Rows.IsTup.lt pl
  have sz : its.toArray.size ≤ 1000 := by simp; omega
  refine call_reversed_tuple pl (by omega) fun tk => ?_
  refine Calls.spliced_nil ?_
  have I2 : Inv X pins σ H1 { s1 with heap := s1.heap.push (revO p1 ((its.toArray.size : Int) - 1)), toks := tk } := I1.kept (t' := tk) fun _ _ e => Heap.get?_push_of_some _ e
  have hsz : (s1.heap.push (revO p1 ((its.toArray.size : Int) - 1))).objs.size = s1.heap.objs.size + 1 := Heap.size_push ..
  refine call_list_rev (s := { s1 with heap := s1.heap.push (revO p1 ((its.toArray.size : Int) - 1)), toks := tk }) (I1.ok.hd hc) (it := s1.heap.objs.size) (t := p1) (items := its.toArray) ⟨_, Heap.get?_push_size _ rfl, rfl, rfl⟩ (let ⟨o, e, r⟩ := pl; ⟨o, Heap.get?_push_of_some _ e, r⟩) (Nat.ne_of_lt plt) sz fun h' tk2 acc c' kp he hacc => ?_
  have he' : h'.get? (s1.heap.objs.size + 1) = some { cls := .type "list", dict := none, data := .seq acc c', slots := #[] } := by
    have : ({ s1 with heap := s1.heap.push (revO p1 ((its.toArray.size : Int) - 1)), toks := tk } : Shared).heap.objs.size = s1.heap.objs.size + 1 := hsz
    rw [this] at he
    exact he
  have I3 : Inv X pins σ H1 { s1 with heap := h', toks := tk2 } := by
    refine I1.changed (t' := tk2) (ch := []) (fun b hb => by cases hb) fun c o _ e => kp c o (Nat.ne_of_lt (Heap.lt_size e)) (Heap.get?_push_of_some _ e)
  have Hn : H1 (s1.heap.objs.size + 1) = none := I1.hok.fresh (Nat.le_succ _)
  have I4 : Inv X pins σ (upd H1 (s1.heap.objs.size + 1) (.lst xs.reverse)) { s1 with heap := h', toks := tk2 } := by
    refine I3.adopt Hn (Heap.get?_none_of_le (Nat.le_succ_of_le I1.sz)) (Nat.ne_of_gt (Nat.lt_succ_of_lt I1.lt)) (fun xx cc e zz => ?_) (fun p hp zz => ?_) ⟨by rw [List.length_reverse]; exact Nat.le_of_lt (small1000 (by omega)), acc.toList, c', vals_rev rv hacc, by simpa using he'⟩
    · obtain ⟨_, q⟩ := I1.cell xx cc e
      exact absurd q.lt (by rw [zz]; exact Nat.not_lt.mpr (Nat.le_succ _))
    · exact absurd (Heap.lt_size (I1.pin p hp).1) (by rw [zz]; exact Nat.not_lt.mpr (Nat.le_succ _))
  rw [hsz]
  exact ⟨.ref (s1.heap.objs.size + 1), _, I4, rfl, q _ Hn⟩
open Classical in
def sKPut (td ty tv : TE) : TS := fun D σ H => tv σ H fun v H1 => td σ H1 fun x H2 => ty σ H2 fun y H3 => ∃ a kvs k, x = .ref a ∧ y = kV k ∧ H3 a = some (.dK kvs) ∧ kvs.length < sizeLine ∧ D.nx σ (upd H3 a (.dK (putK kvs k v)))
theorem ps_kput {o i value : Expr} {pos pos' : Pos} {td ty tv : TE} {j : Nat} (hr : Room j X.A) (ho : PE X o td) (hi : PE X i ty) (hv : PE X value tv) (hs : swapsWith value (some (.Subscript o i pos')) pos.line X.env = pure false) :
    PS X (.Assign [.Subscript o i pos'] value pos) (sKPut td ty tv) := by
  intro pins s σ H D I h
  have hu : X.A.units + 64 < cLine := hr.units
  refine wpAny_Assign_Subscript (thn (hv pins s σ H _ I h) fun r s1 ⟨v, H1, I1, rv, q1⟩ => thn (ho pins s1 σ H1 _ I1 q1) fun u s2 ⟨x, H2, I2, rx, q2⟩ => thn (hi pins s2 σ H2 _ I2 q2) fun iv s3 ⟨y, H3, I3, ry, a, kvs, k, ex, ey, e, l, q3⟩ => ?_) hs
  subst ex ey
  obtain rfl : u = Value.ref a := rx
  exact d_setItem (by omega) I3 (DPut.k e l) ry rv fun s4 I4 => ⟨σ, _, I4, q3⟩
def rKNotIn : R2 := fun y x H Q => ∃ a kvs k, x = .ref a ∧ y = kV k ∧ H a = some (.dK kvs) ∧ Q (.bl (!(valV kvs k).isSome)) H
theorem op_kNotIn {j : Nat} (hr : Room j X.A) : OpR X (compareOp .NotIn) rKNotIn := by
  intro pins s σ H x y v u Q I rx ry h
  obtain ⟨a, kvs, k, rfl, rfl, ha, q⟩ := h
  have hu : X.A.units + 64 < cLine := hr.units
  obtain rfl : u = Value.ref a := ry
  exact d_notIn (by omega) I (DGet.k ha) rx fun s' I' => ⟨.bl _, H, I', rfl, q⟩
end
end L2
namespace L2
open PySem PySem.Spec PyProof.Rows
section
variable {X : Cx}
end
end L2
namespace L4
open PySem L2
end L4
namespace L2
open PySem PySem.Spec PyProof.Rows
section
variable {prog : Program} {w : World} {A : Around} {R : Result → Shared → Prop}
abbrev TK (prog : Program) (w : World) : HeapKind prog w (List Key) := tupleKind (mixKind prog w)
theorem keyH_keep {h h' : Heap} {ks : List Key} {a b0 : Addr} (x : (TK prog w).is h ks a) (hs : ∀ b o, b ≠ b0 → h.get? b = some o → h'.get? b = some o) (hn : ∀ o, h.get? b0 = some o → o.cls ≠ .type "tuple") : (TK prog w).is h' ks a := by
  obtain ⟨o, items, n, e, c, r⟩ := x
  exact ⟨o, items, n, hs a o (fun z => by subst z; exact hn o e c) e, c, r⟩
theorem dictH_keep {h h' : Heap} {d b0 : Addr} {xs : List (List Key × Addr × Value)} (m : h.DictOfH (TK prog w) d xs) (hd : d ≠ b0) (hs : ∀ b o, b ≠ b0 → h.get? b = some o → h'.get? b = some o) (hn : ∀ o, h.get? b0 = some o → o.cls ≠ .type "tuple") : h'.DictOfH (TK prog w) d xs := by
  obtain ⟨o, es, ep, ho, hc, hd', he, his, hn'⟩ := m
  exact ⟨o, es, ep, hs d o hd ho, hc, hd', he, fun x hx => keyH_keep (his x hx) hs hn, hn'⟩
def PairAtH (prog : Program) (w : World) (h : Heap) (v : Value) (p : List Key × Addr × Value) : Prop := ∃ b, v = .ref b ∧ h.IsTuple b #[.ref p.2.1, p.2.2] ∧ (TK prog w).is h p.1 p.2.1
theorem PairAtH.keep {h h' : Heap} {v : Value} {p : List Key × Addr × Value} {b0 : Addr} (x : PairAtH prog w h v p) (hs : ∀ b o, b ≠ b0 → h.get? b = some o → h'.get? b = some o) (hn : ∀ o, h.get? b0 = some o → o.cls ≠ .type "tuple") : PairAtH prog w h' v p := by
  obtain ⟨b, rfl, ⟨o, e, c, r⟩, hk⟩ := x
  exact ⟨b, rfl, ⟨o, hs b o (fun z => by subst z; exact hn o e c) e, c, r⟩, keyH_keep hk hs hn⟩
def stAll (acc ps : List (List Key × Addr × Value)) : List (List Key × Addr × Value) := ps.foldl (fun acc p => storedH acc p.1 p.2.1 p.2.2) acc
theorem storedH_len (acc : List (List Key × Addr × Value)) (k : List Key) (a : Addr) (v : Value) : (storedH acc k a v).length ≤ acc.length + 1 := by
  unfold storedH
  split
  · rw [List.length_map]; omega
  · rw [List.length_append]; simp
theorem upd_loopH (hh : A.handled = none) (hu : A.units + 1 < cLine) (D L it : Addr) (items : Array Value) (hDL : D ≠ L) (hDi : D ≠ it) (hLi : L ≠ it) (ps : List (List Key × Addr × Value)) (hlen : ps.length = items.size) (hsz : ps.length ≤ sizeLine) :
    ∀ (n i : Nat) (s : Shared) (acc : List (List Key × Addr × Value)), n + i = items.size → acc.length ≤ i → s.heap.IsListIter it L i → s.heap.IsList L items → s.heap.DictOfH (TK prog w) D acc →
    (∀ (j : Nat) (p : List Key × Addr × Value) (v : Value), ps[j]? = some p → items[j]? = some v → PairAtH prog w s.heap v p) →
    (∀ h' tk, h'.DictOfH (TK prog w) D (stAll acc (ps.drop i)) → (∀ b o, b ≠ D → b ≠ it → s.heap.get? b = some o → h'.get? b = some o) → R (.ok (.ret .none)) { s with heap := h', toks := tk }) →
    codeAny (model prog w) A (.builtin "dict.update.loop" ⟨[.ref D, .ref it, rawInt i, .none], []⟩) R s := by
  intro n
  induction n with
  | zero =>
    intro i s acc hn hacc hit hl hd hp hR
    obtain ⟨oi, hoi, hci, _⟩ := id hit
    refine codeAny_builtin entry_upd_loop ?_
    rw [Around.under_plainId plain_upd_loop _]
    show wpAny _ A.in1 (pyNext (.ref it) >>= _) _ _ s
    refine wpAny_bind (wpAny_pyNext_list_end (show A.in1.handled = none from hh) hit hl (by simp; omega) fun h' eb => ?_)
    show wpAny _ _ (Builtin.Dict.addKeywords D [] >>= _) _ _ _
    refine wpAny_bind (wpAny_pure (wpAny_pure (hR h' s.toks ?_ fun b o _ h2 e => eb b o h2 e)))
    rw [List.drop_eq_nil_of_le (by omega)]
    exact dictH_keep hd hDi (fun b o hb e => eb b o hb e) fun o e => by rw [hoi] at e; cases e; rw [hci]; decide
  | succ n ih =>
    intro i s acc hn hacc hit hl hd hp hR
    have hi : i < items.size := by omega
    obtain ⟨v, hv⟩ : ∃ v, items[i]? = some v := ⟨items[i], by simp [hi]⟩
    obtain ⟨p, hpi⟩ : ∃ p, ps[i]? = some p := ⟨ps[i]'(by omega), by rw [List.getElem?_eq_getElem (by omega)]⟩
    refine codeAny_builtin entry_upd_loop ?_
    rw [Around.under_plainId plain_upd_loop _]
    show wpAny _ A.in1 (pyNext (.ref it) >>= _) _ _ s
    refine wpAny_bind (wpAny_pyNext_list_item hit hl hv fun h1 hit1 hs1 => ?_)
    obtain ⟨oi, hoi, hci, _⟩ := hit
    have nti : ∀ o, s.heap.get? it = some o → o.cls ≠ .type "tuple" := fun o e => by rw [hoi] at e; cases e; rw [hci]; decide
    have hp1 : ∀ (j : Nat) (p : List Key × Addr × Value) (v : Value), ps[j]? = some p → items[j]? = some v → PairAtH prog w h1 v p := fun j p v a b => (hp j p v a b).keep (b0 := it) (fun b o hb e => hs1.extBut b o hb e) nti
    obtain ⟨b, rfl, hb, hk⟩ := hp1 i p v hpi hv
    obtain ⟨ot, e1, e2, nt, e3⟩ := id hb
    have hd1 := dictH_keep hd hDi (fun b o hb e => hs1.extBut b o hb e) nti
    refine wpAny_bind (wpAny_holding (wpAny_bind (wpAny_tryCatch ?_)))
    unfold Builtin.Dict.pairItems
    refine wpAny_bind (wpAny_typeOf (T := "tuple") ⟨ot, e1, e2⟩ ?_)
    rw [if_pos (by decide)]
    refine wpAny_bind (wpAny_seqItems e1 e3 (wpAny_pure ?_))
    show wpAny _ _ (holding [.ref p.2.1, p.2.2] (dictSet D (.ref p.2.1) p.2.2)) _ _ _
    refine wpAny_holding (wpAny_dictSet_heap (s := { s with heap := h1 }) (hsz := by omega) (tupleKind_room_in1 hu) hk hd1 fun h2 hd2 hs2 => ?_)
    refine wpAny_pure ⟨plainId_quiet plain_upd_loop _, ?_⟩
    have hl1 : h1.IsList L items := hl.extBut hs1.extBut hLi
    have hle : (storedH acc p.1 p.2.1 p.2.2).length ≤ i + 1 := Nat.le_trans (storedH_len ..) (by omega)
    obtain ⟨oD, _, _, hoD, hcD, _⟩ := id hd1
    have := ih (i + 1) { s with heap := h2, toks := s.toks + (TK prog w).draws p.1 } (storedH acc p.1 p.2.1 p.2.2) (by omega) hle (hit1.extBut hs2.extBut (Ne.symm hDi)) (hl1.extBut hs2.extBut (Ne.symm hDL)) hd2 (fun j p v a b => (hp1 j p v a b).keep (b0 := D) (fun b o hb e => hs2.extBut b o hb e) fun o e => by
        rw [hoD] at e; cases e; rw [hcD.1]; decide) fun h' tk hd' hk' => ?_
    · simpa using this
    · refine hR h' tk ?_ fun b o h1 h2 e => hk' b o h1 h2 (hs2.extBut b o h1 (hs1.extBut b o h2 e))
      have e4 : ps.drop i = p :: ps.drop (i + 1) := by
        rw [List.getElem?_eq_some_iff] at hpi
        obtain ⟨h5, h6⟩ := hpi
        rw [← h6]
        exact List.drop_eq_getElem_cons h5
      unfold stAll
      rw [e4, List.foldl_cons]
      exact hd'
theorem call_dict_pairsH {E : Value → Shared → Prop} {Q : Value → Shared → Prop} {s : Shared} {L : Addr} {o : Obj} {items : Array Value} {k : Nat} {ps : List (List Key × Addr × Value)} (hh : A.handled = none) (hu : A.units + 2 < cLine) (hx : s.heap.get? L = some o) (hc : o.cls = .type "list") (hdat : o.data = .seq items k) (hdn : o.dict = none)
    (hlen : ps.length = items.size) (hsz : ps.length ≤ sizeLine) (hp : ∀ (j : Nat) (p : List Key × Addr × Value) (v : Value), ps[j]? = some p → items[j]? = some v → PairAtH prog w s.heap v p)
    (h : ∀ h' tk, h'.DictOfH (TK prog w) s.heap.objs.size (stAll [] ps) → (∀ b o, s.heap.get? b = some o → h'.get? b = some o) → Q (.ref s.heap.objs.size) { s with heap := h', toks := tk }) :
    wpAny (model prog w) A (call (.type "dict") [.ref L]) Q E s := by
  refine callType_codes (Q₁ := fun obj s₁ => obj = .ref s.heap.objs.size ∧ s₁ = { s with heap := s.heap.push { cls := .type "dict", data := .dict #[] } }) PySem.F.kt_called_dict (PySem.F.kt_typeCall_dict_1 _) PySem.F.entry_dict_init (kt_code_dict_new _ ⟨rfl, rfl⟩) ?_
  rintro obj s₁ ⟨rfl, rfl⟩
  have hnew : (s.heap.push { cls := .type "dict", data := .dict #[] }).DictOf (mixKind prog w) s.heap.objs.size [] := Heap.DictOf.new s.heap
  have hnewH : (s.heap.push { cls := .type "dict", data := .dict #[] }).DictOfH (TK prog w) s.heap.objs.size [] := ⟨_, #[], 0, Heap.get?_push_size _ rfl, ⟨rfl, rfl, rfl⟩, rfl, rfl, fun x hx => (by cases hx), .nil⟩
  have hx1 := Heap.get?_push_of_some { cls := .type "dict", data := .dict #[] } hx
  have Llt : L < s.heap.objs.size := Heap.lt_size hx
  refine ⟨hnew.typeIs, PySem.F.args_dict_init_2 _ _, ?_⟩
  unfold Builtin.«dict.__init__»
  refine wpAny_bind ?_
  unfold Builtin.Dict.selfAndRest
  refine wpAny_bind (wpAny_notOrdered_dict hnew.typeIs ?_)
  show wpAny _ _ (pure (s.heap.objs.size, [Value.ref L])) _ _ _
  refine wpAny_pure ?_
  show wpAny _ _ (Builtin.Dict.updateFrom "dict.__init__" s.heap.objs.size (.ref L) [] .none) _ _ _
  unfold Builtin.Dict.updateFrom
  refine wpAny_bind (wpAny_typeOf (T := "list") ⟨o, hx1, hc⟩ ?_)
  rw [if_pos (by decide)]
  refine wpAny_bind (keys_miss hx1 hc hdat hdn (show A.in1.in1.handled = none from hh) fun h' tk kp => ?_)
  rw [if_pos (by rfl)]
  have hL' : h'.IsList L items := ⟨o, kp _ _ hx1, hc, k, hdat⟩
  refine wpAny_bind (wpAny_rule (wpAny_bind (wpAny_pyIter_list hL' ?_)))
  have Dget : ∃ od, h'.get? s.heap.objs.size = some od := ⟨_, kp _ _ (Heap.get?_push_size _ rfl)⟩
  have Dlt : s.heap.objs.size < h'.objs.size := let ⟨_, e⟩ := Dget; Heap.lt_size e
  refine wpAny_pure ⟨plainId_quiet plain_upd_loop _, ?_⟩
  have it0 : (h'.push { cls := .type "list_iterator", data := .fields #[.ref L, .int 0 0] }).IsListIter h'.objs.size L 0 := ⟨_, Heap.get?_push_size _ rfl, rfl, rfl⟩
  have hd' : (h'.push { cls := .type "list_iterator", data := .fields #[.ref L, .int 0 0] }).DictOfH (TK prog w) s.heap.objs.size [] := by
    obtain ⟨od, es, ep, e, h1, h2, h3, _, h5⟩ := hnewH
    exact ⟨od, es, ep, Heap.get?_push_of_some _ (kp _ _ e), h1, h2, h3, (fun x hx => by cases hx), h5⟩
  refine upd_loopH (A := A.in1) (show A.in1.handled = none from hh) (show A.units + 1 + 1 < cLine from hu) s.heap.objs.size L h'.objs.size items (Nat.ne_of_gt Llt) (Nat.ne_of_lt Dlt) (Nat.ne_of_lt (Nat.lt_trans Llt Dlt)) ps hlen hsz items.size 0 { s with heap := h'.push { cls := .type "list_iterator", data := .fields #[.ref L, .int 0 0] }, toks := tk } [] rfl (Nat.le_refl _) it0 (hL'.push _) hd' (fun j p v a b => ?_) fun h2 tk2 hd2 hk2 => ?_
  · obtain ⟨bb, e1, ⟨ot, e2, r⟩, ⟨o3, i3, n3, e3, r3⟩⟩ := hp j p v a b
    exact ⟨bb, e1, ⟨ot, Heap.get?_push_of_some _ (kp _ _ (Heap.get?_push_of_some _ e2)), r⟩, ⟨o3, i3, n3, Heap.get?_push_of_some _ (kp _ _ (Heap.get?_push_of_some _ e3)), r3⟩⟩
  · refine ⟨rfl, h h2 tk2 ?_ fun b ob e => hk2 b ob (Nat.ne_of_lt (Heap.lt_size e)) (Nat.ne_of_lt (Nat.lt_trans (Heap.lt_size e) Dlt)) (Heap.get?_push_of_some _ (kp _ _ (Heap.get?_push_of_some _ e)))⟩
    rw [List.drop_zero] at hd2
    exact hd2
end
def PrsT (H : Hp) : List V → List (List Key × V) → Prop := Paired fun x p => ∃ b kb, x = .ref b ∧ H b = some (.tup [.ref kb, p.2]) ∧ H kb = some (.tup (p.1.map kV))
def putAllT (kvs ps : List (List Key × V)) : List (List Key × V) := ps.foldl (fun acc p => putK acc p.1 p.2) kvs
theorem prsT_at {P : Program} {w : World} {H : Hp} {h : Heap} (ok : HOk P w H h) {xs : List V} {ps : List (List Key × V)} (r : PrsT H xs ps) : ∀ {us : List Value}, Vals xs us → ∃ rs : List (List Key × Addr × Value), KT H ps rs ∧ ∀ (j : Nat) (p : List Key × Addr × Value) (v : Value), rs[j]? = some p → us[j]? = some v → PairAtH P w h v p := by
  unfold PrsT at r
  induction r with
  | nil =>
    intro us rv
    exact ⟨[], .nil, fun j p v e => by simp at e⟩
  | @cons x p xs ps hx t ih =>
    intro us rv
    cases rv with
    | @cons _ u _ us hu rv =>
      obtain ⟨rs, r1, r2⟩ := ih rv
      obtain ⟨b, kb, rfl, hb, hkb⟩ := hx
      obtain ⟨_, its, ri, o, e1, e2, ⟨n, e3⟩, _⟩ := (show ObjOk P w H h b (.tup [.ref kb, p.2]) from ok b _ hb)
      cases ri with
      | @cons _ ku _ _ hk ri =>
        cases ri with
        | @cons _ vu _ _ hv ri =>
          cases ri
          obtain rfl : ku = Value.ref kb := hk
          refine ⟨(p.1, kb, vu) :: rs, .cons ⟨rfl, hkb, hv⟩ r1, fun j q v ej ev => ?_⟩
          cases j with
          | zero =>
            cases (Option.some.inj ej)
            cases (Option.some.inj ev)
            obtain rfl : u = Value.ref b := hu
            exact ⟨b, rfl, ⟨o, e1, e2, n, e3⟩, key_of ok hkb⟩
          | succ j => exact r2 j q v ej ev
theorem put_allT {H : Hp} {ps : List (List Key × V)} {rs : List (List Key × Addr × Value)} (r : KT H ps rs) : ∀ {acc : List (List Key × V)} {bcc : List (List Key × Addr × Value)}, KT H acc bcc → KT H (putAllT acc ps) (stAll bcc rs) := by
  unfold KT at r
  induction r with
  | nil => exact fun q => q
  | @cons p q ps qs h t ih =>
    intro acc bcc ra
    obtain ⟨h1, h2, h3⟩ := h
    show KT H (putAllT (putK acc p.1 p.2) ps) (stAll (storedH bcc q.1 q.2.1 q.2.2) qs)
    rw [← h1]
    exact ih (KT.put ra p.1 h2 h3)
theorem length_putAllT : ∀ (ps acc : List (List Key × V)), (putAllT acc ps).length ≤ acc.length + ps.length
  | [], acc => Nat.le_refl _
  | p :: ps, acc => by
    have h1 := length_putAllT ps (putK acc p.1 p.2)
    have h2 := length_putK acc p.1 p.2
    show (putAllT (putK acc p.1 p.2) ps).length ≤ _
    rw [List.length_cons]; omega
section
variable {X : Cx}
def tDictPT (ta : TA) : TE := fun σ H Q => ta σ H fun vs H1 => ∃ p xs ps, vs = [.ref p] ∧ H1 p = some (.lst xs) ∧ PrsT H1 xs ps ∧ ∀ D, H1 D = none → Q (.ref D) (upd H1 D (.dT (putAllT [] ps)))
theorem pe_dictPT {k : Nat} (hr : Room k X.A) {a : Expr} {ta : TA} {p pos : Pos} (hg : Gl X "dict") (hm : X.mg "dict" = none) (ha : PA X [a] ta) (hs : starEach [a] X.env = [(false, eval a X.env)] := by rfl) (hc : X.calm = true := by rfl) :
    PE X (.Call (.Name "dict" p) [a] [] pos) (tDictPT ta) := by
  intro pins s σ H Q I h
  have hu : X.A.units + 64 < cLine := hr.units
  refine Call_ (ld_blt I hg hm bt_dict (PyProof.Rows.callWith_type1 (thn (ha pos pins s σ H _ I h) fun us s1 ⟨vs, H1, I1, r1, q1⟩ => ?_) hs rfl))
  obtain ⟨p1, xs, ps, e, hq, hps, q⟩ := q1
  subst e
  obtain ⟨u1, rfl, r2⟩ := vals1 r1
  cases r2
  obtain ⟨hz, its, n, rv, eo⟩ := (show ObjOk X.prog X.w H1 s1.heap p1 (.lst xs) from I1.hok p1 _ hq)
  obtain ⟨rs, rk, hpa⟩ := prsT_at I1.hok hps rv
  have a1 : ps.length = rs.length := Paired.length rk
  have a2 := Paired.length hps
  have l1 : rs.length = its.toArray.size := by
    have a3 := rv.length
    simp; omega
  refine call_dict_pairsH (ps := rs) (I1.ok.hd hc) (by omega) eo rfl rfl rfl l1 (by omega) (fun j p v a b => hpa j p v a (by simpa using b)) fun h' tk hd' kp => ?_
  have hb : (s1.heap.objs.size == sysModules) = false := beq_eq_false_iff_ne.mpr (Ne.symm (Nat.ne_of_lt I1.big))
  have hl : (putAllT [] ps).length ≤ sizeLine := by
    have := length_putAllT ps []
    simp at this; omega
  have Hn : H1 s1.heap.objs.size = none := I1.hok.fresh (Nat.le_refl _)
  obtain ⟨od, es, ep, f1, f2, f3, f4, _, f6⟩ := hd'
  exact ⟨.ref s1.heap.objs.size, _, I1.laid (a := s1.heap.objs.size) (o := .dT (putAllT [] ps)) (t' := tk) kp (Nat.le_refl _) ⟨hl, hb, _, (put_allT rk .nil).keeps fun b ys e => by rw [upd_ne (ne_of_none e Hn)]; exact e, od, es, ep, f1, f2, f3, f4, f6⟩, rfl, q _ Hn⟩
theorem hu1 {k : Nat} {A : Around} (hr : Room k A) : A.units + 1 < cLine := by
  have : A.units + 64 < cLine := hr.units
  omega
def rTNotIn : R2 := fun y x H Q => ∃ a b kvs k, x = .ref a ∧ y = .ref b ∧ H a = some (.dT kvs) ∧ H b = some (.tup (k.map kV)) ∧ Q (.bl (!(valV kvs k).isSome)) H
theorem op_tNotIn {j : Nat} (hr : Room j X.A) : OpR X (compareOp .NotIn) rTNotIn := by
  intro pins s σ H x y v u Q I rx ry h
  obtain ⟨a, b, kvs, k, rfl, rfl, ha, hb, q⟩ := h
  have hu : X.A.units + 64 < cLine := hr.units
  obtain rfl : u = Value.ref a := ry
  exact d_notIn (by omega) I (DGet.t ha hb) rx fun s' I' => ⟨.bl _, H, I', rfl, q⟩
end
end L2
namespace L2
open PySem
end L2
namespace L2
open PySem
section
variable {prog : Program} {w : World} {K : Type} [DecidableEq K] {knd : KeyKind prog w K} {A : Around} {E : Value → Shared → Prop} {s : Shared}
end
end L2
namespace L2
open PySem
end L2
namespace L2
open PySem
end L2
namespace L2
open PySem
end L2
namespace L2
open PySem
end L2
namespace L2
open PySem
section
variable {prog : Program} {w : World} {A : Around} {E : Value → Shared → Prop} {s : Shared}
end
end L2
namespace L2
open PySem PySem.Spec PyProof.Rows
section
variable {prog : Program} {w : World} {A : Around} {E : Value → Shared → Prop} {s : Shared}
end
end L2
namespace L2
open PySem PySem.Spec PyProof.Rows
section
variable {prog : Program} {w : World} {A : Around} {E : Value → Shared → Prop} {s : Shared} {a I : Addr} {es : Array (Int × Value)} {ep : Nat} {t : SetTable}
end
end L2
namespace L2
open PySem PySem.Spec PyProof.Rows PySem.W
section
variable {prog : Program} {w : World} {A : Around} {E : Value → Shared → Prop} {s : Shared} {a : Addr} {es : Array (Int × Value)} {ep : Nat} {t : SetTable}
end
section
variable {X : Cx}
end
end L2
namespace L2
open PySem PySem.Spec PyProof.Rows
section
variable {X : Cx}
theorem paired_get {α β : Type} {R : α → β → Prop} {as : List α} {bs : List β} (h : Paired R as bs) : ∀ {i : Nat} {a : α}, as[i]? = some a → ∃ b, bs[i]? = some b ∧ R a b := by
  induction h with
  | nil => intro i a e; simp at e
  | cons r _ ih =>
    intro i a e
    cases i with
    | zero =>
      simp at e
      subst e
      exact ⟨_, rfl, r⟩
    | succ i =>
      obtain ⟨b, e1, e2⟩ := ih (i := i) (by simpa using e)
      exact ⟨b, by simpa using e1, e2⟩
end
section
variable {prog : Program} {w : World} {A : Around} {R : Result → Shared → Prop}
end
section
variable {X : Cx}
end
end L2
namespace L2
open PySem PySem.Spec PyProof.Rows
section
variable {X : Cx}
end
end L2
namespace L4
open PySem L2
-- residuation
namespace Sy
end Sy
def Ltr (x : Str) : Prop := x.length = 1 ∧ Small x
end L4
namespace L4
open PySem L2
theorem PrsT.tk {H H' : Hp} (s : Tk H H') {xs : List V} {ps : List (List Key × V)} (h : PrsT H xs ps) : PrsT H' xs ps := by
  unfold PrsT at h ⊢
  induction h with
  | nil => exact .nil
  | cons r _ ih =>
    obtain ⟨b, kb, e, hb, hk⟩ := r
    exact .cons ⟨b, kb, e, s _ _ hb, s _ _ hk⟩ ih
theorem PrsT.snoc {H : Hp} {xs : List V} {ps : List (List Key × V)} {p : List Key × V} {b kb : Addr} (h : PrsT H xs ps) (hb : H b = some (.tup [.ref kb, p.2])) (hk : H kb = some (.tup (p.1.map kV))) : PrsT H (xs ++ [.ref b]) (ps ++ [p]) := by
  unfold PrsT at h ⊢
  induction h with
  | nil => exact .cons ⟨b, kb, rfl, hb, hk⟩ .nil
  | cons r _ ih => exact .cons r ih
theorem putT_other : ∀ (ps acc : List (List Key × V)) (k : List Key), k ∉ ps.map Prod.fst → valV (putAllT acc ps) k = valV acc k
  | [], acc, k, _ => rfl
  | p :: ps, acc, k, h => by
    rw [List.map_cons, List.mem_cons, not_or] at h
    show valV (putAllT (putK acc p.1 p.2) ps) k = _
    rw [putT_other ps _ k h.2, valV_put, if_neg h.1]
theorem putT_at : ∀ (ps acc : List (List Key × V)) (p : List Key × V), (ps.map Prod.fst).Nodup → p ∈ ps → valV (putAllT acc ps) p.1 = some p.2
  | [], acc, p, _, h => by cases h
  | z :: ps, acc, p, hn, h => by
    rw [List.map_cons, List.nodup_cons] at hn
    show valV (putAllT (putK acc z.1 z.2) ps) p.1 = _
    rcases List.mem_cons.mp h with rfl | h
    · rw [putT_other ps _ _ hn.1, valV_put, if_pos rfl]
    · exact putT_at ps _ p hn.2 h
end L4
namespace Tn
end Tn
namespace L2
open PySem PySem.Spec PyProof.Rows
section
variable {X : Cx} {N' : List Str} {ix : List (Option Nat)} {scope : Scope} {y : Str} {pins : List (Addr × Obj)} {σ : St} {H : Hp} {s : Shared} {fp : List Addr}
end
end L2
namespace L2
open PySem PySem.Spec PyProof.Rows
end L2
namespace L2
open PySem PySem.Spec PyProof.Rows PySem.W
def EAt (h : Heap) (d : Addr) (es : Array DictEntry) (ep : Nat) : Prop := ∃ o, h.get? d = some o ∧ o.ExactDict ∧ o.data = .dict es ep
theorem EAt.keep {h h' : Heap} {d : Addr} {es : Array DictEntry} {ep : Nat} (x : EAt h d es ep) (k : ∀ o, h.get? d = some o → h'.get? d = some o) : EAt h' d es ep := let ⟨o, ho, r⟩ := x; ⟨o, k o ho, r⟩
theorem EAt.ty {s : Shared} {d : Addr} {es : Array DictEntry} {ep : Nat} (x : EAt s.heap d es ep) : s.TypeIs (.ref d) "dict" := let ⟨o, ho, hc, _⟩ := x; ⟨o, ho, hc.1⟩
theorem EAt.lt {h : Heap} {d : Addr} {es : Array DictEntry} {ep : Nat} (x : EAt h d es ep) : d < h.objs.size := let ⟨_, ho, _⟩ := x; Heap.lt_size ho
section
variable {prog : Program} {w : World} {A : Around} {E : Value → Shared → Prop} {s : Shared} {d it : Addr} {es : Array DictEntry} {ep i : Nat}
theorem iter_e {Q : Value → Shared → Prop} (hd : (d == sysModules) = false) (hm : EAt s.heap d es ep)
    (hQ : Q (.ref s.heap.objs.size) { s with heap := s.heap.push { cls := .type "dict_keyiterator", data := .fields #[.ref d, .int 0 0, .int es.size 0, .int ep 0] } }) :
    wpAny (model prog w) A (pyIter (.ref d)) Q E s := by
  have hT := hm.ty
  obtain ⟨o, ho, hc, hdat⟩ := id hm
  refine wpAny_pyIter_slot hT F.slot_dict_iter (wpAny_call_entry F.slot_dict_iter hT F.entry_dict_iter ?_ (F.args_dict_iter_1 _))
  unfold Builtin.«dict.__iter__»
  refine wpAny_bind ?_
  unfold Builtin.Dict.dictSlotNone
  refine wpAny_bind (wpAny_notOrdered_dict hT (wpAny_pure ?_))
  show wpAny _ _ (Builtin.Dict.showsAll d >>= _) _ _ s
  unfold Builtin.Dict.showsAll
  rw [if_neg (by rw [hd]; exact Bool.false_ne_true)]
  refine wpAny_bind (wpAny_pure (wpAny_bind (wpAny_dictEntries ho hdat (wpAny_bind (wpAny_dictEpoch ho hdat ?_)))))
  exact wpAny_bind (wpAny_newObj_type (wpAny_pure ⟨_, rfl, "dict_keyiterator", _, ⟨_, Heap.get?_push_size _ rfl, rfl⟩, F.slot_dict_keyiterator_next.lookup, hQ⟩))
theorem next_e {Q : Option Value → Shared → Prop} (hit : s.heap.IsKeyIter it d i es.size ep) (hm : EAt s.heap d es ep) (hi : i < es.size)
    (hQ : ∀ h', h'.IsKeyIter it d (i + 1) es.size ep → Heap.SameBut it s.heap h' → Q (some es[i].key) { s with heap := h' }) :
    wpAny (model prog w) A (pyNext (.ref it)) Q E s := by
  obtain ⟨o, ho, hc, hd⟩ := id hit
  obtain ⟨od, hod, hcd, hdd⟩ := id hm
  unfold pyNext
  refine wpAny_bind (wpAny_attempt (wpAny_callSpecial?_slot (name := Str.ofString "__next__") hit.typeIs F.slot_dict_keyiterator_next
    (wpAny_call_entry F.slot_dict_keyiterator_next hit.typeIs F.entry_dict_keyiterator_next ?_ (F.args_dict_keyiterator_next_1 _))))
  refine wpAny_bind (wpAny_pure (wpAny_bind (wpAny_bind ?_)))
  first | refine wpAny_bind (wpAny_typeNameOfWhole_keyiter hit.typeIs (wpAny_pure ?_)) | refine wpAny_bind (wpAny_typeNameOf_keyiter hit.typeIs (wpAny_pure ?_))
  refine wpAny_bind (wpAny_fieldsOf ho hd ?_)
  simp only [show Builtin.Dict_items.ownsTuple "dict_keyiterator" = false by decide, Bool.false_eq_true, if_false]
  show wpAny _ _ (if (Value.ref d == Value.none) = true then _ else _) _ _ s
  rw [if_neg (show ¬ ((Value.ref d == Value.none) = true) from Bool.false_ne_true)]
  refine wpAny_bind (wpAny_pure (wpAny_bind (wpAny_dictEntries hod hdd ?_)))
  rw [if_neg (by simp)]
  refine wpAny_bind (wpAny_pure (wpAny_bind (wpAny_dictEpoch hod hdd ?_)))
  rw [if_neg (by simp)]
  refine wpAny_pure ?_
  simp only [show ¬ ((i : Int) < 0) from by omega, if_false, Int.toNat_natCast, Array.getElem?_eq_getElem hi]
  refine wpAny_bind ?_
  first | refine wpAny_bind (wpAny_typeNameOfWhole_keyiter hit.typeIs (wpAny_pure ?_)) | refine wpAny_bind (wpAny_typeNameOf_keyiter hit.typeIs (wpAny_pure ?_))
  refine wpAny_bind (wpAny_isOneOf_keyiter hit.typeIs ?_)
  show wpAny _ _ (setField (.ref it) 1 (rawInt ((i : Int) + 1)) >>= _) _ _ s
  refine wpAny_bind (wpAny_setField ho hd (by simp) ?_)
  have hit' : (s.heap.update it (Obj.mapFields (·.setIfInBounds 1 (rawInt ((i : Int) + 1))))).IsKeyIter it d (i + 1) es.size ep :=
    ⟨_, Heap.get?_update_self _ ho (Obj.isFreed_of_fields (Obj.data_mapFields hd _)), (Obj.cls_mapFields ..).trans hc, by rw [Obj.data_mapFields hd]; simp [rawInt]⟩
  refine wpAny_bind (wpAny_holding ?_)
  refine wpAny_bind (wpAny_isOneOf_keyiter (s := { s with heap := s.heap.update it (Obj.mapFields (·.setIfInBounds 1 (rawInt ((i : Int) + 1)))) }) hit'.typeIs ?_)
  show wpAny _ _ (pure es[i].key) _ _ _
  exact wpAny_pure (wpAny_pure ⟨_, rfl, wpAny_pure (hQ _ hit' (Heap.SameBut.update ..))⟩)
theorem last_e {Q : Option Value → Shared → Prop} (hh : A.handled = none) (hit : s.heap.IsKeyIter it d es.size es.size ep) (hm : EAt s.heap d es ep)
    (hQ : ∀ h', Heap.ExtBut it s.heap h' → Q none { s with heap := h' }) : wpAny (model prog w) A (pyNext (.ref it)) Q E s := by
  obtain ⟨o, ho, hc, hd⟩ := id hit
  obtain ⟨od, hod, hcd, hdd⟩ := id hm
  unfold pyNext
  refine wpAny_bind (wpAny_attempt (wpAny_callSpecial?_slot (name := Str.ofString "__next__") hit.typeIs F.slot_dict_keyiterator_next
    (wpAny_call_entry F.slot_dict_keyiterator_next hit.typeIs F.entry_dict_keyiterator_next ?_ (F.args_dict_keyiterator_next_1 _))))
  refine wpAny_bind (wpAny_pure (wpAny_bind (wpAny_bind ?_)))
  first | refine wpAny_bind (wpAny_typeNameOfWhole_keyiter hit.typeIs (wpAny_pure ?_)) | refine wpAny_bind (wpAny_typeNameOf_keyiter hit.typeIs (wpAny_pure ?_))
  refine wpAny_bind (wpAny_fieldsOf ho hd ?_)
  simp only [show Builtin.Dict_items.ownsTuple "dict_keyiterator" = false by decide, Bool.false_eq_true, if_false]
  show wpAny _ _ (if (Value.ref d == Value.none) = true then _ else _) _ _ s
  rw [if_neg (show ¬ ((Value.ref d == Value.none) = true) from Bool.false_ne_true)]
  refine wpAny_bind (wpAny_pure (wpAny_bind (wpAny_dictEntries hod hdd ?_)))
  rw [if_neg (by simp)]
  refine wpAny_bind (wpAny_pure (wpAny_bind (wpAny_dictEpoch hod hdd ?_)))
  rw [if_neg (by simp)]
  refine wpAny_pure ?_
  simp only [show ¬ ((es.size : Int) < 0) from by omega, if_false, Int.toNat_natCast, Array.getElem?_eq_none (Nat.le_refl es.size)]
  refine wpAny_bind ?_
  first | refine wpAny_bind (wpAny_typeNameOfWhole_keyiter hit.typeIs (wpAny_pure ?_)) | refine wpAny_bind (wpAny_typeNameOf_keyiter hit.typeIs (wpAny_pure ?_))
  show wpAny _ _ (setField (.ref it) 0 .none >>= _) _ _ s
  refine wpAny_bind (wpAny_setField ho hd (by simp) ?_)
  show wpAny _ _ (newExc (.type "StopIteration") [] >>= _) _ _ _
  refine wpAny_bind ?_
  simp only [newExc, newTuple]
  refine wpAny_bind (wpAny_newObj_type ?_ (by size_fits))
  refine wpAny_bind (m := firstArgMember _ _) (wpAny_of_eq (a := Value.none) (by first | rfl | (simp only [firstArgMember]; rfl)) ?_)
  refine wpAny_newObj_type ?_ (by size_fits)
  simp only [raiseNew]
  refine wpAny_bind (wpAny_handled ?_)
  rw [show A.in1.handled = none from hh]
  refine wpAny_bind (wpAny_pure (wpAny_throw ?_))
  refine wpAny_bind (wpAny_isInstance (T := "StopIteration") (b := true) ⟨_, Heap.get?_push_size _ rfl, rfl⟩ isSubtype_stop ?_)
  exact wpAny_pure (hQ _ (((Heap.SameBut.update ..).extBut.push _).push _))
theorem walks_e (hh : A.handled = none) (I : Addr) (hne : d ≠ I) : Walks prog w A I [I, d] [I] es.size (fun i v => ∃ e, es[i]? = some e ∧ v = e.key) (fun i h => h.IsKeyIter I d i es.size ep ∧ EAt h d es ep) where
  sub := fun b hb => by simp at hb; simp [hb]
  frame := fun _ _ _ st hk => ⟨st.1.at fun o e => hk I (by simp) o e, st.2.keep fun o e => hk d (by simp) o e⟩
  item := fun i s Q E hi st hQ => next_e st.1 st.2 hi fun h' hit' hs' => hQ _ h' s.toks ⟨_, Array.getElem?_eq_getElem hi, rfl⟩ ⟨hit', st.2.keep fun o e => hs'.extBut d o hne e⟩ fun b o hb e => hs'.extBut b o (fun h => hb (by simp [h])) e
  done := fun s Q E st hQ => last_e hh st.1 st.2 fun h' he' => hQ h' s.toks fun b o hb e => he' b o (fun h => hb (by simp [h])) e
  self := fun _ _ _ _ st hQ => wpAny_pyIter_keyiter st.1 hQ
theorem kdl_e (lo : (d == sysModules) = false) : KdlSrc prog w "dict" d d es.size (fun i v => ∃ e, es[i]? = some e ∧ v = e.key) (fun h => EAt h d es ep) where
  type := fun _ hm => hm.ty
  there := fun _ hm => ⟨hm.lt, hm.lt⟩
  keep := fun _ _ hm hk => hm.keep fun o e => hk d (.inl rfl) o e
  notList := by decide
  notTuple := by decide
  hint := fun _ _ _ _ hm hq => kdl_hint_dict hm.ty hq
  iter := fun _ _ hh hm => ⟨_, _, (fun _ _ hq => iter_e lo hm hq), walks_e hh _ (Nat.ne_of_lt hm.lt), ⟨⟨_, Heap.get?_push_size _ rfl, rfl, rfl⟩, hm.keep fun o e => Heap.get?_push_of_some _ e⟩⟩
end
end L2
namespace L2
open PySem PySem.Spec PyProof.Rows PySem.W
section
variable {prog : Program} {w : World} {A : Around} {E : Value → Shared → Prop} {s : Shared}
end
section
variable {X : Cx}
end
end L2
namespace L2
open PySem PySem.Spec PyProof.Rows PySem.W
section
variable {X : Cx}
end
end L2
namespace L2
open PySem PySem.Spec PyProof.Rows
end L2
namespace L2
open PySem PySem.Spec PyProof.Rows
section
variable {X : Cx}
end
end L2
namespace L2
open PySem PySem.Spec PyProof.Rows PySem.W
section
variable {prog : Program} {w : World} {A : Around} {E : Value → Shared → Prop} {s : Shared}
end
section
variable {prog : Program} {w : World} {A : Around} {E : Value → Shared → Prop} {s : Shared} {a I : Addr} {es : Array (Int × Value)} {ep : Nat} {t : SetTable}
end
section
variable {prog : Program} {w : World} {A : Around} {E : Value → Shared → Prop} {s : Shared}
section
variable {a I p : Addr} {es : Array (Int × Value)} {ep : Nat} {t : SetTable} {pl : List Nat}
end
end
section
variable {X : Cx}
end
end L2
namespace L2
open PySem PySem.Spec PyProof.Rows
section
variable {X : Cx}
theorem call_lenD : CallR X (.builtin "len") (fun xs H Q => ∃ a kvs, xs = [.ref a] ∧ H a = some (.dK kvs) ∧ Q (.int (kvs.length : Nat)) H) := by
  intro pins s σ H xs us Q I r h
  obtain ⟨a, kvs, rfl, ha, q⟩ := h
  obtain ⟨u, rfl, rx⟩ := vals1 r
  cases rx
  exact d_len I (.inl ha) fun t s' I' => ⟨.int _, H, I', ⟨_, rfl⟩, q⟩
end
end L2
namespace L4
open PySem L2
namespace Sy
end Sy
end L4
namespace L2
open PySem PySem.Spec PyProof.Rows
section
variable {prog : Program} {w : World} {A : Around} {E : Value → Shared → Prop} {s : Shared}
end
section
variable {X : Cx}
end
end L2
namespace L4
open PySem L2
end L4
namespace L2
open PySem PySem.Spec PyProof.Rows
section
variable {prog : Program} {w : World} {A : Around} {E : Value → Shared → Prop} {s : Shared}
variable {z TI TO i1 i2 t1 t2 : Addr} {xs ys : Array Value} {k : Nat} {a0 : Addr} {b : Bool}
variable {R : Result → Shared → Prop}
end
section
variable {X : Cx}
end
end L2
namespace L2
open PySem PySem.Spec PyProof.Rows
section
variable {X : Cx}
end
end L2
namespace L4
open PySem L2
end L4
namespace L2
open PySem PySem.Spec PyProof.Rows
section
variable {prog : Program} {w : World} {A : Around} {E : Value → Shared → Prop} {s : Shared}
structure ZipAtM (z TI TO i1 i2 t1 t2 : Addr) (xs ys : Array Value) (f0 : Value) (k1 k2 : Nat) (h : Heap) : Prop where
  zi : IsZip h z TI TO f0
  ti : IsPair h TI (.ref i1) (.ref i2)
  to : ∃ a b, IsPair h TO a b
  a1 : h.IsListIter i1 t1 k1
  a2 : h.IsTupleIter i2 t2 k2
  b1 : h.IsList t1 xs
  b2 : h.IsTuple t2 ys
variable {z TI TO i1 i2 t1 t2 : Addr} {xs ys : Array Value} {k1 k2 : Nat}
theorem zip_itemM {x y : Value} {Q : Value → Shared → Prop} (D : Far z TI TO i1 i2 t1 t2) (Z : ZipAtM z TI TO i1 i2 t1 t2 xs ys .none k1 k2 s.heap) (hx : xs[k1]? = some x) (hy : ys[k2]? = some y)
    (q : ∀ h', ZipAtM z TI TO i1 i2 t1 t2 xs ys (rawInt s.heap.objs.size) (k1 + 1) (k2 + 1) h' → IsPair h' s.heap.objs.size x y → Kept4 z TO i1 i2 s.heap h' → Q (.ref s.heap.objs.size) { s with heap := h' }) :
    wpAny (model prog w) A (Builtin.«zip.__next__» ⟨[.ref z], []⟩) (fun fin s' => ∃ v, fin = .done (.ret v) ∧ Q v s') E s := by
  obtain ⟨nd, f1, f2⟩ := D
  simp only [List.nodup_cons, List.mem_cons, List.not_mem_nil, or_false, not_or, List.nodup_nil, and_true, not_false_eq_true] at nd f1 f2
  obtain ⟨⟨nzI, nzO, nz1, nz2⟩, ⟨nIO, nI1, nI2⟩, ⟨nO1, nO2⟩, n12⟩ := nd
  obtain ⟨p1z, p1O, p11, p12⟩ := f1
  obtain ⟨p2z, p2O, p21, p22⟩ := f2
  obtain ⟨zi, ti, ⟨a, b, to⟩, a1, a2, b1, b2⟩ := Z
  refine wpAny_bind (m := field (.ref z) 2) (wpAny_field zi rfl (x := .bool false) rfl ?_)
  refine wpAny_bind (m := field (.ref z) 3) (wpAny_field zi rfl (x := .ref TI) rfl (wpAny_bind (wpAny_seqItems ti rfl ?_)))
  refine wpAny_bind (m := Builtin.SmallTypes.ownedTupleIsFree (.ref z)) ?_
  unfold Builtin.SmallTypes.ownedTupleIsFree; refine wpAny_bind (wpAny_field zi rfl (x := .none) rfl (wpAny_pure ?_))
  simp only [if_true]; refine wpAny_bind (wpAny_rule (wpAny_bind (wpAny_field zi rfl (x := .ref TO) rfl (wpAny_bind (wpAny_setField_rec zi (by simp) fun g1 zi1' s1 => ?_)))))
  have zi1 : IsZip g1 z TI TO .ellipsis := zi1'
  refine wpAny_bind ?_
  simp only [List.zipIdx_cons, List.zipIdx_nil, List.forIn_cons, List.forIn_nil]
  refine wpAny_bind (wpAny_bind (wpAny_onRaise (wpAny_bind (m := Builtin.SmallTypes.nextOf (.ref i1)) ?_)))
  refine wpAny_nextOf_list_item (a1.extBut s1.extBut (Ne.symm nz1)) (b1.extBut s1.extBut p1z) hx fun g2 a1' s2 => wpAny_pure ?_
  have to2 : IsPair g2 TO a b := s2.extBut _ _ nO1 (s1.extBut _ _ (Ne.symm nzO) to)
  refine wpAny_bind (wpAny_seqItems to2 rfl (wpAny_bind (wpAny_updateSeq_pair to2 fun g3 to3' s3 => wpAny_bind (wpAny_letGo (wpAny_pure ?_)))))
  have to3 : IsPair g3 TO x b := to3'
  refine wpAny_bind (wpAny_bind (wpAny_onRaise (wpAny_bind (m := Builtin.SmallTypes.nextOf (.ref i2)) ?_)))
  refine nextOf_tupI (((a2.extBut s1.extBut (Ne.symm nz2)).extBut s2.extBut (Ne.symm n12)).extBut s3.extBut (Ne.symm nO2)) (((b2.extBut s1.extBut p2z).extBut s2.extBut p21).extBut s3.extBut p2O) hy fun g4 a2' s4 => wpAny_pure ?_
  have to4 : IsPair g4 TO x b := s4.extBut _ _ nO2 to3
  refine wpAny_bind (wpAny_seqItems to4 rfl (wpAny_bind (wpAny_updateSeq_pair to4 fun g5 to5' s5 => wpAny_bind (wpAny_letGo (wpAny_pure (wpAny_pure ?_))))))
  have to5 : IsPair g5 TO x y := to5'
  refine wpAny_bind (wpAny_seqItems to5 rfl (wpAny_bind (wpAny_newTuple ?_)))
  have sz : g5.objs.size = s.heap.objs.size := by rw [s5.1, s4.1, s3.1, s2.1, s1.1]
  have zi5 : IsZip g5 z TI TO .ellipsis := s5.extBut _ _ nzO (s4.extBut _ _ nz2 (s3.extBut _ _ nzO (s2.extBut _ _ nz1 zi1)))
  have k5 : ∀ c o, c ≠ z → c ≠ TO → c ≠ i1 → c ≠ i2 → s.heap.get? c = some o → g5.get? c = some o := fun c o c1 c2 c3 c4 e => s5.extBut _ _ c2 (s4.extBut _ _ c4 (s3.extBut _ _ c2 (s2.extBut _ _ c3 (s1.extBut _ _ c1 e))))
  have a15 : g5.IsListIter i1 t1 (k1 + 1) := ((a1'.extBut s3.extBut (Ne.symm nO1)).extBut s4.extBut n12).extBut s5.extBut (Ne.symm nO1)
  have a25 : g5.IsTupleIter i2 t2 (k2 + 1) := a2'.extBut s5.extBut (Ne.symm nO2)
  refine wpAny_bind (m := Builtin.SmallTypes.ownedTupleHandOut (.ref z) (.ref g5.objs.size)) ?_
  unfold Builtin.SmallTypes.ownedTupleHandOut
  have zi6 : IsZip (g5.push { cls := .type "tuple", data := .seq #[x, y] }) z TI TO .ellipsis := Heap.get?_push_of_some _ zi5
  refine wpAny_bind (wpAny_setField_rec zi6 (by simp) fun g7 zi7' s7 => ?_)
  have zi7 : IsZip g7 z TI TO (rawInt g5.objs.size) := zi7'
  refine wpAny_setField_rec zi7 (by simp) fun g8 zi8' s8 => ?_
  have zi8 : IsZip g8 z TI TO (rawInt g5.objs.size) := zi8'
  have up : ∀ c o, c ≠ z → g5.get? c = some o → g8.get? c = some o := fun c o c1 e => s8.extBut _ _ c1 (s7.extBut _ _ c1 (Heap.get?_push_of_some _ e))
  have new : IsPair g8 g5.objs.size x y := s8.extBut _ _ (Nat.ne_of_gt (Heap.lt_size zi5)) (s7.extBut _ _ (Nat.ne_of_gt (Heap.lt_size zi5)) (Heap.get?_push_size _ rfl))
  have tp : ∀ {c : Addr} {us : Array Value}, c ≠ z → c ≠ TO → c ≠ i1 → c ≠ i2 → s.heap.IsList c us → g8.IsList c us := fun {c us} c1 c2 c3 c4 ⟨o, e, r⟩ => ⟨o, up c o c1 (k5 c o c1 c2 c3 c4 e), r⟩
  have tp2 : ∀ {c : Addr} {us : Array Value}, c ≠ z → c ≠ TO → c ≠ i1 → c ≠ i2 → s.heap.IsTuple c us → g8.IsTuple c us := fun {c us} c1 c2 c3 c4 ⟨o, e, r⟩ => ⟨o, up c o c1 (k5 c o c1 c2 c3 c4 e), r⟩
  have il : ∀ {c u : Addr} {n : Nat}, c ≠ z → g5.IsListIter c u n → g8.IsListIter c u n := fun {c u n} c1 ⟨o, e, r⟩ => ⟨o, up c o c1 e, r⟩
  have il2 : ∀ {c u : Addr} {n : Nat}, c ≠ z → g5.IsTupleIter c u n → g8.IsTupleIter c u n := fun {c u n} c1 ⟨o, e, r⟩ => ⟨o, up c o c1 e, r⟩
  refine wpAny_pure ⟨_, rfl, ?_⟩
  have fin := q g8 ⟨by rw [← sz]; exact zi8, up _ _ (Ne.symm nzI) (k5 _ _ (Ne.symm nzI) nIO nI1 nI2 ti), ⟨x, y, up _ _ (Ne.symm nzO) to5⟩, il (Ne.symm nz1) a15, il2 (Ne.symm nz2) a25, tp p1z p1O p11 p12 b1, tp2 p2z p2O p21 p22 b2⟩ (by rw [← sz]; exact new) fun c o hc e => by
    simp only [List.mem_cons, List.not_mem_nil, or_false, not_or] at hc
    obtain ⟨c1, c2, c3, c4⟩ := hc
    exact up c o c1 (k5 c o c1 c2 c3 c4 e)
  rw [← sz] at fin
  exact fin
theorem zip_endM {Q : Fin → Shared → Prop} (hh : A.handled = none) (D : Far z TI TO i1 i2 t1 t2) (Z : ZipAtM z TI TO i1 i2 t1 t2 xs ys .none k1 k2 s.heap) (hend : xs[k1]? = none ∨ ys[k2]? = none)
    (q : ∀ h' e, Kept4 z TO i1 i2 s.heap h' → (∃ o, h'.get? e = some o ∧ o.cls = .type "StopIteration") → E (.ref e) { s with heap := h' }) : wpAny (model prog w) A (Builtin.«zip.__next__» ⟨[.ref z], []⟩) Q E s := by
  obtain ⟨nd, f1, f2⟩ := D
  simp only [List.nodup_cons, List.mem_cons, List.not_mem_nil, or_false, not_or, List.nodup_nil, and_true, not_false_eq_true] at nd f1 f2
  obtain ⟨⟨nzI, nzO, nz1, nz2⟩, ⟨nIO, nI1, nI2⟩, ⟨nO1, nO2⟩, n12⟩ := nd
  obtain ⟨p1z, p1O, p11, p12⟩ := f1
  obtain ⟨p2z, p2O, p21, p22⟩ := f2
  obtain ⟨zi, ti, ⟨a, b, to⟩, a1, a2, b1, b2⟩ := Z
  refine wpAny_bind (m := field (.ref z) 2) (wpAny_field zi rfl (x := .bool false) rfl ?_)
  refine wpAny_bind (m := field (.ref z) 3) (wpAny_field zi rfl (x := .ref TI) rfl (wpAny_bind (wpAny_seqItems ti rfl ?_)))
  refine wpAny_bind (m := Builtin.SmallTypes.ownedTupleIsFree (.ref z)) ?_
  unfold Builtin.SmallTypes.ownedTupleIsFree; refine wpAny_bind (wpAny_field zi rfl (x := .none) rfl (wpAny_pure ?_))
  simp only [if_true]; refine wpAny_bind (wpAny_rule (wpAny_bind (wpAny_field zi rfl (x := .ref TO) rfl (wpAny_bind (wpAny_setField_rec zi (by simp) fun g1 zi1' s1 => ?_)))))
  have zi1 : IsZip g1 z TI TO .ellipsis := zi1'
  refine wpAny_bind ?_
  simp only [List.zipIdx_cons, List.zipIdx_nil, List.forIn_cons, List.forIn_nil]
  refine wpAny_bind (wpAny_bind (wpAny_onRaise (wpAny_bind (m := Builtin.SmallTypes.nextOf (.ref i1)) ?_)))
  cases hx : xs[k1]? with
  | none =>
    refine wpAny_nextOf_list_end hh (a1.extBut s1.extBut (Ne.symm nz1)) (b1.extBut s1.extBut p1z) hx fun g2 e s2 ⟨oe, oe1, oe2⟩ => ?_
    have zi2 : IsZip g2 z TI TO .ellipsis := s2 _ _ nz1 zi1
    have ez : e ≠ z := fun c => by rw [c, zi2] at oe1; cases oe1; simp at oe2
    refine wpAny_setField_rec zi2 (by simp) fun g3 _ s3 => q g3 e (fun c o hc e' => ?_) ⟨oe, s3.extBut _ _ ez oe1, oe2⟩
    simp only [List.mem_cons, List.not_mem_nil, or_false, not_or] at hc
    exact s3.extBut _ _ hc.1 (s2 _ _ hc.2.2.1 (s1.extBut _ _ hc.1 e'))
  | some x =>
    have hy : ys[k2]? = none := hend.elim (fun c => by rw [hx] at c; cases c) id
    refine wpAny_nextOf_list_item (a1.extBut s1.extBut (Ne.symm nz1)) (b1.extBut s1.extBut p1z) hx fun g2 a1' s2 => wpAny_pure ?_
    have to2 : IsPair g2 TO a b := s2.extBut _ _ nO1 (s1.extBut _ _ (Ne.symm nzO) to)
    refine wpAny_bind (wpAny_seqItems to2 rfl (wpAny_bind (wpAny_updateSeq_pair to2 fun g3 to3' s3 => wpAny_bind (wpAny_letGo (wpAny_pure ?_)))))
    refine wpAny_bind (wpAny_bind (wpAny_onRaise (wpAny_bind (m := Builtin.SmallTypes.nextOf (.ref i2)) ?_)))
    refine nextOf_tupE hh (((a2.extBut s1.extBut (Ne.symm nz2)).extBut s2.extBut (Ne.symm n12)).extBut s3.extBut (Ne.symm nO2)) (((b2.extBut s1.extBut p2z).extBut s2.extBut p21).extBut s3.extBut p2O) hy fun g4 e s4 ⟨oe, oe1, oe2⟩ => ?_
    have zi4 : IsZip g4 z TI TO .ellipsis := s4 _ _ nz2 (s3.extBut _ _ nzO (s2.extBut _ _ nz1 zi1))
    have ez : e ≠ z := fun c => by rw [c, zi4] at oe1; cases oe1; simp at oe2
    refine wpAny_setField_rec zi4 (by simp) fun g5 _ s5 => q g5 e (fun c o hc e' => ?_) ⟨oe, s5.extBut _ _ ez oe1, oe2⟩
    simp only [List.mem_cons, List.not_mem_nil, or_false, not_or] at hc
    exact s5.extBut _ _ hc.1 (s4 _ _ hc.2.2.2 (s3.extBut _ _ hc.2.1 (s2.extBut _ _ hc.2.2.1 (s1.extBut _ _ hc.1 e'))))
theorem pyNext_zipIM {x y : Value} {Q : Option Value → Shared → Prop} (D : Far z TI TO i1 i2 t1 t2) (Z : ZipAtM z TI TO i1 i2 t1 t2 xs ys .none k1 k2 s.heap) (hx : xs[k1]? = some x) (hy : ys[k2]? = some y)
    (q : ∀ h', ZipAtM z TI TO i1 i2 t1 t2 xs ys (rawInt s.heap.objs.size) (k1 + 1) (k2 + 1) h' → IsPair h' s.heap.objs.size x y → Kept4 z TO i1 i2 s.heap h' → Q (some (.ref s.heap.objs.size)) { s with heap := h' }) : wpAny (model prog w) A (pyNext (.ref z)) Q E s := by
  have ty : s.TypeIs (.ref z) "zip" := ⟨_, Z.zi, rfl⟩
  unfold pyNext
  exact wpAny_bind (wpAny_attempt (wpAny_callSpecial?_slot (name := Str.ofString "__next__") ty PySem.F.slot_zip_next (wpAny_call_entry PySem.F.slot_zip_next ty PySem.F.entry_zip_next (zip_itemM D Z hx hy fun h' u1 u2 u3 => wpAny_pure (q h' u1 u2 u3)) (PySem.F.args_zip_next_1 _))))
theorem pyNext_zipEM {Q : Option Value → Shared → Prop} (hh : A.handled = none) (D : Far z TI TO i1 i2 t1 t2) (Z : ZipAtM z TI TO i1 i2 t1 t2 xs ys .none k1 k2 s.heap) (hend : xs[k1]? = none ∨ ys[k2]? = none)
    (q : ∀ h', Kept4 z TO i1 i2 s.heap h' → Q none { s with heap := h' }) : wpAny (model prog w) A (pyNext (.ref z)) Q E s := by
  have ty : s.TypeIs (.ref z) "zip" := ⟨_, Z.zi, rfl⟩
  unfold pyNext
  refine wpAny_bind (wpAny_attempt (wpAny_callSpecial?_slot (name := Str.ofString "__next__") ty PySem.F.slot_zip_next (wpAny_call_entry PySem.F.slot_zip_next ty PySem.F.entry_zip_next (zip_endM hh D Z hend fun h' e hk ⟨o, o1, o2⟩ => ?_) (PySem.F.args_zip_next_1 _))))
  exact wpAny_bind (wpAny_isInstance (T := "StopIteration") (b := true) ⟨o, o1, o2⟩ isSubtype_stop (wpAny_pure (q h' hk)))
def zm1 (h : Heap) (t1 : Addr) : Heap := h.push { cls := .type "list_iterator", data := .fields #[.ref t1, .int 0 0] }
def zm2 (h : Heap) (t1 t2 : Addr) : Heap := (zm1 h t1).push { cls := .type "tuple_iterator", data := .fields #[.ref t2, .int 0 0] }
def zm3 (h : Heap) (t1 t2 : Addr) : Heap := (zm2 h t1 t2).push { cls := .type "tuple", data := .seq #[.ref h.objs.size, .ref (zm1 h t1).objs.size] }
def zm4 (h : Heap) (t1 t2 : Addr) : Heap := (zm3 h t1 t2).push { cls := .type "tuple", data := .seq #[.none, .none] }
def zm5 (h : Heap) (t1 t2 : Addr) : Heap := (zm4 h t1 t2).push { cls := .type "zip", data := .fields #[.none, .bool false, .bool false, .ref (zm2 h t1 t2).objs.size, .ref (zm3 h t1 t2).objs.size] }
theorem zip_newM (t1 t2 : Addr) (xs ys : Array Value) : Meets (Builtin.«zip.__new__» ⟨[.type "zip", .ref t1, .ref t2], []⟩) (fun _ R s => s.heap.IsList t1 xs ∧ s.heap.IsTuple t2 ys ∧ R (.ok (.ret (.ref (zm4 s.heap t1 t2).objs.size))) { s with heap := zm5 s.heap t1 t2 }) :=
  .of_wp fun prog w A R s h => by
    obtain ⟨hp, g, d, tk, os⟩ := s
    obtain ⟨u1, u2, h⟩ := h
    have subz := PySem.sub_zip
    have T1 : Heap.IsList (Shared.heap ⟨hp, g, d, tk, os⟩) t1 xs := u1
    have T2 : Heap.IsTuple (Shared.heap ⟨hp.push { cls := .type "list_iterator", data := .fields #[.ref t1, .int 0 0] }, g, d, tk, os⟩) t2 ys := Heap.IsTuple.push u2 _
    wp_walk using wpAny_pyIter_list T1, wpAny_pyIter_tuple T2
    exact ⟨_, rfl, h⟩
theorem call_zipTM {Q : Value → Shared → Prop} (h1 : s.heap.IsList t1 xs) (h2 : s.heap.IsTuple t2 ys)
    (q : ∀ h' z TI TO i1 i2, Far z TI TO i1 i2 t1 t2 → ZipAtM z TI TO i1 i2 t1 t2 xs ys .none 0 0 h' → (∀ b ∈ [z, TI, TO, i1, i2], s.heap.objs.size ≤ b) → (∀ c o, s.heap.get? c = some o → h'.get? c = some o) → Q (.ref z) { s with heap := h' }) :
    wpAny (model prog w) A (call (.type "zip") [.ref t1, .ref t2]) Q E s := by
  refine callType_new PySem.F.called_zip (by decide) (PySem.F.typeCall_zip_2 _ _) (PySem.F.newCall_zip_2 _ _) (fun obj => PySem.F.args_object_init_3 obj _ _) PySem.F.entry_zip_new (zip_newM t1 t2 xs ys) ⟨h1, h2, ?_⟩
  have l1 : t1 < s.heap.objs.size := by obtain ⟨_, e, _⟩ := h1; exact Heap.lt_size e
  have l2 : t2 < s.heap.objs.size := by obtain ⟨_, e, _⟩ := h2; exact Heap.lt_size e
  have z1 : (zm1 s.heap t1).objs.size = s.heap.objs.size + 1 := Heap.size_push ..
  have z2 : (zm2 s.heap t1 t2).objs.size = s.heap.objs.size + 2 := by unfold zm2; rw [Heap.size_push, z1]
  have z3 : (zm3 s.heap t1 t2).objs.size = s.heap.objs.size + 3 := by unfold zm3; rw [Heap.size_push, z2]
  have z4 : (zm4 s.heap t1 t2).objs.size = s.heap.objs.size + 4 := by unfold zm4; rw [Heap.size_push, z3]
  have kp : ∀ c o, s.heap.get? c = some o → (zm5 s.heap t1 t2).get? c = some o := fun c o e => Heap.get?_push_of_some _ (Heap.get?_push_of_some _ (Heap.get?_push_of_some _ (Heap.get?_push_of_some _ (Heap.get?_push_of_some _ e))))
  have g5 : (zm5 s.heap t1 t2).get? (zm4 s.heap t1 t2).objs.size = some _ := Heap.get?_push_size _ rfl
  have g4 : (zm5 s.heap t1 t2).get? (zm3 s.heap t1 t2).objs.size = some _ := Heap.get?_push_of_some _ (Heap.get?_push_size _ rfl)
  have g3 : (zm5 s.heap t1 t2).get? (zm2 s.heap t1 t2).objs.size = some _ := Heap.get?_push_of_some _ (Heap.get?_push_of_some _ (Heap.get?_push_size _ rfl))
  have g2 : (zm5 s.heap t1 t2).get? (zm1 s.heap t1).objs.size = some _ := Heap.get?_push_of_some _ (Heap.get?_push_of_some _ (Heap.get?_push_of_some _ (Heap.get?_push_size _ rfl)))
  have g1 : (zm5 s.heap t1 t2).get? s.heap.objs.size = some _ := Heap.get?_push_of_some _ (Heap.get?_push_of_some _ (Heap.get?_push_of_some _ (Heap.get?_push_of_some _ (Heap.get?_push_size _ rfl))))
  refine ⟨⟨_, g5, rfl⟩, q _ _ (zm2 s.heap t1 t2).objs.size (zm3 s.heap t1 t2).objs.size s.heap.objs.size (zm1 s.heap t1).objs.size ⟨?_, ?_, ?_⟩ ⟨g5, g3, ⟨_, _, g4⟩, ⟨_, g1, rfl, rfl⟩, ⟨_, g2, rfl, rfl⟩, ?_, ?_⟩ ?_ kp⟩
  · rw [z1, z2, z3, z4]
    generalize s.heap.objs.size = n
    simp
  · rw [z1, z3, z4]
    generalize s.heap.objs.size = n at *
    have : ∀ a b : Nat, a < b → ¬ (a = b) := fun a b h => Nat.ne_of_lt h
    simp only [List.mem_cons, List.not_mem_nil, or_false, not_or]
    exact ⟨this _ _ (Nat.lt_of_lt_of_le l1 (Nat.le_add_right ..)), this _ _ (Nat.lt_of_lt_of_le l1 (Nat.le_add_right ..)), this _ _ l1, this _ _ (Nat.lt_of_lt_of_le l1 (Nat.le_add_right ..))⟩
  · rw [z1, z3, z4]
    generalize s.heap.objs.size = n at *
    have : ∀ a b : Nat, a < b → ¬ (a = b) := fun a b h => Nat.ne_of_lt h
    simp only [List.mem_cons, List.not_mem_nil, or_false, not_or]
    exact ⟨this _ _ (Nat.lt_of_lt_of_le l2 (Nat.le_add_right ..)), this _ _ (Nat.lt_of_lt_of_le l2 (Nat.le_add_right ..)), this _ _ l2, this _ _ (Nat.lt_of_lt_of_le l2 (Nat.le_add_right ..))⟩
  · obtain ⟨o, e, r⟩ := h1
    exact ⟨o, kp _ _ e, r⟩
  · obtain ⟨o, e, r⟩ := h2
    exact ⟨o, kp _ _ e, r⟩
  · rw [z1, z2, z3, z4]
    generalize s.heap.objs.size = n
    intro b hb
    simp only [List.mem_cons, List.not_mem_nil, or_false] at hb
    rcases hb with rfl | rfl | rfl | rfl | rfl
    · exact Nat.le_add_right ..
    · exact Nat.le_add_right ..
    · exact Nat.le_add_right ..
    · exact Nat.le_refl _
    · exact Nat.le_add_right ..
end
end L2
namespace L2
open PySem PySem.Spec PyProof.Rows
def ItzM (K : PySem.W.Frag) (p q : Addr) : It :=
  ⟨fun i H => ∃ xs ys x y, SqL K H p xs ∧ SqT K H q ys ∧ xs[i]? = some x ∧ ys[i]? = some y,
   fun i H v H' => ∃ T x y, H T = none ∧ v = .ref T ∧ H' = upd H T (.tup [x, y]) ∧ ∀ xs ys, SqL K H p xs → SqT K H q ys → xs[i]? = some x ∧ ys[i]? = some y,
   fun i H => ∃ xs ys, SqL K H p xs ∧ SqT K H q ys ∧ (xs.length ≤ i ∨ ys.length ≤ i)⟩
structure ZipTnM (z TI TO i1 i2 t1 t2 : Addr) (k : Nat) (h : Heap) : Prop where
  zi : IsZip h z TI TO .none
  ti : IsPair h TI (.ref i1) (.ref i2)
  to : ∃ a b, IsPair h TO a b
  a1 : h.IsListIter i1 t1 k
  a2 : h.IsTupleIter i2 t2 k
theorem turn_zipM {P : Program} {w : World} {K : PySem.W.Frag} {elts : List Expr} {kk : Nat} {pos : Pos} {z TI TO i1 i2 t1 t2 : Addr} (D : Far z TI TO i1 i2 t1 t2) :
    Turn P w K (.Tuple elts kk pos) (ItzM K t1 t2) [z, TI, TO, i1, i2] z (fun i h => ZipTnM z TI TO i1 i2 t1 t2 i h) where
  mem := by simp
  obj := fun i h st b hb => by
    obtain ⟨u1, u2, ⟨a, c, u3⟩, ⟨o4, u4, _, d4⟩, ⟨o5, u5, _, d5⟩⟩ := st
    simp only [List.mem_cons, List.not_mem_nil, or_false] at hb
    rcases hb with rfl | rfl | rfl | rfl | rfl
    · exact ⟨_, u1, fun v zz => by cases zz⟩
    · exact ⟨_, u2, fun v zz => by cases zz⟩
    · exact ⟨_, u3, fun v zz => by cases zz⟩
    · exact ⟨_, u4, fun v zz => by rw [d4] at zz; cases zz⟩
    · exact ⟨_, u5, fun v zz => by rw [d5] at zz; cases zz⟩
  keep := fun i h h' st k => by
    obtain ⟨u1, u2, ⟨a, c, u3⟩, ⟨o4, u4, r4⟩, ⟨o5, u5, r5⟩⟩ := st
    exact ⟨k _ (by simp) _ u1, k _ (by simp) _ u2, ⟨a, c, k _ (by simp) _ u3⟩, ⟨o4, k _ (by simp) _ u4, r4⟩, ⟨o5, k _ (by simp) _ u5, r5⟩⟩
  item := by
    intro X hP hw hK hc i pins s σ H E I hf st hg
    subst hP hw hK
    obtain ⟨xs, ys, x, y, hq1, hq2, hx, hy⟩ := hg
    obtain ⟨its1, rv1, p1, hz1⟩ := I.list hq1
    obtain ⟨its2, rv2, p2, hz2⟩ := I.tuple hq2
    obtain ⟨u, hu, ru⟩ := rv1.get hx
    obtain ⟨v, hv, rv⟩ := rv2.get hy
    refine pyNext_zipIM (s := s) D ⟨st.zi, st.ti, st.to, st.a1, st.a2, p1.isList, p2⟩ (x := u) (y := v) (by simpa using hu) (by simpa using hv) fun h' Z hp hk => ⟨_, rfl, wpAny_letOwnedTupleGo_zip Z.zi fun h2 z2 sb => ?_⟩
    have hf4 : ∀ b ∈ [z, TO, i1, i2], FpOk X pins H b := fun b hb => hf b (by simp only [List.mem_cons, List.not_mem_nil, or_false] at hb ⊢; rcases hb with e | e | e | e <;> simp [e])
    have k2 : Kept4 z TO i1 i2 s.heap h2 := fun c o hc e => (sb.2 c (fun zz => hc (by simp [zz]))).trans (hk c o hc e)
    have I1 : Inv X pins σ H { s with heap := h2 } := I.zipped (t' := s.toks) hf4 k2
    have zlt : z < s.heap.objs.size := Heap.lt_size st.zi
    have at2 : IsPair h2 s.heap.objs.size u v := (sb.2 _ (Nat.ne_of_gt zlt)).trans hp
    have Hn : H s.heap.objs.size = none := I.hok.fresh (Nat.le_refl _)
    have I2 : Inv X pins σ (upd H s.heap.objs.size (.tup [x, y])) { s with heap := h2 } := by
      refine I1.adopt Hn (Heap.get?_none_of_le I.sz) (Nat.ne_of_gt I.lt) (fun xx cc e zz => ?_) (fun p hp zz => ?_) ⟨by show 2 ≤ sizeLine; decide, [u, v], .cons ru (.cons rv .nil), ⟨_, at2, rfl, ⟨0, rfl⟩, rfl⟩⟩
      · obtain ⟨_, q⟩ := I.cell xx cc e
        exact absurd q.lt (by rw [zz]; exact Nat.lt_irrefl _)
      · exact absurd (Heap.lt_size (I.pin p hp).1) (by rw [zz]; exact Nat.lt_irrefl _)
    have n5 : ∀ b ∈ [z, TI, TO, i1, i2], b ≠ s.heap.objs.size := fun b hb zz => by
      obtain ⟨u1, u2, ⟨a, c, u3⟩, ⟨o4, u4, _⟩, ⟨o5, u5, _⟩⟩ := st
      simp only [List.mem_cons, List.not_mem_nil, or_false] at hb
      rcases hb with e | e | e | e | e
      · rw [e] at zz; exact absurd (Heap.lt_size u1) (by rw [zz]; exact Nat.lt_irrefl _)
      · rw [e] at zz; exact absurd (Heap.lt_size u2) (by rw [zz]; exact Nat.lt_irrefl _)
      · rw [e] at zz; exact absurd (Heap.lt_size u3) (by rw [zz]; exact Nat.lt_irrefl _)
      · rw [e] at zz; exact absurd (Heap.lt_size u4) (by rw [zz]; exact Nat.lt_irrefl _)
      · rw [e] at zz; exact absurd (Heap.lt_size u5) (by rw [zz]; exact Nat.lt_irrefl _)
    obtain ⟨nd, _, _⟩ := D
    simp only [List.nodup_cons, List.mem_cons, List.not_mem_nil, or_false, not_or, List.nodup_nil, and_true, not_false_eq_true] at nd
    obtain ⟨⟨nzI, nzO, nz1, nz2⟩, _, _, _⟩ := nd
    obtain ⟨a, b, to⟩ := Z.to
    refine ⟨.ref s.heap.objs.size, _, I2, rfl, ⟨_, x, y, Hn, rfl, rfl, fun xs' ys' h1 h2 => ?_⟩, ⟨z2, (sb.2 _ (Ne.symm nzI)).trans Z.ti, ⟨a, b, (sb.2 _ (Ne.symm nzO)).trans to⟩, Z.a1.extBut sb.extBut (Ne.symm nz1), Z.a2.extBut sb.extBut (Ne.symm nz2)⟩, fun b hb => ?_⟩
    · rw [I.list_inj h1 hq1, I.tuple_inj h2 hq2]
      exact ⟨hx, hy⟩
    · rw [upd_ne (n5 b hb)]
      exact (hf b hb).1
  done := by
    intro X hP hw hK hc i pins s σ H E I hf st hg
    subst hP hw hK
    obtain ⟨xs, ys, hq1, hq2, hx⟩ := hg
    obtain ⟨its1, rv1, p1, hz1⟩ := I.list hq1
    obtain ⟨its2, rv2, p2, hz2⟩ := I.tuple hq2
    have l1 := rv1.length
    have l2 := rv2.length
    have hf4 : ∀ b ∈ [z, TO, i1, i2], FpOk X pins H b := fun b hb => hf b (by simp only [List.mem_cons, List.not_mem_nil, or_false] at hb ⊢; rcases hb with e | e | e | e <;> simp [e])
    exact pyNext_zipEM (I.ok.hd hc) D ⟨st.zi, st.ti, st.to, st.a1, st.a2, p1.isList, p2⟩ (by rcases hx with h | h; exact .inl (by simp; omega); exact .inr (by simp; omega)) fun h' hk => ⟨rfl, I.zipped (t' := s.toks) hf4 hk⟩
  self := fun A i s Q E st h => wpAny_pyIter_zip st.zi h
section
variable {X : Cx}
def iZipM (K : PySem.W.Frag) (ta : TA) : TI := fun σ H R => ta σ H fun vs H1 => ∃ p q xs ys, vs = [.ref p, .ref q] ∧ SqL K H1 p xs ∧ SqT K H1 q ys ∧ R (ItzM K p q) H1
theorem kpi_zipM (K : PySem.W.Frag) {elts : List Expr} {kk : Nat} {tpos : Pos} {a b : Expr} {ta : TA} {p pos : Pos} (hg : Gl X "zip") (hm : X.mg "zip" = none) (ha : PA X [a, b] ta) (hs : starEach [a, b] X.env = [(false, eval a X.env), (false, eval b X.env)] := by rfl) (hs2 : starEach [b] X.env = [(false, eval b X.env)] := by rfl) (hK : X.K = K := by rfl) :
    PI X (.Tuple elts kk tpos) (.Call (.Name "zip" p) [a, b] [] pos) (iZipM K ta) := by
  subst hK
  intro pins s σ H R I h
  refine Call_ (ld_blt I hg hm bt_zip (PyProof.Rows.callWith_type1 (thn (ha pos pins s σ H _ I h) fun us s1 ⟨vs, H1, I1, r1, q1⟩ => ?_) (by rw [hs, hs2]) (by rw [hs2]; rfl)))
  obtain ⟨p1, p2, xs, ys, e, hq1, hq2, q⟩ := q1
  subst e
  obtain ⟨u1, u2, rfl, r1, r2⟩ := vals2 r1
  cases r1
  cases r2
  obtain ⟨its1, rv1, t1, _⟩ := I1.list hq1
  obtain ⟨its2, rv2, t2, _⟩ := I1.tuple hq2
  refine call_zipTM t1.isList t2 fun h' z TI TO i1 i2 D Z new kp => wpAny_pyIter_zip Z.zi ?_
  have I2 : Inv X pins σ H1 { s1 with heap := h' } := I1.kept (t' := s1.toks) kp
  exact ⟨z, [z, TI, TO, i1, i2], _, ItzM X.K p1 p2, H1, rfl, I2, turn_zipM D, ⟨Z.zi, Z.ti, Z.to, Z.a1, Z.a2⟩, fun b hb => I1.fpOk (new b hb) (I1.hok.fresh (new b hb)), q⟩
end
end L2
namespace L2
open PySem PySem.Spec PyProof.Rows
section
variable {prog : Program} {w : World} {A : Around} {R : Result → Shared → Prop}
end
section
variable {X : Cx}
end
end L2
namespace L2
open PySem PySem.Spec PyProof.Rows
theorem kV_rel {P : Program} {w : World} {k : Key} {u : Value} (h : (mixKind P w).is k u = true) : RelV (kV k) u := by
  rcases keyIs_shape (show keyIs k u = true from h) with ⟨i, t, rfl, rfl⟩ | ⟨x, t, rfl, rfl⟩
  · exact ⟨t, rfl⟩
  · exact ⟨t, rfl⟩
def Itk (d : Addr) (kvs : List (Key × V)) (o : Obj) : It :=
  ⟨fun i H => H d = some (.frz o (.dK kvs)) ∧ i < kvs.length, fun i H x H' => H' = H ∧ ∃ p, kvs[i]? = some p ∧ x = kV p.1, fun i H => H d = some (.frz o (.dK kvs)) ∧ kvs.length ≤ i⟩
theorem frz_at {P : Program} {w : World} {H : Hp} {h : Heap} {d : Addr} {kvs : List (Key × V)} {o : Obj} {es0 : Array DictEntry} {ep : Nat} (ok : HOk P w H h) (e : H d = some (.frz o (.dK kvs))) (hd : o.data = .dict es0 ep) : ∃ vs, KV kvs vs ∧ h.DictAt (mixKind P w) d vs ep := by
  obtain ⟨e1, _, _, vs, rel, o', es, ep', e2, r1, r2, r3⟩ := (show ObjOk P w H h d (.frz o (.dK kvs)) from ok d _ e)
  rw [e1] at e2
  obtain rfl := Option.some.inj e2
  have r2' := r2
  rw [hd] at r2'
  injection r2' with h1 h2
  subst h1 h2
  exact ⟨vs, rel, o, es0, e1, r1, hd, r3⟩
theorem turn_keys {P : Program} {w : World} {K : PySem.W.Frag} {tg : Expr} (d it : Addr) (kvs : List (Key × V)) (o : Obj) (es0 : Array DictEntry) (ep : Nat) (hd : o.data = .dict es0 ep) :
    Turn P w K tg (Itk d kvs o) [it] it (fun i h => h.IsKeyIter it d i kvs.length ep) where
  mem := by simp
  obj := fun i h st b hb => by
    have e : b = it := by simpa using hb
    subst e
    obtain ⟨o, e, c, d⟩ := st
    exact ⟨o, e, fun v z => by rw [d] at z; cases z⟩
  keep := fun i h h' st k => st.at fun o e => k it (by simp) o e
  item := by
    intro X hP hw hK hc i pins s σ H E I hf st hg
    subst hP hw hK
    obtain ⟨hq, hi⟩ := hg
    obtain ⟨vs, rel, da⟩ := frz_at I.hok hq hd
    have hl := rel.length
    obtain ⟨f0, f1, f2, f3, f4, f5⟩ := hf it (by simp)
    have hx : kvs[i]? = some kvs[i] := List.getElem?_eq_getElem hi
    have hv : vs[i]? = some vs[i] := List.getElem?_eq_getElem (by omega)
    have hkk : kvs[i].1 = (vs[i]'(by omega)).1 := by
      have hks := rel.keys
      have h1 := congrArg (fun l => l[i]?) hks
      simp only [List.getElem?_map, hx, hv] at h1
      exact Option.some.inj h1
    rw [hl] at st
    refine wpAny_pyNext_dict_item st da hv fun key h' hkey st' sb => ?_
    have I1 : Inv X pins σ H { s with heap := h' } := I.turned (t' := s.toks) (fun b o hb e => (sb.2 b hb).trans e) f0 f1 f3 f4 f5
    rw [← hl] at st'
    obtain ⟨o2, e, c, d2⟩ := id st'
    refine ⟨key, rfl, go_of (s := { s with heap := h' }) e c d2 (by decide) ⟨kV kvs[i].1, H, I1, ?_, ⟨rfl, _, hx, rfl⟩, st', fun b hb => (hf b hb).1⟩⟩
    rw [hkk]
    exact kV_rel hkey
  done := by
    intro X hP hw hK hc i pins s σ H E I hf st hg
    subst hP hw hK
    obtain ⟨hq, hi⟩ := hg
    obtain ⟨vs, rel, da⟩ := frz_at I.hok hq hd
    have hl := rel.length
    obtain ⟨f0, f1, f2, f3, f4, f5⟩ := hf it (by simp)
    rw [hl] at st
    exact wpAny_pyNext_dict_end (I.ok.hd hc) st da (by simp; omega) fun h' eb => ⟨rfl, I.turned (t' := s.toks) (fun b o hb e => eb b o hb e) f0 f1 f3 f4 f5⟩
  self := fun _ _ _ _ _ st h => wpAny_pyIter_keyiter st h
section
variable {X : Cx}
def iKeys (te : TE) : TI := fun σ H R => te σ H fun x H1 => ∃ d kvs, x = .ref d ∧ H1 d = some (.dK kvs) ∧ ∀ o, R (Itk d kvs o) (upd H1 d (.frz o (.dK kvs)))
theorem pi_keys {tg l : Expr} {tl : TE} (hl : PE X l tl) : PI X tg l (iKeys tl) := by
  intro pins s σ H R I h
  refine thn (hl pins s σ H _ I h) fun v s1 ⟨x, H1, I1, rx, d, kvs, ex, hd, q⟩ => ?_
  subst ex
  obtain rfl : v = Value.ref d := rx
  obtain ⟨z, hb, vs, rel, dd⟩ := dk_of I1.hok hd
  obtain ⟨o, es, ep, e1, r1, r2, r3⟩ := id dd
  have da : s1.heap.DictAt (mixKind X.prog X.w) d vs ep := ⟨o, es, e1, r1, r2, r3⟩
  refine wpAny_pyIter_dict hb da ?_
  have hl2 := rel.length
  have I2 : Inv X pins σ (upd H1 d (.frz o (.dK kvs))) { s1 with heap := s1.heap, toks := s1.toks } := I1.write (x := d) (e := d) (t' := s1.toks) (o := .frz o (.dK kvs)) (by rw [hd]; exact True.intro) (.inl rfl) (fun b u _ e => e) ⟨o, e1⟩ ⟨e1, z, hb, vs, rel, o, es, ep, e1, r1, r2, r3⟩
  have I3 : Inv X pins σ (upd H1 d (.frz o (.dK kvs))) { s1 with heap := s1.heap.push { cls := .type "dict_keyiterator", data := .fields #[.ref d, .int 0 0, .int vs.length 0, .int ep 0] } } := I2.kept (t' := s1.toks) fun _ _ e => Heap.get?_push_of_some _ e
  have hn : (upd H1 d (.frz o (.dK kvs))) s1.heap.objs.size = none := I2.hok.fresh (Nat.le_refl _)
  refine ⟨s1.heap.objs.size, [s1.heap.objs.size], _, Itk d kvs o, _, rfl, I3, turn_keys d s1.heap.objs.size kvs o es ep r2, ⟨_, Heap.get?_push_size _ rfl, rfl, by rw [hl2]; rfl⟩, fun b hb => ?_, q o⟩
  have eb : b = s1.heap.objs.size := by simpa using hb
  subst eb
  exact I1.fpOk (Nat.le_refl _) hn
theorem comp_keys {d : Addr} {kvs : List (Key × V)} {ob : Obj} {t : Nat} {tt : TT} {te : TE} {σ0 : St} {H1 : Hp} {Q : VK} {D : Addr} (P : Nat → List V → Hp → Prop) (h0 : P 0 [] (upd H1 D (.lst []))) (hl : ∀ i ys H, P i ys H → H D = some (.lst ys) → H d = some (.frz ob (.dK kvs)))
    (hs : ∀ i ys H p, kvs[i]? = some p → P i ys H → H D = some (.lst ys) → tt (σ0.set t (some (kV p.1))) H fun b H4 => if b = true then te (σ0.set t (some (kV p.1))) H4 (cYes (Rset t σ0) P kvs.length D (σ0.set t (some (kV p.1))) i) else cNo (Rset t σ0) P kvs.length D (σ0.set t (some (kV p.1))) i H4)
    (hd : ∀ ys H, P kvs.length ys H → H D = some (.lst ys) → Q (.ref D) H) :
    CompGo (Itk d kvs ob) (gName t) tt te σ0 H1 Q D := by
  have get : ∀ i, i < kvs.length → kvs[i]? = some (kvs.getD i (Sum.inl 0, .non)) := fun i hi => by simp [List.getD, hi]
  refine comp_gen (xv := fun i => kV (kvs.getD i (Sum.inl 0, .non)).1) (st := fun i => σ0.set t (some (kV (kvs.getD i (Sum.inl 0, .non)).1))) (Rset t σ0) P rset0 h0 (fun i ys H hi p hD => ⟨⟨hl i ys H p hD, hi⟩, fun x H2 y => ⟨y.1, ?_⟩⟩) (fun ys H p hD => ⟨hl _ ys H p hD, Nat.le_refl _⟩)
    (fun i _ σ' H K _ r _ k => by show K (σ'.set t (some _)) H; rw [r]; exact k) (fun i ys H hi p hD => hs i ys H _ (get i hi) p hD) hd
  obtain ⟨_, p, e1, e2⟩ := y
  rw [get i hi] at e1
  rw [e2, ← Option.some.inj e1]
end
section
variable {prog : Program} {w : World} {A : Around} {E : Value → Shared → Prop} {s : Shared}
theorem hint_dict {d : Addr} {kvs : List (Key × Value)} {Q : Bool → Shared → Prop} (hm : s.heap.DictOf (mixKind prog w) d kvs) (h : Q false s) : wpAny (model prog w) A (Builtin.List.listLengthHint (.ref d)) Q E s := by
  unfold Builtin.List.listLengthHint
  refine wpAny_bind (wpAny_specialOf (name := Str.ofString "__len__") hm.typeIs PySem.F.slot_dict_len.lookup ?_)
  generalize hid : ("dict.__len__" : String) = id0
  wp_delta
  rw [show splitId id0 = some ("dict", "__len__") from by subst hid; decide +kernel]
  subst hid
  refine wpAny_bind (wpAny_isInstance (T := "dict") (b := true) hm.typeIs isSubtype_dict_dict ?_)
  refine wpAny_ite_split (fun hab => absurd hab (by decide)) (fun _ => ?_)
  refine wpAny_ite_split (fun _ => ?_) (fun hn => absurd (by decide +kernel) hn)
  refine wpAny_bind (wpAny_typeOf hm.typeIs ?_)
  exact wpAny_pure h
theorem extend_dict {R : Result → Shared → Prop} {d S : Addr} {kvs : List (Key × Value)} {ep : Nat} (hh : A.handled = none) (hb : (d == sysModules) = false) (hm : s.heap.DictAt (mixKind prog w) d kvs ep) (hz : kvs.length ≤ 1000) (res : Value) (c₀ : Nat) (hS : s.heap.get? S = some { cls := .type "list", data := .seq #[] c₀ }) (hSd : S ≠ d)
    (hR : ∀ h' tk acc' c', (∀ b o, b ≠ S → s.heap.get? b = some o → h'.get? b = some o) → h'.get? S = some { cls := .type "list", dict := none, data := .seq acc' c', slots := #[] } →
      ItemsOf (fun i v => ∃ k x, kvs[i]? = some (k, x) ∧ (mixKind prog w).is k v = true) acc' kvs.length → R (.ok (.ret res)) { s with heap := h', toks := tk }) :
    wpAny (model prog w) A.in1 (Builtin.List.listExtendWith (.ref S) (.ref d) res)
      (fun fin s' => match fin with | .done f => R (.ok f) s' | .again c' => c'.quiet = true ∧ codeAny (model prog w) A c' R s') (fun e s' => R (.error e) s') s := by
  have dlt : d < s.heap.objs.size := hm.lt_size
  have Slt : S < s.heap.objs.size := Heap.lt_size hS
  have hSf : S ∉ [s.heap.objs.size, d] := fun hmm => by
    rcases List.mem_cons.mp hmm with h | h
    · exact absurd h (Nat.ne_of_lt Slt)
    · exact hSd (List.mem_singleton.mp h)
  have W := (Walks.dictKeys (prog := prog) (w := w) (knd := mixKind prog w) (A := A.in1) hh s.heap.objs.size d (Nat.ne_of_lt dlt) kvs ep).toS
  have key : ∀ (h : Heap) (c₁ tk : Nat), h.IsKeyIter s.heap.objs.size d 0 kvs.length ep → h.DictAt (mixKind prog w) d kvs ep → (∀ b o, b ≠ S → s.heap.get? b = some o → h.get? b = some o) →
      h.get? S = some { cls := .type "list", data := .seq #[] c₁ } → codeAny (model prog w) A (.builtin "list.extend.loop" ⟨[.ref S, .ref s.heap.objs.size, res], []⟩) R { s with heap := h, toks := tk } := by
    intro h c₁ tk hit' hm' hk hS₁
    refine codeAny_extend_loopS W (by rw [sizeLine_eq]; omega) S hSf res kvs.length 0 _ #[] c₁ rfl (Nat.zero_le _) ⟨hit', hm'⟩ hS₁ (ItemsOf.nil _) fun s' acc' c' hm hS' hacc => ?_
    rw [Moved.eq_with hm]
    refine hR s'.heap s'.toks acc' c' (fun b o hb e => hm.heap b o (fun hmem => ?_) (hk b o hb e)) hS' hacc
    rcases List.mem_cons.mp hmem with e' | hmem
    · exact hb e'
    · exact absurd (Heap.lt_size e) (by rw [List.mem_singleton.mp hmem]; exact Nat.lt_irrefl _)
  unfold Builtin.List.listExtendWith
  refine wpAny_bind (wpAny_typeOf (T := "dict") hm.dictOf.typeIs ?_)
  have h1 : Builtin.List.listSameRef (.ref S) (.ref d) = false := by simp [Builtin.List.listSameRef, hSd]
  have h2 : (Value.type "dict" == Value.type "list") = false := by decide
  have h3 : (Value.type "dict" == Value.type "tuple") = false := by decide
  simp only [h1, h2, h3, Bool.or_false, Bool.false_eq_true, if_false]
  refine wpAny_bind (wpAny_pyIter_dict hb hm ?_)
  have up : ∀ b o, s.heap.get? b = some o → (s.heap.push { cls := .type "dict_keyiterator", data := .fields #[.ref d, .int 0 0, .int kvs.length 0, .int ep 0] }).get? b = some o := fun b o e => Heap.get?_push_of_some _ e
  have hit : (s.heap.push { cls := .type "dict_keyiterator", data := .fields #[.ref d, .int 0 0, .int kvs.length 0, .int ep 0] }).IsKeyIter s.heap.objs.size d 0 kvs.length ep := ⟨_, Heap.get?_push_size _ rfl, rfl, rfl⟩
  have hm1 := hm.keep up
  have hS1 := up _ _ hS
  refine wpAny_bind (wpAny_holding (hint_dict hm1.dictOf ?_))
  refine wpAny_ite_split (fun _ => ?_) (fun _ => wpAny_pure ⟨plainId_quiet PySem.F.plain_extend_loop _, key _ c₀ _ hit hm1 (fun b o _ e => up b o e) hS1⟩)
  refine wpAny_bind (wpAny_rule ?_)
  refine wpAny_bind ?_
  show wpAny _ _ (updateSeq S (·.push .none) >>= fun _ => updateSeq S (·.pop)) _ _ _
  refine wpAny_bind (wpAny_updateSeq hS1 rfl ?_)
  have hS₂ := Heap.get?_update_self (Obj.mapSeq (·.push Value.none)) hS1 rfl
  refine wpAny_updateSeq (hz := by seq_fits) hS₂ rfl ?_
  have hS₃ := Heap.get?_update_self (Obj.mapSeq (·.pop)) hS₂ rfl
  generalize s.heap.push { cls := .type "dict_keyiterator", data := .fields #[.ref d, .int 0 0, .int kvs.length 0, .int ep 0] } = h0 at *
  have oth : ∀ b o, b ≠ S → h0.get? b = some o → ((h0.update S (Obj.mapSeq (·.push Value.none))).update S (Obj.mapSeq (·.pop))).get? b = some o := fun b o hb e => (Heap.get?_update_other _ _ (Ne.symm hb)).trans ((Heap.get?_update_other _ _ (Ne.symm hb)).trans e)
  refine wpAny_pure ⟨plainId_quiet PySem.F.plain_extend_loop _, key _ _ _ (hit.at fun o e => oth _ o (Nat.ne_of_gt Slt) e) (hm1.at' fun o e => oth d o (Ne.symm hSd) e) (fun b o hb e => oth b o hb (up b o e)) hS₃⟩
theorem call_list_dict {Q : Value → Shared → Prop} {d : Addr} {kvs : List (Key × Value)} {ep : Nat} (hh : A.handled = none) (hb : (d == sysModules) = false) (hm : s.heap.DictAt (mixKind prog w) d kvs ep) (hz : kvs.length ≤ 1000)
    (hQ : ∀ h' tk acc' c', (∀ b o, s.heap.get? b = some o → h'.get? b = some o) →
      h'.get? s.heap.objs.size = some { cls := .type "list", dict := none, data := .seq acc' c', slots := #[] } → ItemsOf (fun i v => ∃ k x, kvs[i]? = some (k, x) ∧ (mixKind prog w).is k v = true) acc' kvs.length → Q (.ref s.heap.objs.size) { s with heap := h', toks := tk }) :
    wpAny (model prog w) A (call (.type "list") [.ref d]) Q E s := by
  refine callType_codes (Q₁ := fun obj s₁ => obj = .ref s.heap.objs.size ∧ s₁ = { s with heap := s.heap.push { cls := .type "list", data := .seq #[] } }) PySem.F.called_list (PySem.F.typeCall_list_1 _) PySem.F.entry_list_init
    (code_list_new _ ⟨rfl, rfl⟩) fun obj s₁ h₁ => ?_
  obtain ⟨rfl, rfl⟩ := h₁
  have hS : (s.heap.push { cls := .type "list", data := .seq #[] }).get? s.heap.objs.size = some { cls := .type "list", data := .seq #[] } := Heap.get?_push_size _ rfl
  have dlt : d < s.heap.objs.size := hm.lt_size
  have hm1 := hm.keep (h' := s.heap.push { cls := .type "list", data := .seq #[] }) fun b o e => Heap.get?_push_of_some _ e
  refine ⟨⟨_, hS, rfl⟩, PySem.F.args_list_init_2 _ _, ?_⟩
  have oth0 : ∀ b o, s.heap.get? b = some o → (s.heap.push { cls := .type "list", data := .seq #[] }).get? b = some o := fun b o e => Heap.get?_push_of_some _ e
  have nb : ∀ b o, s.heap.get? b = some o → b ≠ s.heap.objs.size := fun b o e => Nat.ne_of_lt (Heap.lt_size e)
  generalize s.heap.push { cls := .type "list", data := .seq #[] } = h0 at *
  show wpAny _ _ (do let old ← Builtin.List.listItems (.ref s.heap.objs.size); Builtin.List.listUpdate (.ref s.heap.objs.size) (fun _ => #[]); letGo old.toList.reverse; Builtin.List.listExtendWith (.ref s.heap.objs.size) (.ref d) .none) _ _ _
  refine wpAny_bind ?_
  unfold Builtin.List.listItems
  refine wpAny_bind (wpAny_seqItems hS rfl (wpAny_pure ?_))
  show wpAny _ _ (updateSeq s.heap.objs.size (fun _ => #[]) >>= fun _ => letGo (#[] : Array Value).toList.reverse >>= fun _ => Builtin.List.listExtendWith (.ref s.heap.objs.size) (.ref d) .none) _ _ _
  refine wpAny_bind (wpAny_updateSeq hS rfl ?_)
  have hS₂ := Heap.get?_update_self (Obj.mapSeq (fun _ => (#[] : Array Value))) hS rfl
  have oth : ∀ b o, b ≠ s.heap.objs.size → h0.get? b = some o → (h0.update s.heap.objs.size (Obj.mapSeq (fun _ => (#[] : Array Value)))).get? b = some o :=
    fun b o hb e => (Heap.get?_update_other _ _ (Ne.symm hb)).trans e
  refine wpAny_bind (wpAny_letGo ?_)
  refine extend_dict (A := A.in1) hh hb (hm1.at' fun o e => oth d o (Nat.ne_of_lt dlt) e) hz .none _ hS₂ (Nat.ne_of_gt dlt) fun h' tk acc' c' hk hS' hacc => ?_
  exact ⟨rfl, hQ h' tk acc' c' (fun b o e => hk b o (nb b o e) (oth b o (nb b o e) (oth0 b o e))) hS' hacc⟩
end
theorem paired_ofG {α β : Type} {R : α → β → Prop} : ∀ {as : List α} {bs : List β}, as.length = bs.length → (∀ (i : Nat) (a : α) (b : β), as[i]? = some a → bs[i]? = some b → R a b) → Paired R as bs
  | [], [], _, _ => .nil
  | a :: as, b :: bs, h, k => .cons (k 0 a b rfl rfl) (paired_ofG (by simpa using h) fun i x y hx hy => k (i + 1) x y hx hy)
theorem keys_vals {P : Program} {w : World} {kvs : List (Key × V)} {vs : List (Key × Value)} (rel : KV kvs vs) {acc : Array Value} (h : ItemsOf (fun i v => ∃ k x, vs[i]? = some (k, x) ∧ (mixKind P w).is k v = true) acc vs.length) : Vals (kvs.map fun p => kV p.1) acc.toList := by
  have hl := rel.length
  refine paired_ofG (by have := h.1; rw [List.length_map]; simp; omega) fun i a b ha hb => ?_
  rw [List.getElem?_map] at ha
  obtain ⟨p, hp, rfl⟩ := Option.map_eq_some_iff.mp ha
  rw [Array.getElem?_toList] at hb
  obtain ⟨k, x, hv, hk⟩ := h.2 i b hb
  have h1 := congrArg (fun l => l[i]?) rel.keys
  simp only [List.getElem?_map, hp, hv] at h1
  have h2 : p.1 = k := Option.some.inj h1
  rw [h2]
  exact kV_rel hk
section
variable {X : Cx}
theorem call_listD (hc : X.calm = true) : CallR X (.type "list") (fun xs H Q => ∃ a kvs, xs = [.ref a] ∧ H a = some (.dK kvs) ∧ kvs.length ≤ 1000 ∧ ∀ p, H p = none → Q (.ref p) (upd H p (.lst (kvs.map fun p => kV p.1)))) := by
  intro pins s σ H xs us Q I rv h
  obtain ⟨a, kvs, rfl, ha, hz, q⟩ := h
  obtain ⟨u1, rfl, r2⟩ := vals1 rv
  cases r2
  obtain ⟨z, hb, vs, rel, dd⟩ := dk_of I.hok ha
  obtain ⟨ep, da⟩ := dd.dictAt
  have hl := rel.length
  refine call_list_dict (I.ok.hd hc) hb da (by omega) fun h' tk acc c kp he hacc => ?_
  exact ⟨.ref s.heap.objs.size, _, I.laid (a := s.heap.objs.size) (o := .lst (kvs.map fun p => kV p.1)) (t' := tk) kp (Nat.le_refl _) ⟨by rw [List.length_map]; exact z, acc.toList, c, keys_vals rel hacc, by simpa using he⟩, rfl, q _ (I.hok.fresh (Nat.le_refl _))⟩
end
end L2
namespace L2
open PySem PySem.Spec PyProof.Rows
section
variable {X : Cx}
end
end L2
namespace L2
open PySem PySem.Spec PyProof.Rows
section
variable {X : Cx}
end
section
variable {prog : Program} {w : World} {A : Around} {E : Value → Shared → Prop} {s : Shared}
end
section
variable {X : Cx}
end
end L2
namespace L2
open PySem PySem.Spec PyProof.Rows
section
variable {X : Cx} {pins : List (Addr × Obj)} {σ : List (Option V)} {H : Hp} {s : Shared}
end
section
variable {X : Cx}
def rEqNil (K : PySem.W.Frag) : R2 := fun x y H Q => ∃ p q xs, x = .ref p ∧ y = .ref q ∧ SqL K H p xs ∧ SqL K H q [] ∧ Q (.bl xs.isEmpty) H
theorem op_eqNil (K : PySem.W.Frag) {k : Nat} (hr : Room k X.A) (hK : X.K = K := by rfl) : OpR X (compareOp .Eq) (rEqNil K) := by
  subst hK
  intro pins s σ H x y v u Q I rx ry h
  obtain ⟨p, q, xs, rfl, rfl, h1, h2, hq⟩ := h
  cases rx
  cases ry
  obtain ⟨us, r1, pl1, _⟩ := I.list h1
  obtain ⟨vs, r2, pl2, _⟩ := I.list h2
  have hu : X.A.units < cLine := Nat.lt_of_succ_lt (hu_of hr)
  cases r2
  cases xs with
  | nil =>
    cases r1
    exact SeqAt.RcAt.lists (e := fun _ => true) pl1.isList pl2.isList rfl hu (fun j h _ => absurd h (Nat.not_lt_zero _)) X.prog X.w _ _ ⟨.bl _, H, I, rfl, hq⟩
  | cons x xs =>
    have l1 := r1.length
    exact SeqAt.RcAt.lists_lengths pl1.isList pl2.isList (by simp at l1 ⊢; intro z; rw [z] at l1; cases l1) hu X.prog X.w _ _ ⟨.bl _, H, I, rfl, hq⟩
end
end L2
namespace L2
open PySem PySem.Spec PyProof.Rows
end L2
namespace L2
open PySem PySem.Spec PyProof.Rows
theorem comp_zipM {K : PySem.W.Frag} {p q : Addr} {xs ys : List V} {n : Nat} {tt : TT} {te : TE} {H1 : Hp} {Q : VK} {D : Addr} {more : St} (P : Nat → List V → Hp → Prop) (hn : n = min xs.length ys.length) (h0 : P 0 [] (upd H1 D (.lst [])))
    (hp : ∀ i zs H, P i zs H → H D = some (.lst zs) → SqL K H p xs ∧ SqT K H q ys)
    (hs : ∀ i zs H T x y, xs[i]? = some x → ys[i]? = some y → i < n → P i zs H → H D = some (.lst zs) → H T = none → tt (some x :: some y :: more) (upd H T (.tup [x, y])) fun b H4 => if b = true then te (some x :: some y :: more) H4 (cYes (fun σ => ∃ x y, σ = x :: y :: more) P n D (some x :: some y :: more) i) else cNo (fun σ => ∃ x y, σ = x :: y :: more) P n D (some x :: some y :: more) i H4)
    (hd : ∀ zs H, P n zs H → H D = some (.lst zs) → Q (.ref D) H) :
    CompGo (ItzM K p q) (gTup K 2 (gCons (gName 0) (gCons (gName 1) gNil))) tt te (none :: none :: more) H1 Q D := by
  refine ⟨cW (fun σ => ∃ x y, σ = x :: y :: more) P n D, ⟨n, (Nat.sub_zero _).symm, Nat.zero_le _, ⟨_, _, rfl⟩, _, h0, upd_same⟩, ?_⟩
  rintro i m σ' H' ⟨rfl, hi, ⟨s1, s2, rfl⟩, zs, pp, hD⟩
  obtain ⟨q1, q2⟩ := hp i zs H' pp hD
  by_cases hlt : i < n
  · have k1 : xs[i]? = some (xs.getD i .non) := by simp [List.getD, show i < xs.length by omega]
    have k2 : ys[i]? = some (ys.getD i .non) := by simp [List.getD, show i < ys.length by omega]
    refine .inr ⟨⟨xs, ys, _, _, q1, q2, k1, k2⟩, ?_⟩
    rintro v H2 ⟨T, x, y, hT, rfl, rfl, hall⟩
    obtain ⟨e1, e2⟩ := hall xs ys q1 q2
    exact ⟨T, _, rfl, SqT.of upd_same, rfl, _, _, rfl, _, _, rfl, rfl, hs i zs H' T x y e1 e2 hlt pp hD hT⟩
  · have e : i = n := by omega
    subst e
    exact .inl ⟨⟨xs, ys, q1, q2, by omega⟩, hd zs H' pp hD⟩
end L2
namespace L2
open PySem PySem.Spec PyProof.Rows PySem.W
section
variable {α β : Type} {a : Nat → Nat → Bool} {n : Nat}
def wK (a : Nat → Nat → Bool) (n : Nat) : KasT α → (α → Prop) → Prop
  | .ret x, P => P x
  | .ask i j k, P => i < n ∧ j < n ∧ wK a n (k (a i j)) P
theorem wK_bind : ∀ (t : KasT α) (f : α → KasT β) (P : β → Prop), wK a n t (fun x => wK a n (f x) P) → wK a n (t.bind f) P
  | .ret _, _, _, h => h
  | .ask _ _ k, f, P, h => ⟨h.1, h.2.1, wK_bind (k _) f P h.2.2⟩
theorem wK_wp {cmp : Nat → Nat → (Bool → Shared → Prop) → Shared → Prop} {s : Shared} {G : α → Shared → Prop} (hc : ∀ i j C, i < n → j < n → C (a i j) s → cmp i j C s) : ∀ (t : KasT α), wK a n t (fun x => G x s) → t.kasWp cmp G s
  | .ret _, h => h
  | .ask i j k, h => hc i j _ h.1 h.2.1 (wK_wp hc (k _) h.2.2)
end
structure OrdK (a : Nat → Nat → Bool) (n : Nat) : Prop where
  asym : ∀ i j, i < n → j < n → a i j = true → a j i = false
  tot : ∀ i j, i < n → j < n → i ≠ j → a i j = false → a j i = true
  tr : ∀ i j k, i < n → j < n → k < n → a i j = true → a j k = true → a i k = true
section
variable {a : Nat → Nat → Bool} {n : Nat}
def PerN (n : Nat) (p : Array Nat) : Prop := p.toList.Perm (List.range n)
theorem PerN.size {p : Array Nat} (h : PerN n p) : p.size = n := by
  have := h.length_eq
  rw [List.length_range, Array.length_toList] at this
  exact this
theorem PerN.get {p : Array Nat} (h : PerN n p) {k : Nat} (hk : k < n) : p[k]? = some (p.getD k 0) ∧ p.getD k 0 < n := by
  have hs := h.size
  have e : p[k]? = some (p[k]'(by omega)) := Array.getElem?_eq_getElem (by omega)
  have g : p.getD k 0 = p[k]'(by omega) := by
    rw [Array.getD_eq_getD_getElem?, e]
    rfl
  refine ⟨by rw [g]; exact e, ?_⟩
  rw [g]
  have : p[k]'(by omega) ∈ p.toList := by
    rw [← Array.getElem_toList]
    exact List.getElem_mem _
  exact List.mem_range.mp (h.mem_iff.mp this)
theorem PerN.inj {p : Array Nat} (h : PerN n p) {i j : Nat} (hi : i < n) (hj : j < n) (e : p.getD i 0 = p.getD j 0) : i = j := by
  have hs := h.size
  have nd : p.toList.Nodup := h.nodup_iff.mpr List.nodup_range
  have gi := (h.get hi).1
  have gj := (h.get hj).1
  rw [← Array.getElem?_toList] at gi gj
  rw [e] at gi
  exact (List.getElem?_inj (by rw [Array.length_toList]; omega) nd).mp (gi.trans gj.symm)
def AscK (a : Nat → Nat → Bool) (p : Array Nat) (m : Nat) : Prop := ∀ i j, i < j → j < m → a (p.getD i 0) (p.getD j 0) = true
def DesK (a : Nat → Nat → Bool) (p : Array Nat) (m : Nat) : Prop := ∀ i j, i < j → j < m → a (p.getD j 0) (p.getD i 0) = true
theorem AscK.snoc {p : Array Nat} {k : Nat} (O : OrdK a n) (hp : PerN n p) (h : AscK a p k) (k1 : 1 ≤ k) (kn : k < n) (q : a (p.getD (k - 1) 0) (p.getD k 0) = true) : AscK a p (k + 1) := fun i j hij hj => by
  by_cases e : j = k
  · subst e
    by_cases e2 : i = j - 1
    · rw [e2]; exact q
    · exact O.tr _ _ _ (hp.get (by omega)).2 (hp.get (by omega)).2 (hp.get kn).2 (h i (j - 1) (by omega) (by omega)) q
  · exact h i j hij (by omega)
theorem DesK.snoc {p : Array Nat} {k : Nat} (O : OrdK a n) (hp : PerN n p) (h : DesK a p k) (k1 : 1 ≤ k) (kn : k < n) (q : a (p.getD k 0) (p.getD (k - 1) 0) = true) : DesK a p (k + 1) := fun i j hij hj => by
  by_cases e : j = k
  · subst e
    by_cases e2 : i = j - 1
    · rw [e2]; exact q
    · exact O.tr _ _ _ (hp.get kn).2 (hp.get (by omega)).2 (hp.get (by omega)).2 q (h i (j - 1) (by omega) (by omega))
  · exact h i j hij (by omega)
theorem asc_ok {p : Array Nat} (O : OrdK a n) (hp : PerN n p) {P : Nat → Prop} : ∀ (f k : Nat), 1 ≤ k → k + f ≤ n → AscK a p k → (∀ m, k ≤ m → m ≤ k + f → AscK a p m → (m < k + f → a (p.getD m 0) (p.getD (m - 1) 0) = true) → P m) → wK a n (kas_asc p f k) P
  | 0, k, _, _, h, q => q k (Nat.le_refl _) (Nat.le_refl _) h (fun z => absurd z (by omega))
  | f + 1, k, k1, kn, h, q => by
    show p.getD k 0 < n ∧ p.getD (k - 1) 0 < n ∧ wK a n (if a (p.getD k 0) (p.getD (k - 1) 0) = true then .ret k else kas_asc p f (k + 1)) P
    refine ⟨(hp.get (by omega)).2, (hp.get (by omega)).2, ?_⟩
    cases e : a (p.getD k 0) (p.getD (k - 1) 0) with
    | true => exact q k (Nat.le_refl _) (by omega) h (fun _ => e)
    | false =>
      have := O.tot _ _ (hp.get (by omega)).2 (hp.get (by omega)).2 (fun z => by have := hp.inj (by omega) (by omega) z; omega) e
      exact asc_ok O hp f (k + 1) (by omega) (by omega) (h.snoc O hp k1 (by omega) this) fun m h1 h2 h3 h4 => q m (by omega) (by omega) h3 (fun z => h4 (by omega))
theorem des_ok {p : Array Nat} (O : OrdK a n) (hp : PerN n p) {P : Array Nat × Nat × Nat → Prop} : ∀ (f k : Nat), 1 ≤ k → k + f ≤ n → DesK a p k → (∀ m, k ≤ m → m ≤ k + f → DesK a p m → P (p, m, 0)) → wK a n (kas_desc f p k 0) P
  | 0, k, _, _, h, q => q k (Nat.le_refl _) (Nat.le_refl _) h
  | f + 1, k, k1, kn, h, q => by
    show p.getD k 0 < n ∧ p.getD (k - 1) 0 < n ∧ wK a n (if a (p.getD k 0) (p.getD (k - 1) 0) = true then (if 0 > 0 then kas_desc f (kas_rev p (k - (0 + 1)) k) (k + 1) 0 else kas_desc f p (k + 1) 0)
      else .ask (p.getD (k - 1) 0) (p.getD k 0) fun d => if d = true then .ret (p, k, 0) else kas_desc f p (k + 1) (0 + 1)) P
    refine ⟨(hp.get (by omega)).2, (hp.get (by omega)).2, ?_⟩
    cases e : a (p.getD k 0) (p.getD (k - 1) 0) with
    | true => exact des_ok O hp f (k + 1) (by omega) (by omega) (h.snoc O hp k1 (by omega) e) fun m h1 h2 h3 => q m (by omega) (by omega) h3
    | false =>
      have := O.tot _ _ (hp.get (by omega)).2 (hp.get (by omega)).2 (fun z => by have := hp.inj (by omega) (by omega) z; omega) e
      refine ⟨(hp.get (by omega)).2, (hp.get (by omega)).2, ?_⟩
      rw [this]
      exact q k (Nat.le_refl _) (by omega) h
theorem rev_per {p : Array Nat} (hp : PerN n p) (i j : Nat) : PerN n (kas_rev p i j) := (Array.Perm.toList (mirror_perm p i j _)).trans hp
theorem rev_at {p : Array Nat} (hp : PerN n p) {m k : Nat} (hm : m ≤ n) (hk : k < m) : (kas_rev p 0 m).getD k 0 = p.getD (m - 1 - k) 0 := by
  rw [Array.getD_eq_getD_getElem?, Array.getD_eq_getD_getElem?]
  show ((mirror p 0 m ((m - 0) / 2))[k]?).getD 0 = _
  rw [getElem?_mirror_all (by rw [hp.size]; exact hm), if_pos ⟨Nat.zero_le _, hk⟩, Nat.zero_add]
theorem count_ok {p : Array Nat} (O : OrdK a n) (hp : PerN n p) (n2 : 2 ≤ n) {P : Nat × Array Nat → Prop} (q : ∀ m p', 1 ≤ m → m ≤ n → PerN n p' → AscK a p' m → P (m, p')) : wK a n (kas_count n p) P := by
  unfold kas_count
  refine wK_bind _ _ _ (asc_ok O hp (n - 1) 1 (Nat.le_refl _) (by omega) (fun i j h1 h2 => by omega) fun m h1 h2 h3 h4 => ?_)
  by_cases e : m = n
  · rw [if_pos (by simp [e])]
    exact q m p h1 (by omega) hp h3
  · rw [if_neg (by simp [e])]
    by_cases e1 : m > 1
    · rw [if_pos e1]
      refine ⟨(hp.get (by omega)).2, (hp.get (by omega)).2, ?_⟩
      rw [h3 0 (m - 1) (by omega) (by omega)]
      exact q m p h1 (by omega) hp h3
    · rw [if_neg e1]
      obtain rfl : m = 1 := by omega
      unfold kas_descPart
      have d2 : DesK a p 2 := fun i j hij hj => by
        obtain rfl : j = 1 := by omega
        obtain rfl : i = 0 := by omega
        exact h4 (by omega)
      refine wK_bind _ _ _ (des_ok O hp (n - (1 + 1)) (1 + 1) (by omega) (by omega) d2 fun m g1 g2 g3 => ?_)
      rw [if_neg (by show ¬ (0 : Nat) > 0; omega)]
      unfold kas_tail3
      have hr := rev_per hp 0 m
      have as : AscK a (kas_rev p 0 m) m := fun i j hij hj => by
        rw [rev_at hp (by omega) (by omega), rev_at hp (by omega) hj]
        exact g3 _ _ (by omega) (by omega)
      refine wK_bind _ _ _ (asc_ok O hr (n - m) m (by omega) (by omega) as fun m' k1 k2 k3 _ => ?_)
      exact q m' _ (by omega) (by omega) hr k3
theorem place_ok {p : Array Nat} (O : OrdK a n) (hp : PerN n p) {k : Nat} (kn : k < n) {P : Nat → Prop} : ∀ (f l r : Nat), r - l ≤ f → l ≤ r → r ≤ k → (∀ i, i < l → a (p.getD i 0) (p.getD k 0) = true) → (∀ i, r ≤ i → i < k → a (p.getD k 0) (p.getD i 0) = true) → AscK a p k →
    (∀ m, m ≤ k → (∀ i, i < m → a (p.getD i 0) (p.getD k 0) = true) → (∀ i, m ≤ i → i < k → a (p.getD k 0) (p.getD i 0) = true) → P m) → wK a n (kas_place p k f l r) P
  | 0, l, r, hf, lr, rk, h1, h2, _, q => q l (by omega) h1 fun i hi hk => h2 i (by omega) hk
  | f + 1, l, r, hf, lr, rk, h1, h2, as, q => by
    rw [kas_place.eq_def]
    show wK a n (if l ≥ r then .ret l else .ask (p.getD k 0) (p.getD ((l + r) / 2) 0) fun c => if c = true then kas_place p k f l ((l + r) / 2) else kas_place p k f ((l + r) / 2 + 1) r) P
    by_cases e : l ≥ r
    · rw [if_pos e]
      exact q l (by omega) h1 fun i hi hk => h2 i (by omega) hk
    · rw [if_neg e]
      have m1 : l ≤ (l + r) / 2 := by omega
      have m2 : (l + r) / 2 < r := by omega
      generalize (l + r) / 2 = m at m1 m2
      have gm := (hp.get (k := m) (by omega)).2
      have gk := (hp.get kn).2
      refine ⟨gk, gm, ?_⟩
      cases ea : a (p.getD k 0) (p.getD m 0) with
      | true =>
        refine place_ok O hp kn f l m (by omega) m1 (by omega) h1 (fun i hi hk => ?_) as q
        by_cases e2 : i = m
        · rw [e2]; exact ea
        · exact O.tr _ _ _ gk gm (hp.get (by omega)).2 ea (as m i (by omega) hk)
      | false =>
        have := O.tot _ _ gk gm (fun z => by have := hp.inj kn (by omega) z; omega) ea
        refine place_ok O hp kn f (m + 1) r (by omega) (by omega) rk (fun i hi => ?_) h2 as q
        by_cases e2 : i = m
        · rw [e2]; exact this
        · exact O.tr _ _ _ (hp.get (by omega)).2 gm gk (as i m (by omega) (by omega)) this
theorem bub_at {p : Array Nat} (hp : PerN n p) {k l i : Nat} (kn : k < n) (lk : l ≤ k) : (bubble p k (k - l)).getD i 0 = if i = l then p.getD k 0 else if l < i ∧ i ≤ k then p.getD (i - 1) 0 else p.getD i 0 := by
  rw [Array.getD_eq_getD_getElem?, getElem?_bubble (by rw [hp.size]; exact kn) _ (by omega), show k - (k - l) = l by omega]
  split
  · rw [Array.getD_eq_getD_getElem?]
  · split
    · rw [Array.getD_eq_getD_getElem?]
    · rw [Array.getD_eq_getD_getElem?]
theorem bin_ok (O : OrdK a n) {P : Array Nat → Prop} (q : ∀ p, PerN n p → AscK a p n → P p) : ∀ (f k : Nat) (p : Array Nat), PerN n p → k + f = n → AscK a p k → wK a n (kas_bin f p k) P
  | 0, k, p, hp, hk, h => q p hp (by rw [← hk]; exact h)
  | f + 1, k, p, hp, hk, h => by
    show wK a n ((kas_place p k k 0 k).bind fun l => kas_bin f (bubble p k (k - l)) (k + 1)) P
    refine wK_bind _ _ _ (place_ok O hp (by omega) k 0 k (by omega) (by omega) (by omega) (fun i hi => absurd hi (by omega)) (fun i h1 h2 => absurd h1 (by omega)) h fun m mk h1 h2 => ?_)
    refine bin_ok O q f (k + 1) _ ((Array.Perm.toList (bubble_perm p k _)).trans hp) (by omega) fun i j hij hj => ?_
    rw [bub_at hp (by omega) mk, bub_at hp (by omega) mk]
    by_cases ei : i = m
    · rw [if_pos ei, if_neg (by omega), if_pos (by omega)]
      exact h2 (j - 1) (by omega) (by omega)
    · rw [if_neg ei]
      by_cases ej : j = m
      · rw [if_pos ej, if_neg (by omega)]
        exact h1 i (by omega)
      · rw [if_neg ej]
        by_cases gi : m < i ∧ i ≤ k
        · rw [if_pos gi, if_pos (by omega)]
          exact h _ _ (by omega) (by omega)
        · rw [if_neg gi]
          by_cases gj : m < j ∧ j ≤ k
          · rw [if_pos gj]
            exact h _ _ (by omega) (by omega)
          · rw [if_neg gj]
            exact h _ _ hij (by omega)
theorem sort_ok (O : OrdK a n) (n2 : 2 ≤ n) {P : Array Nat → Prop} (q : ∀ p, PerN n p → AscK a p n → P p) : wK a n (kas_sort n) P := by
  unfold kas_sort
  refine wK_bind _ _ _ (count_ok O (p := (List.range n).toArray) (List.Perm.refl _) n2 fun m p' m1 mn hp h => ?_)
  show wK a n (if m < n then kas_bin (n - max m 1) p' (max m 1) else .ret p') P
  rw [show max m 1 = m by omega]
  by_cases e : m < n
  · rw [if_pos e]
    exact bin_ok O q (n - m) m p' hp (by omega) h
  · rw [if_neg e]
    exact q p' hp (by rw [show n = m by omega]; exact h)
end
def lexB : List Nat → List Nat → Bool
  | x :: xs, y :: ys => if x = y then lexB xs ys else decide (x < y)
  | _, _ => false
theorem lex_asym : ∀ (xs ys : List Nat), lexB xs ys = true → lexB ys xs = false
  | [], [], h => by cases h
  | [], _ :: _, h => by cases h
  | _ :: _, [], h => by cases h
  | x :: xs, y :: ys, h => by
    unfold lexB at h ⊢
    by_cases e : x = y
    · rw [if_pos e] at h
      rw [if_pos e.symm]
      exact lex_asym xs ys h
    · rw [if_neg e, decide_eq_true_eq] at h
      rw [if_neg (fun z => e z.symm), decide_eq_false_iff_not]
      omega
theorem lex_tot : ∀ (xs ys : List Nat), xs.length = ys.length → xs ≠ ys → lexB xs ys = false → lexB ys xs = true
  | [], [], _, n, _ => absurd rfl n
  | [], _ :: _, h, _, _ => by cases h
  | _ :: _, [], h, _, _ => by cases h
  | x :: xs, y :: ys, hl, n, h => by
    unfold lexB at h ⊢
    by_cases e : x = y
    · rw [if_pos e] at h
      rw [if_pos e.symm]
      exact lex_tot xs ys (by simpa using hl) (fun z => n (by rw [e, z])) h
    · rw [if_neg e, decide_eq_false_iff_not] at h
      rw [if_neg (fun z => e z.symm), decide_eq_true_eq]
      omega
theorem lex_tr : ∀ (xs ys zs : List Nat), lexB xs ys = true → lexB ys zs = true → lexB xs zs = true
  | [], [], _, h, _ => by cases h
  | [], _ :: _, _, h, _ => by cases h
  | _ :: _, [], _, h, _ => by cases h
  | _ :: _, _ :: _, [], _, h => by cases h
  | x :: xs, y :: ys, z :: zs, h1, h2 => by
    unfold lexB at h1 h2 ⊢
    by_cases e : x = y
    · rw [if_pos e] at h1
      subst e
      by_cases e2 : x = z
      · rw [if_pos e2] at h2 ⊢
        exact lex_tr xs ys zs h1 h2
      · rw [if_neg e2] at h2 ⊢
        exact h2
    · rw [if_neg e, decide_eq_true_eq] at h1
      by_cases e2 : y = z
      · subst e2
        rw [if_neg e, decide_eq_true_eq]
        exact h1
      · rw [if_neg e2, decide_eq_true_eq] at h2
        rw [if_neg (by omega), decide_eq_true_eq]
        omega
def Tl (h : Heap) (k : List Nat) (v : Value) : Prop := ∃ b o its n, v = .ref b ∧ h.get? b = some o ∧ o.cls = .type "tuple" ∧ o.data = .seq its n ∧ Paired (fun (x : Nat) (u : Value) => ∃ t, u = .int (x : Int) t) k its.toList
theorem Tl.keep {h h' : Heap} {k : List Nat} {v : Value} (x : Tl h k v) (e : ∀ b o, h.get? b = some o → o.cls = .type "tuple" → h'.get? b = some o) : Tl h' k v := by
  obtain ⟨b, o, its, n, e1, e2, e3, e4, e5⟩ := x
  exact ⟨b, o, its, n, e1, e b o e2 e3, e3, e4, e5⟩
section
variable {prog : Program} {w : World} {A : Around} {E : Value → Shared → Prop} {s : Shared}
theorem lex_run {Q : Bool → Shared → Prop} : ∀ {k l : List Nat} {xs ys : List Value} (i : Nat), Paired (fun (x : Nat) (u : Value) => ∃ t, u = .int (x : Int) t) k xs → Paired (fun (x : Nat) (u : Value) => ∃ t, u = .int (x : Int) t) l ys → k.length = l.length → Q (lexB k l) s → KatLex prog w A true false Q (xs.zip ys) i s := by
  intro k
  induction k with
  | nil =>
    intro l xs ys i h1 h2 hl q
    cases h1
    cases l with
    | nil => exact kat_nil q
    | cons y l => cases hl
  | cons x k ih =>
    intro l xs ys i h1 h2 hl q
    cases l with
    | nil => cases hl
    | cons y l =>
      cases h1 with
      | cons r1 h1 =>
        cases h2 with
        | cons r2 h2 =>
          obtain ⟨t, rfl⟩ := r1
          obtain ⟨u, rfl⟩ := r2
          show KatLex prog w A true false Q ((_, _) :: List.zip _ _) i s
          refine kat_cons (wpAny_eqBool_int ?_)
          unfold lexB at q
          by_cases e : x = y
          · subst e
            rw [if_pos rfl] at q
            rw [show ((x : Int) == (x : Int)) = true by simp]
            exact kat_yes (ih (i + 1) h1 h2 (by simpa using hl) q)
          · rw [if_neg e] at q
            rw [show ((x : Int) == (y : Int)) = false by simp; omega]
            have ed : decide ((x : Int) < (y : Int)) = decide (x < y) := by simp
            refine kat_no ?_
            cases hb : (true && i == 0) with
            | true =>
              refine oneLt_int ?_
              rw [ed]
              exact q
            | false =>
              refine kat_one _ _ (lt_int ?_)
              rw [ed]
              exact q
theorem tl_lt {k l : List Nat} {v u : Value} {Q : Bool → Shared → Prop} (hv : Tl s.heap k v) (hu : Tl s.heap l u) (hl : k.length = l.length) (q : Q (lexB k l) s) : wpAny (model prog w) A (keyLt' (tuples' true) v u) Q E s := by
  obtain ⟨b, o, its, n, rfl, e2, e3, e4, e5⟩ := hv
  obtain ⟨b', o', its', n', rfl, f2, f3, f4, f5⟩ := hu
  have l1 : k.length = its.size := (Paired.length e5).trans Array.length_toList
  have l2 : l.length = its'.size := (Paired.length f5).trans Array.length_toList
  refine kat_lt e2 e4 f2 f4 ?_
  rw [show decide (its.size < its'.size) = false from decide_eq_false (by omega)]
  exact lex_run 0 e5 f5 hl q
theorem tl_firsts {h : Heap} {L : Nat} {ks : List (List Nat)} {vs : List Value} (hp : Paired (Tl h) ks vs) (hL : ∀ k ∈ ks, k.length = L) (L1 : 1 ≤ L) : ∃ fs, KatTups h vs fs ∧ fs.length = vs.length ∧ ∀ f ∈ fs, ∃ i t, f = Value.int i t := by
  induction hp with
  | nil => exact ⟨[], .nil, rfl, fun f hf => by cases hf⟩
  | @cons k v ks vs r _ ih =>
    obtain ⟨fs, h1, h2, h3⟩ := ih fun k hk => hL k (List.mem_cons_of_mem _ hk)
    obtain ⟨b, o, its, n, rfl, e2, e3, e4, e5⟩ := r
    have kl := hL k List.mem_cons_self
    cases k with
    | nil => simp at kl; omega
    | cons x k =>
      obtain ⟨u, rest, eu⟩ : ∃ u rest, its.toList = u :: rest ∧ ∃ t, u = .int (x : Int) t := by
        generalize its.toList = l at e5
        cases e5 with
        | cons r5 _ => exact ⟨_, _, rfl, r5⟩
      obtain ⟨eu, t, rfl⟩ := eu
      refine ⟨.int x t :: fs, .cons e2 e3 e4 (by rw [← Array.getElem?_toList, eu]; rfl) h1, by rw [List.length_cons, List.length_cons, h2], fun f hf => ?_⟩
      rcases List.mem_cons.mp hf with rfl | hf
      · exact ⟨_, _, rfl⟩
      · exact h3 f hf
theorem list_sort_lex {a : Addr} {vs : List Value} {n L : Nat} {ks : List (List Nat)} {P : PySem.Fin → Shared → Prop} (ho : s.heap.get? a = some (seqObj "list" vs.toArray n)) (hp : Paired (Tl s.heap) ks vs) (hL : ∀ k ∈ ks, k.length = L) (L1 : 1 ≤ L) (nd : ks.Nodup) (hl : vs.length < 64)
    (h : ∀ ids : List Nat, ids.Perm (List.range vs.length) → (ids.map fun i => ks.getD i []).Pairwise (fun x y => lexB x y = true) → P (.done (.ret .none)) { s with heap := sortedHeap s.heap a vs (ids.map fun i => vs.getD i .none).toArray }) : wpAny (model prog w) A (Builtin.«list.sort» ⟨[.ref a], []⟩) P E s := by
  rw [list_sort_plain]
  have ha : a < s.heap.objs.size := Heap.lt_size ho
  refine wpAny_bind (listItems_at ho rfl ?_)
  refine wpAny_bind (listUpdate_at ho rfl ?_ (by rw [List.size_toArray, sizeLine_eq]; omega) (Nat.zero_le _))
  obtain ⟨e1, ho1⟩ : ∃ e1, (s.heap.update a (Obj.mapSeq fun _ => #[])).get? a = some (seqObj "list" #[] e1) := ⟨_, get?_update_seq ho (fun _ => #[])⟩
  refine wpAny_bind (seqEpoch_at ho1 rfl ?_)
  refine wpAny_bind (wpAny_newTuple ?_ (by show vs.length ≤ _; rw [sizeLine_eq]; omega))
  refine wpAny_bind (wpAny_newList ?_ (Nat.zero_le _))
  refine wpAny_holding ?_
  have ho6 : (((s.heap.update a (Obj.mapSeq fun _ => #[])).push (seqObj "tuple" vs.toArray 0)).push (seqObj "list" #[] 0)).get? a = some (seqObj "list" #[] e1) := by
    rw [Heap.get?_push_ne _ _ _ (by rw [size_push', Heap.size_update]; exact Nat.ne_of_lt (Nat.lt_succ_of_lt ha)), Heap.get?_push_ne _ _ _ (by rw [Heap.size_update]; exact Nat.ne_of_lt ha)]
    exact ho1
  have hp6 : Paired (Tl (((s.heap.update a (Obj.mapSeq fun _ => #[])).push (seqObj "tuple" vs.toArray 0)).push (seqObj "list" #[] 0))) ks vs := Paired.imp' (fun k v z => z.keep fun b o e c => by
    refine Heap.get?_push_of_some _ (Heap.get?_push_of_some _ ?_)
    have ne : a ≠ b := fun z => by
      subst z
      rw [ho] at e
      cases e
      exact absurd (show Value.type "list" = Value.type "tuple" from c) (by intro z; injection z with z; revert z; decide)
    exact (Heap.get?_update_other _ _ ne).trans e) hp
  show wpAny (model prog w) A _ P E { s with heap := ((s.heap.update a (Obj.mapSeq fun _ => #[])).push (seqObj "tuple" vs.toArray 0)).push (seqObj "list" #[] 0) }
  dsimp only
  have hsz : vs.toArray.size = vs.length := by simp
  have kl := Paired.length hp6
  by_cases h2 : vs.toArray.size < 2
  · rw [if_pos h2, if_pos h2]
    refine wpAny_bind (wpAny_pure ?_)
    rw [StateT.run_pure]
    refine wpAny_bind (wpAny_pure ?_)
    dsimp only
    refine wpAny_bind (seqEpoch_at ho6 rfl ?_)
    have e0 : ((vs.toArray.zip vs.toArray).map (·.2)) = vs.toArray := by
      apply Array.toList_inj.mp
      rw [Array.toList_map, Array.toList_zip]
      simp [List.map_snd_zip]
    have em : (List.range vs.length).map (fun i => vs.getD i .none) = vs := by
      refine List.ext_getElem? fun i => ?_
      rw [List.getElem?_map]
      by_cases hi : i < vs.length
      · rw [List.getElem?_range hi, List.getElem?_eq_getElem hi]
        show some (vs.getD i .none) = _
        rw [List.getD_eq_getElem?_getD, List.getElem?_eq_getElem hi]
        rfl
      · rw [List.getElem?_eq_none (by rw [List.length_range]; omega), List.getElem?_eq_none (by omega)]
        rfl
    refine wpAny_bind (listUpdate_at ho6 rfl ?_ (hsz2 := by show ((vs.toArray.zip vs.toArray).map (·.2)).size ≤ _; rw [e0, hsz, sizeLine_eq]; omega))
    simp only [bne_self_eq_false, Bool.false_eq_true, if_false]
    have q := h (List.range vs.length) (List.Perm.refl _) (by
      rw [hsz] at h2
      have : vs.length = 0 ∨ vs.length = 1 := by omega
      rcases this with e | e <;> rw [e] <;> simp [List.range_succ])
    rw [em, ← e0] at q
    exact wpAny_pure q
  · rw [if_neg h2, if_neg h2]
    rw [hsz] at h2
    obtain ⟨fs, t1, t2, t3⟩ := tl_firsts hp6 hL L1
    refine wpAny_bind (kat_kind (T := .type "int") t1 (by omega) (fun f hf => by
      obtain ⟨i, t, rfl⟩ := t3 f hf
      exact .now) (by decide) ?_)
    rw [show (Value.type "int" != Value.type "tuple") = true by decide]
    have kg : ∀ i, i < vs.length → ks[i]? = some (ks.getD i []) ∧ vs[i]? = some (vs.getD i .none) := fun i hi => by
      rw [List.getD_eq_getElem?_getD, List.getD_eq_getElem?_getD, List.getElem?_eq_getElem hi, List.getElem?_eq_getElem (show i < ks.length by omega)]
      exact ⟨rfl, rfl⟩
    have O : OrdK (fun i j => lexB (ks.getD i []) (ks.getD j [])) vs.length := ⟨fun i j _ _ h => lex_asym _ _ h, fun i j hi hj n h => lex_tot _ _ (by rw [hL _ (List.mem_of_getElem? (kg i hi).1), hL _ (List.mem_of_getElem? (kg j hj).1)]) (fun z => n ((List.getElem?_inj (by omega) nd).mp (by rw [(kg i hi).1, (kg j hj).1, z]))) h, fun i j k _ _ _ h1 h2 => lex_tr _ _ _ h1 h2⟩
    refine wpAny_bind (wpAny_mono (kat_run (κ := tuples' true) (ks := vs) (vs := vs) (Q := fun st' s' => s' = { s with heap := ((s.heap.update a (Obj.mapSeq fun _ => #[])).push (seqObj "tuple" vs.toArray 0)).push (seqObj "list" #[] 0) } ∧ failedOf st' = none ∧ ∃ p : Array Nat, arrOf st' = p.map (kas_item (vs.toArray.zip vs.toArray)) ∧ PerN vs.length p ∧ AscK (fun i j => lexB (ks.getD i []) (ks.getD j [])) p vs.length)
      (G := fun p s' => s' = { s with heap := ((s.heap.update a (Obj.mapSeq fun _ => #[])).push (seqObj "tuple" vs.toArray 0)).push (seqObj "list" #[] 0) } ∧ PerN vs.length p ∧ AscK (fun i j => lexB (ks.getD i []) (ks.getD j [])) p vs.length) rfl (by omega) hl (fun p st' s' hz hA hf g => ⟨g.1, hf, p, hA, g.2⟩) ?_) ?_ fun _ _ e => e)
    · refine wK_wp (a := fun i j => lexB (ks.getD i []) (ks.getD j [])) (n := vs.length) (fun i j C hi hj c => ?_) _ (sort_ok O (by omega) fun p hp has => ⟨rfl, hp, has⟩)
      refine tl_lt (Paired.at hp6 i _ _ (kg i hi).1 (kg i hi).2) (Paired.at hp6 j _ _ (kg j hj).1 (kg j hj).2) ?_ c
      rw [hL _ (List.mem_of_getElem? (kg i hi).1), hL _ (List.mem_of_getElem? (kg j hj).1)]
    rintro ⟨⟨⟩, st'⟩ s' ⟨rfl, hf, p, hA, per, asc⟩
    dsimp only at hA hf ⊢
    have eo : (arrOf st').map (·.2) = (p.toList.map fun i => vs.getD i .none).toArray := by
      rw [hA, Array.map_map]
      apply Array.toList_inj.mp
      rw [Array.toList_map]
      refine List.map_congr_left fun i hi => ?_
      have hi' : i < vs.length := List.mem_range.mp (per.mem_iff.mp hi)
      show (Array.getD (vs.toArray.zip vs.toArray) i (Value.none, Value.none)).2 = _
      rw [Array.getD_eq_getD_getElem?, ← Array.getElem?_toList, Array.toList_zip]
      have : (List.zip vs vs)[i]? = some (vs.getD i .none, vs.getD i .none) := List.getElem?_zip_eq_some.mpr ⟨(kg i hi').2, (kg i hi').2⟩
      rw [this]
      rfl
    have pl : p.toList.length = vs.length := by rw [Array.length_toList]; exact per.size
    have q := h p.toList per (by
      rw [List.pairwise_map, List.pairwise_iff_getElem]
      intro i j hi hj hij
      have := asc i j hij (by omega)
      have gi := per.get (k := i) (by omega)
      have gj := per.get (k := j) (by omega)
      rw [← Array.getElem?_toList, List.getElem?_eq_getElem hi] at gi
      rw [← Array.getElem?_toList, List.getElem?_eq_getElem hj] at gj
      rw [Option.some.inj gi.1, Option.some.inj gj.1]
      exact this)
    refine wpAny_bind (seqEpoch_at ho6 rfl ?_)
    refine wpAny_bind (listUpdate_at ho6 rfl ?_ (hsz2 := by show ((arrOf st').map (·.2)).size ≤ _; rw [eo, List.size_toArray, List.length_map, pl, sizeLine_eq]; omega))
    rw [hf]
    simp only [bne_self_eq_false, Bool.false_eq_true, if_false]
    rw [← eo] at q
    exact wpAny_pure q
end
end L2
namespace L2
open PySem PySem.Spec PyProof.Rows PySem.W L4
section
variable {prog : Program} {w : World} {A : Around} {E : Value → Shared → Prop} {s : Shared}
theorem sorted_lex {d : Addr} {vs : List Value} {ks : List (List Nat)} {L : Nat} {Q : Value → Shared → Prop} (hcol : ∀ R : List Value → Shared → Prop, (∀ h' tk, (∀ b o, s.heap.get? b = some o → h'.get? b = some o) → R vs { s with heap := h', toks := tk }) → wpAny (model prog w) A.in1 (collect (.ref d)) R E s)
    (hp : Paired (Tl s.heap) ks vs) (hL : ∀ k ∈ ks, k.length = L) (L1 : 1 ≤ L) (nd : ks.Nodup) (hl : vs.length < 64)
    (h : ∀ (h1 h' : Heap) (tk e : Nat) (ids : List Nat), (∀ b o, s.heap.get? b = some o → h1.get? b = some o) → (∀ b o, h1.get? b = some o → h'.get? b = some o) → h'.get? h1.objs.size = some (seqObj "list" (ids.map fun i => vs.getD i .none).toArray e) → ids.Perm (List.range vs.length) → (ids.map fun i => ks.getD i []).Pairwise (fun x y => lexB x y = true) → Q (.ref h1.objs.size) { s with heap := h', toks := tk }) :
    wpAny (model prog w) A (call (.builtin "sorted") [.ref d]) Q E s := by
  refine Calls.call_function_entry kind_sorted plain_sorted entry_sorted (args_sorted1 _) ?_
  unfold Builtin.«sorted»
  refine wpAny_bind (m := checkCount "sorted" 1 1 _) (wpAny_pure ?_)
  refine wpAny_bind (hcol _ fun h' tk hk => ?_)
  refine wpAny_bind (wpAny_newList ?_ (by rw [sizeLine_eq]; omega))
  have hoL : (h'.push (seqObj "list" vs.toArray 0)).get? h'.objs.size = some (seqObj "list" vs.toArray 0) := Heap.get?_push_size _ rfl
  have hpp : Paired (Tl (h'.push (seqObj "list" vs.toArray 0))) ks vs := Paired.imp' (fun k v z => z.keep fun b o e _ => Heap.get?_push_of_some _ (hk b o e)) hp
  show wpAny _ _ _ _ _ { s with heap := h'.push (seqObj "list" vs.toArray 0), toks := tk }
  refine wpAny_bind (wpAny_holding (wpAny_call_entry slot_list_sort ⟨_, hoL, rfl⟩ entry_list_sort (list_sort_lex hoL hpp hL L1 nd hl fun ids per asc => ⟨_, rfl, ?_⟩) (args_list_sort _)))
  obtain ⟨e, he⟩ := sortedHeap_at (vs := vs) (out := (ids.map fun i => vs.getD i .none).toArray) hoL
  exact wpAny_pure ⟨_, rfl, h h' _ tk e ids hk (fun b o q1 => by
    have hb := Heap.lt_size q1
    rw [sortedHeap_old (Nat.ne_of_lt hb) (by rw [Heap.size_push]; exact Nat.lt_succ_of_lt hb)]
    exact Heap.get?_push_of_some _ q1) he per asc⟩
end
abbrev ColV (H : Hp) : List Nat → V → Prop := fun col v => ∃ t, v = .ref t ∧ H t = some (.tup (col.map nV))
theorem col_tl {P : Program} {w : World} {H : Hp} {h : Heap} (ok : HOk P w H h) {col : List Nat} {b : Addr} (e : H b = some (.tup (col.map nV))) : Tl h col (.ref b) := by
  obtain ⟨hz, its, rv, o, g1, g2, ⟨n, g3⟩, _⟩ := (show ObjOk P w H h b (.tup (col.map nV)) from ok _ _ e)
  refine ⟨b, o, _, n, rfl, g1, g2, g3, ?_⟩
  clear g1 g2 g3 e hz
  rw [List.toList_toArray]
  generalize hc : col.map nV = xs at rv
  induction rv generalizing col with
  | nil =>
    cases col with
    | nil => exact .nil
    | cons x col => cases hc
  | cons r _ ih =>
    cases col with
    | nil => cases hc
    | cons x col =>
      obtain ⟨e1, e2⟩ := List.cons.inj hc
      subst e1
      exact .cons r (ih e2)
theorem paired_pick {α β : Type} {F : α → β → Prop} {as : List α} {bs : List β} (h : Paired F as bs) (a0 : α) (b0 : β) {ids : List Nat} (hi : ∀ i ∈ ids, i < bs.length) : Paired F (ids.map fun i => as.getD i a0) (ids.map fun i => bs.getD i b0) := by
  induction ids with
  | nil => exact .nil
  | cons i ids ih =>
    have hl := Paired.length h
    have hib := hi i List.mem_cons_self
    refine .cons ?_ (ih fun j hj => hi j (List.mem_cons_of_mem _ hj))
    show F (as.getD i a0) (bs.getD i b0)
    rw [List.getD_eq_getElem?_getD, List.getD_eq_getElem?_getD, List.getElem?_eq_getElem hib, List.getElem?_eq_getElem (show i < as.length by omega)]
    exact Paired.at h i _ _ (List.getElem?_eq_getElem _) (List.getElem?_eq_getElem _)
theorem pickL_perm {α : Type} (as : List α) (a0 : α) {ids : List Nat} (h : ids.Perm (List.range as.length)) : (ids.map fun i => as.getD i a0).Perm as := by
  refine (h.map _).trans ?_
  have : (List.range as.length).map (fun i => as.getD i a0) = as := by
    refine List.ext_getElem? fun i => ?_
    rw [List.getElem?_map]
    by_cases hi : i < as.length
    · rw [List.getElem?_range hi, List.getElem?_eq_getElem hi]
      show some (as.getD i a0) = _
      rw [List.getD_eq_getElem?_getD, List.getElem?_eq_getElem hi]
      rfl
    · rw [List.getElem?_eq_none (by rw [List.length_range]; omega), List.getElem?_eq_none (by omega)]
      rfl
  rw [this]
section
variable {X : Cx}
theorem kcall_sortedTl (K : PySem.W.Frag) (hK : X.K = K := by rfl) : CallR X (.builtin "sorted") (fun xs H Q => ∃ (a : Addr) (vs : List V) (ks : List (List Nat)) (L : Nat), xs = [.ref a] ∧ SqL K H a vs ∧ Paired (ColV H) ks vs ∧ (∀ k ∈ ks, k.length = L) ∧ 1 ≤ L ∧ ks.Nodup ∧ ks.length < 64 ∧
    ∀ (l : Addr) (bs : List V) (ks' : List (List Nat)), H l = none → Paired (ColV H) ks' bs → ks'.Perm ks → ks'.Pairwise (fun x y => lexB x y = true) → Q (.ref l) (upd H l (.lst bs))) := by
  subst hK
  intro pins s σ H xs us Q I r h
  obtain ⟨a, vs, ks, L, rfl, ha, hp, hL, L1, nd, h64, q⟩ := h
  obtain ⟨u, rfl, rx⟩ := vals1 r
  cases rx
  obtain ⟨us, rv, il, hz⟩ := I.list ha
  have pl := Paired.length hp
  have rl := rv.length
  have hpt : Paired (Tl s.heap) ks us := by
    clear hL nd h64 q pl rl il ha hz
    induction hp generalizing us with
    | nil => cases rv; exact .nil
    | cons c _ ih =>
      cases rv with
      | cons r1 rv =>
        obtain ⟨t, rfl, ht⟩ := c
        cases r1
        exact .cons (col_tl I.hok ht) (ih _ rv)
  refine sorted_lex (vs := us) (ks := ks) (L := L) (fun R hR => collect_list (l := a) il.isList (hR _ _ fun b o e => ?_) (by rw [sizeLine_eq]; omega)) hpt hL L1 nd (by omega) fun g1 g2 tk e ids k1 k2 he per asc => ?_
  · have hb := Heap.lt_size e
    rw [Heap.get?_update_other _ _ (Nat.ne_of_gt hb)]
    exact Heap.get?_push_of_some _ e
  have I1 : Inv X pins σ H { s with heap := g1, toks := tk } := I.un (Un.kept k1) (I.hok.kept k1)
  have il' : ∀ i ∈ ids, i < vs.length := fun i hi => by
    have := List.mem_range.mp (per.mem_iff.mp hi)
    omega
  have idl : ids.length = us.length := by rw [per.length_eq, List.length_range]
  refine ⟨.ref g1.objs.size, _, I1.laid (t' := tk) (o := .lst (ids.map fun i => vs.getD i .non)) k2 (Nat.le_refl _) ?_, rfl, q _ _ (ids.map fun i => ks.getD i []) (I1.hok.fresh (Nat.le_refl _)) (paired_pick hp _ _ il') (pickL_perm _ _ (by rw [pl, rl]; exact per)) asc⟩
  refine ⟨by rw [List.length_map, idl, sizeLine_eq]; omega, ids.map fun i => us.getD i .none, e, ?_, by simpa [seqObj] using he⟩
  exact paired_pick rv _ _ (fun i hi => List.mem_range.mp (per.mem_iff.mp hi))
def colK (col : List Nat) : List Key := col.map fun (n : Nat) => (Sum.inl (n : Int) : Key)
theorem colK_V (col : List Nat) : (colK col).map kV = col.map nV := by
  unfold colK
  rw [List.map_map]
  rfl
theorem dt_cols {P : Program} {w : World} {H : Hp} {kvs : List (List Key × V)} : ∀ {ks : List (List Nat)} {kvs : List (List Key × V)} {xs : List (List Key × Addr × Value)}, kvs.map Prod.fst = ks.map colK → Paired (fun (p : List Key × V) (q : List Key × Addr × Value) => p.1 = q.1 ∧ H q.2.1 = some (.tup (p.1.map kV)) ∧ RelV p.2 q.2.2) kvs xs →
    Paired (ColV H) ks (xs.map fun x => V.ref x.2.1) := by
  intro ks
  induction ks with
  | nil =>
    intro kvs xs e rp
    cases kvs with
    | nil => cases rp; exact .nil
    | cons p kvs => cases e
  | cons k ks ih =>
    intro kvs xs e rp
    cases kvs with
    | nil => cases e
    | cons p kvs =>
      cases rp with
      | cons hq t =>
        obtain ⟨e1, e2⟩ := List.cons.inj e
        refine .cons ⟨_, rfl, ?_⟩ (ih e2 t)
        rw [hq.2.1, e1, colK_V]
theorem dt_keys (P : Program) (w : World) : ∀ (xs : List (List Key × Addr × Value)), (xs.map (entryOfKey (tupleKind (mixKind P w)))).map (·.key) = xs.map fun x => Value.ref x.2.1
  | [] => rfl
  | x :: xs => by
    rw [List.map_cons, List.map_cons, List.map_cons, dt_keys P w xs]
    rfl
theorem kcall_sortedTd (hc : X.calm = true) : CallR X (.builtin "sorted") (fun xs H Q => ∃ (a : Addr) (kvs : List (List Key × V)) (ks : List (List Nat)) (L : Nat), xs = [.ref a] ∧ H a = some (.dT kvs) ∧ kvs.map Prod.fst = ks.map colK ∧ (∀ k ∈ ks, k.length = L) ∧ 1 ≤ L ∧ ks.Nodup ∧ ks.length < 64 ∧
    ∀ (l : Addr) (bs : List V) (ks' : List (List Nat)), H l = none → Paired (ColV H) ks' bs → ks'.Perm ks → ks'.Pairwise (fun x y => lexB x y = true) → Q (.ref l) (upd H l (.lst bs))) := by
  intro pins s σ H xs us Q I r h
  obtain ⟨a, kvs, ks, L, rfl, ha, ek, hL, L1, nd, h64, q⟩ := h
  obtain ⟨u, rfl, rx⟩ := vals1 r
  cases rx
  obtain ⟨z, lo, xs, rp, o, es, ep, h1, h2, h3, h4, h5⟩ := (show ObjOk X.prog X.w H s.heap a (.dT kvs) from I.hok a _ ha)
  have hp := dt_cols (P := X.prog) (w := X.w) (kvs := kvs) ek rp
  have pl := Paired.length hp
  have hpt : Paired (Tl s.heap) ks (xs.map fun x => Value.ref x.2.1) := by
    clear hL nd h64 q pl h4 h5 ek rp
    induction xs generalizing ks with
    | nil => cases hp; exact .nil
    | cons x xs ih =>
      cases hp with
      | cons c hp =>
        obtain ⟨t, e, ht⟩ := c
        cases e
        exact .cons (col_tl I.hok ht) (ih _ hp)
  have esz : es.size = xs.length := by rw [← Array.length_toList, h4, List.length_map]
  have xl : xs.length = ks.length := by rw [pl, List.length_map]
  have el : (xs.map fun x => Value.ref x.2.1).length = xs.length := by rw [List.length_map]
  refine sorted_lex (d := a) (vs := xs.map fun x => Value.ref x.2.1) (ks := ks) (L := L) (fun R hR => kdu_collect (A := X.A.in1) (kdl_e (d := a) (es := es) (ep := ep) lo) (I.ok.hd hc) ⟨o, h1, h2, h3⟩ (by rw [esz, sizeLine_eq]; omega) fun h' tk acc hk hacc => ?_) hpt hL L1 nd (by omega) fun g1 g2 tk e ids k1 k2 he per asc => ?_
  · have ev : acc.toList = es.toList.map (·.key) := by
      refine List.ext_getElem? fun i => ?_
      rw [List.getElem?_map, Array.getElem?_toList, Array.getElem?_toList]
      by_cases hi : i < es.size
      · have g : acc[i]? = some (acc[i]'(by rw [hacc.1]; exact hi)) := Array.getElem?_eq_getElem _
        obtain ⟨e, he, ee⟩ := hacc.2 i _ g
        rw [g, he, ee]
        rfl
      · rw [Array.getElem?_eq_none (by rw [hacc.1]; omega), Array.getElem?_eq_none (by omega)]
        rfl
    rw [ev, h4, dt_keys]
    exact hR h' tk hk
  have I1 : Inv X pins σ H { s with heap := g1, toks := tk } := I.un (Un.kept k1) (I.hok.kept k1)
  have idl : ids.length = xs.length := by rw [per.length_eq, List.length_range, el]
  have vl : (xs.map fun x => V.ref x.2.1).length = xs.length := by rw [List.length_map]
  refine ⟨.ref g1.objs.size, _, I1.laid (t' := tk) (o := .lst (ids.map fun i => (xs.map fun x => V.ref x.2.1).getD i .non)) k2 (Nat.le_refl _) ?_, rfl, q _ _ (ids.map fun i => ks.getD i []) (I1.hok.fresh (Nat.le_refl _)) (paired_pick hp _ _ (fun i hi => by have := List.mem_range.mp (per.mem_iff.mp hi); omega)) (pickL_perm _ _ (by rw [← xl, ← el]; exact per)) asc⟩
  refine ⟨by rw [List.length_map, idl, sizeLine_eq]; omega, ids.map fun i => (xs.map fun x => Value.ref x.2.1).getD i .none, e, ?_, by simpa [seqObj] using he⟩
  refine paired_pick (as := xs.map fun x => V.ref x.2.1) (bs := xs.map fun x => Value.ref x.2.1) ?_ _ _ (fun i hi => List.mem_range.mp (per.mem_iff.mp hi))
  clear hpt hp pl h4 h5 rp he per asc idl vl el xl esz
  induction xs with
  | nil => exact .nil
  | cons x xs ih => exact .cons rfl ih
theorem meets_len_e {d : Addr} (lo : (d == sysModules) = false) : Meets (Builtin.«dict.__len__» ⟨[.ref d], []⟩) (fun _ R s => ∃ es ep, EAt s.heap d es ep ∧ R (.ok (.ret (.int es.size s.toks))) { s with toks := s.toks + 1 }) := by
  intro prog w A R s ⟨es, ep, hm, hR⟩
  have hT := hm.ty
  obtain ⟨o, ho, hc, hdat⟩ := id hm
  unfold Builtin.«dict.__len__»
  refine wpAny_bind ?_
  unfold Builtin.Dict.dictSlotNone
  refine wpAny_bind (wpAny_notOrdered_dict hT (wpAny_pure ?_))
  show wpAny _ _ (pure d >>= _) _ _ s
  refine wpAny_bind (wpAny_pure ?_)
  unfold dictSize
  refine wpAny_bind (wpAny_bind (wpAny_dictEntries ho hdat (wpAny_pure ?_)))
  refine wpAny_bind (wpAny_pendingCount_other lo ?_)
  unfold retInt
  refine wpAny_bind (wpAny_mkInt ?_)
  exact wpAny_pure (by simpa using hR)
theorem call_lenDT : CallR X (.builtin "len") (fun xs H Q => ∃ a kvs, xs = [.ref a] ∧ H a = some (.dT kvs) ∧ Q (.int (kvs.length : Nat)) H) := by
  intro pins s σ H xs us Q I r h
  obtain ⟨a, kvs, rfl, ha, q⟩ := h
  obtain ⟨u, rfl, rx⟩ := vals1 r
  cases rx
  obtain ⟨z, lo, xs, rp, o, es, ep, h1, h2, h3, h4, h5⟩ := (show ObjOk X.prog X.w H s.heap a (.dT kvs) from I.hok a _ ha)
  have hT : s.TypeIs (.ref a) "dict" := ⟨o, h1, h2.1⟩
  have esz : es.size = kvs.length := by rw [← Array.length_toList, h4, List.length_map, Paired.length rp]
  rw [sizeLine_eq] at z
  refine call_len_meets (n := es.size) hT F.slot_dict_len F.entry_dict_len (F.args_dict_len_1 _) (meets_len_e lo) (by omega) (by omega) (fun Q' hq => ⟨es, ep, ⟨o, h1, h2, h3⟩, hq⟩) ?_
  refine ⟨.int _, H, I.tok _, ⟨_, rfl⟩, ?_⟩
  rw [esz]
  exact q
theorem call_listDT (hc : X.calm = true) : CallR X (.type "list") (fun xs H Q => ∃ a kvs, ∃ ks : List (List Nat), xs = [.ref a] ∧ H a = some (.dT kvs) ∧ kvs.map Prod.fst = ks.map colK ∧ ∀ p bs, H p = none → Paired (ColV H) ks bs → Q (.ref p) (upd H p (.lst bs))) := by
  intro pins s σ H xs us Q I rv h
  obtain ⟨a, kvs, ks, rfl, ha, ek, q⟩ := h
  obtain ⟨u1, rfl, r2⟩ := vals1 rv
  cases r2
  obtain ⟨z, lo, xs, rp, o, es, ep, h1, h2, h3, h4, h5⟩ := (show ObjOk X.prog X.w H s.heap a (.dT kvs) from I.hok a _ ha)
  have hp := dt_cols (P := X.prog) (w := X.w) (kvs := kvs) ek rp
  have esz : es.size = xs.length := by rw [← Array.length_toList, h4, List.length_map]
  have xl := Paired.length rp
  refine kdl_call (kdl_e (d := a) (es := es) (ep := ep) lo) (I.ok.hd hc) ⟨o, h1, h2, h3⟩ (by omega) fun h' tk acc c kp he hacc => ?_
  have ev : acc.toList = xs.map fun x => Value.ref x.2.1 := by
    rw [← dt_keys X.prog X.w, ← h4]
    refine List.ext_getElem? fun i => ?_
    rw [List.getElem?_map, Array.getElem?_toList, Array.getElem?_toList]
    by_cases hi : i < es.size
    · have g : acc[i]? = some (acc[i]'(by rw [hacc.1]; exact hi)) := Array.getElem?_eq_getElem _
      obtain ⟨e, he, ee⟩ := hacc.2 i _ g
      rw [g, he, ee]
      rfl
    · rw [Array.getElem?_eq_none (by rw [hacc.1]; omega), Array.getElem?_eq_none (by omega)]
      rfl
  refine ⟨.ref s.heap.objs.size, _, I.laid (a := s.heap.objs.size) (o := .lst (xs.map fun x => V.ref x.2.1)) (t' := tk) kp (Nat.le_refl _) ⟨by rw [List.length_map]; omega, acc.toList, c, ?_, by simpa using he⟩, rfl, q _ _ (I.hok.fresh (Nat.le_refl _)) hp⟩
  rw [ev]
  clear hp h4 h5 rp he ev esz xl
  induction xs with
  | nil => exact .nil
  | cons x xs ih => exact .cons rfl ih
end
end L2
namespace L2
open PySem PySem.Spec PyProof.Rows PySem.W
section
variable {prog : Program} {w : World} {A : Around} {E : Value → Shared → Prop} {s : Shared} {d it : Addr} {es : Array DictEntry} {ep i : Nat}
theorem iter_v {r : Addr} {Q : Value → Shared → Prop} (hv : s.heap.IsValuesView r d) (hm : EAt s.heap d es ep)
    (hQ : Q (.ref s.heap.objs.size) { s with heap := s.heap.push { cls := .type "dict_valueiterator", data := .fields #[.ref d, .int 0 0, .int es.size 0, .int ep 0] } }) :
    wpAny (model prog w) A (pyIter (.ref r)) Q E s := by
  obtain ⟨ov, hov, hcv, hdv⟩ := id hv
  obtain ⟨o, ho, hc, hdat⟩ := id hm
  have hT : s.TypeIs (.ref r) "dict_values" := ⟨ov, hov, hcv⟩
  refine wpAny_pyIter_slot hT F.slot_dict_values_iter (wpAny_call_entry F.slot_dict_values_iter hT F.entry_dict_values_iter ?_ (F.args_dict_values_iter_1 _))
  unfold Builtin.«dict_values.__iter__»
  refine wpAny_bind (wpAny_pure ?_)
  unfold Builtin.Dict_items.dictOf
  refine wpAny_bind (wpAny_bind (wpAny_field hov hdv (by rfl) ?_))
  refine wpAny_pure ?_
  unfold Builtin.Dict_items.newIterator
  refine wpAny_bind (wpAny_bind (wpAny_dictEntries ho hdat (wpAny_bind (wpAny_dictEpoch ho hdat ?_))))
  dsimp only
  rw [if_neg (by decide), if_neg (by decide)]
  exact wpAny_newObj_type (wpAny_pure ⟨_, rfl, "dict_valueiterator", _, ⟨_, Heap.get?_push_size _ rfl, rfl⟩, F.slot_dict_valueiterator_next.lookup, hQ⟩)
theorem next_v {Q : Option Value → Shared → Prop} (hit : s.heap.IsValIter it d i es.size ep) (hm : EAt s.heap d es ep) (hi : i < es.size)
    (hQ : ∀ h', h'.IsValIter it d (i + 1) es.size ep → Heap.SameBut it s.heap h' → Q (some es[i].val) { s with heap := h' }) :
    wpAny (model prog w) A (pyNext (.ref it)) Q E s := by
  obtain ⟨o, ho, hc, hd⟩ := id hit
  obtain ⟨od, hod, hcd, hdd⟩ := id hm
  unfold pyNext
  refine wpAny_bind (wpAny_attempt (wpAny_callSpecial?_slot (name := Str.ofString "__next__") hit.typeIs F.slot_dict_valueiterator_next
    (wpAny_call_entry F.slot_dict_valueiterator_next hit.typeIs F.entry_dict_valueiterator_next ?_ (F.args_dict_valueiterator_next_1 _))))
  refine wpAny_bind (wpAny_pure (wpAny_bind (wpAny_bind ?_)))
  first | refine wpAny_bind (wpAny_typeNameOfWhole_valiter hit.typeIs (wpAny_pure ?_)) | refine wpAny_bind (wpAny_typeNameOf_valiter hit.typeIs (wpAny_pure ?_))
  refine wpAny_bind (wpAny_fieldsOf ho hd ?_)
  simp only [show Builtin.Dict_items.ownsTuple "dict_valueiterator" = false by decide, Bool.false_eq_true, if_false]
  show wpAny _ _ (if (Value.ref d == Value.none) = true then _ else _) _ _ s
  rw [if_neg (show ¬ ((Value.ref d == Value.none) = true) from Bool.false_ne_true)]
  refine wpAny_bind (wpAny_pure (wpAny_bind (wpAny_dictEntries hod hdd ?_)))
  rw [if_neg (by simp)]
  refine wpAny_bind (wpAny_pure (wpAny_bind (wpAny_dictEpoch hod hdd ?_)))
  rw [if_neg (by simp)]
  refine wpAny_pure ?_
  simp only [show ¬ ((i : Int) < 0) from by omega, if_false, Int.toNat_natCast, Array.getElem?_eq_getElem hi]
  refine wpAny_bind ?_
  first | refine wpAny_bind (wpAny_typeNameOfWhole_valiter hit.typeIs (wpAny_pure ?_)) | refine wpAny_bind (wpAny_typeNameOf_valiter hit.typeIs (wpAny_pure ?_))
  refine wpAny_bind (wpAny_isOneOf_valiter hit.typeIs ?_)
  show wpAny _ _ (setField (.ref it) 1 (rawInt ((i : Int) + 1)) >>= _) _ _ s
  refine wpAny_bind (wpAny_setField ho hd (by simp) ?_)
  have hit' : (s.heap.update it (Obj.mapFields (·.setIfInBounds 1 (rawInt ((i : Int) + 1))))).IsValIter it d (i + 1) es.size ep :=
    ⟨_, Heap.get?_update_self _ ho (Obj.isFreed_of_fields (Obj.data_mapFields hd _)), (Obj.cls_mapFields ..).trans hc, by rw [Obj.data_mapFields hd]; simp [rawInt]⟩
  refine wpAny_bind (wpAny_holding ?_)
  refine wpAny_bind (wpAny_isOneOf_valiter (s := { s with heap := s.heap.update it (Obj.mapFields (·.setIfInBounds 1 (rawInt ((i : Int) + 1)))) }) hit'.typeIs ?_)
  rw [if_neg (by decide)]
  refine wpAny_bind (wpAny_isOneOf_valiter (s := { s with heap := s.heap.update it (Obj.mapFields (·.setIfInBounds 1 (rawInt ((i : Int) + 1)))) }) hit'.typeIs ?_)
  rw [if_pos (by decide)]
  exact wpAny_pure (wpAny_pure ⟨_, rfl, wpAny_pure (hQ _ hit' (Heap.SameBut.update ..))⟩)
theorem last_v {Q : Option Value → Shared → Prop} (hh : A.handled = none) (hit : s.heap.IsValIter it d es.size es.size ep) (hm : EAt s.heap d es ep)
    (hQ : ∀ h', Heap.ExtBut it s.heap h' → Q none { s with heap := h' }) : wpAny (model prog w) A (pyNext (.ref it)) Q E s := by
  obtain ⟨o, ho, hc, hd⟩ := id hit
  obtain ⟨od, hod, hcd, hdd⟩ := id hm
  unfold pyNext
  refine wpAny_bind (wpAny_attempt (wpAny_callSpecial?_slot (name := Str.ofString "__next__") hit.typeIs F.slot_dict_valueiterator_next
    (wpAny_call_entry F.slot_dict_valueiterator_next hit.typeIs F.entry_dict_valueiterator_next ?_ (F.args_dict_valueiterator_next_1 _))))
  refine wpAny_bind (wpAny_pure (wpAny_bind (wpAny_bind ?_)))
  first | refine wpAny_bind (wpAny_typeNameOfWhole_valiter hit.typeIs (wpAny_pure ?_)) | refine wpAny_bind (wpAny_typeNameOf_valiter hit.typeIs (wpAny_pure ?_))
  refine wpAny_bind (wpAny_fieldsOf ho hd ?_)
  simp only [show Builtin.Dict_items.ownsTuple "dict_valueiterator" = false by decide, Bool.false_eq_true, if_false]
  show wpAny _ _ (if (Value.ref d == Value.none) = true then _ else _) _ _ s
  rw [if_neg (show ¬ ((Value.ref d == Value.none) = true) from Bool.false_ne_true)]
  refine wpAny_bind (wpAny_pure (wpAny_bind (wpAny_dictEntries hod hdd ?_)))
  rw [if_neg (by simp)]
  refine wpAny_bind (wpAny_pure (wpAny_bind (wpAny_dictEpoch hod hdd ?_)))
  rw [if_neg (by simp)]
  refine wpAny_pure ?_
  simp only [show ¬ ((es.size : Int) < 0) from by omega, if_false, Int.toNat_natCast, Array.getElem?_eq_none (Nat.le_refl es.size)]
  refine wpAny_bind ?_
  first | refine wpAny_bind (wpAny_typeNameOfWhole_valiter hit.typeIs (wpAny_pure ?_)) | refine wpAny_bind (wpAny_typeNameOf_valiter hit.typeIs (wpAny_pure ?_))
  show wpAny _ _ (setField (.ref it) 0 .none >>= _) _ _ s
  refine wpAny_bind (wpAny_setField ho hd (by simp) ?_)
  show wpAny _ _ (newExc (.type "StopIteration") [] >>= _) _ _ _
  refine wpAny_bind ?_
  simp only [newExc, newTuple]
  refine wpAny_bind (wpAny_newObj_type ?_ (by size_fits))
  refine wpAny_bind (m := firstArgMember _ _) (wpAny_of_eq (a := Value.none) (by first | rfl | (simp only [firstArgMember]; rfl)) ?_)
  refine wpAny_newObj_type ?_ (by size_fits)
  simp only [raiseNew]
  refine wpAny_bind (wpAny_handled ?_)
  rw [show A.in1.handled = none from hh]
  refine wpAny_bind (wpAny_pure (wpAny_throw ?_))
  refine wpAny_bind (wpAny_isInstance (T := "StopIteration") (b := true) ⟨_, Heap.get?_push_size _ rfl, rfl⟩ isSubtype_stop ?_)
  exact wpAny_pure (hQ _ (((Heap.SameBut.update ..).extBut.push _).push _))
theorem walks_v (hh : A.handled = none) (I : Addr) (hne : d ≠ I) : Walks prog w A I [I, d] [I] es.size (fun i v => ∃ e, es[i]? = some e ∧ v = e.val) (fun i h => h.IsValIter I d i es.size ep ∧ EAt h d es ep) where
  sub := fun b hb => by simp at hb; simp [hb]
  frame := fun _ _ _ st hk => ⟨st.1.at fun o e => hk I (by simp) o e, st.2.keep fun o e => hk d (by simp) o e⟩
  item := fun i s Q E hi st hQ => next_v st.1 st.2 hi fun h' hit' hs' => hQ _ h' s.toks ⟨_, Array.getElem?_eq_getElem hi, rfl⟩ ⟨hit', st.2.keep fun o e => hs'.extBut d o hne e⟩ fun b o hb e => hs'.extBut b o (fun h => hb (by simp [h])) e
  done := fun s Q E st hQ => last_v hh st.1 st.2 fun h' he' => hQ h' s.toks fun b o hb e => he' b o (fun h => hb (by simp [h])) e
  self := fun _ _ _ _ st hQ => wpAny_pyIter_valiter st.1 hQ
theorem kdl_v {r : Addr} (hr : r ≠ d) : KdlSrc prog w "dict_values" r d es.size (fun i v => ∃ e, es[i]? = some e ∧ v = e.val) (fun h => h.IsValuesView r d ∧ EAt h d es ep) where
  type := fun s hm => by
    obtain ⟨o, h1, h2, _⟩ := hm.1
    exact ⟨o, h1, h2⟩
  there := fun _ hm => by
    obtain ⟨o, h1, _⟩ := hm.1
    exact ⟨Heap.lt_size h1, hm.2.lt⟩
  keep := fun _ _ hm hk => ⟨by obtain ⟨o, h1, h2, h3⟩ := hm.1; exact ⟨o, hk r (.inl rfl) o h1, h2, h3⟩, hm.2.keep fun o e => hk d (.inr rfl) o e⟩
  notList := by decide
  notTuple := by decide
  hint := fun _ _ _ _ hm hq => by
    obtain ⟨o, h1, h2, _⟩ := hm.1
    exact kdl_hint_values ⟨o, h1, h2⟩ hq
  iter := fun _ _ hh hm => ⟨_, _, (fun _ _ hq => iter_v hm.1 hm.2 hq), walks_v hh _ (Nat.ne_of_lt hm.2.lt), ⟨⟨_, Heap.get?_push_size _ rfl, rfl, rfl⟩, hm.2.keep fun o e => Heap.get?_push_of_some _ e⟩⟩
theorem meets_values_e (lo : (d == sysModules) = false) : Meets (Builtin.«dict.values» ⟨[.ref d], []⟩) (fun _ R s => EAt s.heap d es ep ∧ R (.ok (.ret (.ref s.heap.objs.size))) { s with heap := s.heap.push { cls := .type "dict_values", data := .fields #[.ref d] } }) := by
  intro prog w A R s ⟨hm, hR⟩
  have hT := hm.ty
  unfold Builtin.«dict.values»
  show wpAny _ _ (Builtin.Dict.noArgs "values" ⟨[.ref d], []⟩ >>= fun d => Builtin.Dict.showsAll d >>= fun _ => newFields "dict_values" [Value.ref d] >>= fun x => ret x) _ _ _
  refine wpAny_bind ?_
  unfold Builtin.Dict.noArgs
  refine wpAny_bind (wpAny_notOrdered_dict hT ?_)
  unfold Builtin.Dict.nameIsSure
  show wpAny _ _ (pure () >>= fun _ => pure (Value.ref d) >>= fun x => Builtin.Dict.addrOf x) _ _ _
  refine wpAny_bind (wpAny_pure (wpAny_bind (wpAny_pure (wpAny_pure ?_))))
  unfold Builtin.Dict.showsAll
  rw [if_neg (by rw [lo]; exact Bool.false_ne_true)]
  exact wpAny_bind (wpAny_pure (wpAny_bind (wpAny_newObj_type (wpAny_pure hR))))
end
section
variable {X : Cx}
def ViewO (r d : Addr) : HO := .ext fun h => h.IsValuesView r d
def tDVals (te : TE) : TE := fun σ H Q => te σ H fun x H1 => ∃ d kvs, x = .ref d ∧ H1 d = some (.dT kvs) ∧ ∀ r, H1 r = none → Q (.ref r) (upd H1 r (ViewO r d))
theorem pe_dvals {o : Expr} {apos cpos : Pos} {to : TE} (ho : PE X o to) (hbase : attributeBase o "values" X.env (eval o X.env) = eval o X.env := by rfl) (hline : (apos.endLine == cpos.line) = true := by rfl) :
    PE X (.Call (.Attribute o "values" apos) [] [] cpos) (tDVals to) := by
  intro pins s σ H Q I h
  refine wpAny_Call_method0_late hbase hline (thn (ho pins s σ H _ I h) fun v s1 ⟨x, H1, I1, rx, d, kvs, ex, hd, q⟩ => ?_)
  subst ex
  obtain ⟨h1, h2⟩ := tyV_is I1 rx (show tyV X.K "dict" (.ref d) H1 from .inr (.inr (.inl ⟨rfl, .inr ⟨kvs, hd⟩⟩)))
  obtain rfl : v = Value.ref d := rx
  obtain ⟨z, lo, xs, rp, ob, es, ep, e1, e2, e3, e4, e5⟩ := (show ObjOk X.prog X.w H1 s1.heap d (.dT kvs) from I1.hok d _ hd)
  refine ⟨"dict", "dict.values", PySem.F.plainAttrs_dict, PySem.F.slot_dict_values, PySem.F.type_dict_values, h1, h2, Calls.callWith_builtin rfl (PySem.evalArgs_none ?_)⟩
  refine call_meets PySem.F.slot_dict_values ⟨ob, e1, e2.1⟩ PySem.F.entry_dict_values (PySem.F.args_dict_values_1 _) (meets_values_e (es := es) (ep := ep) lo) ⟨⟨ob, e1, e2, e3⟩, ?_⟩
  have hv : (s1.heap.push { cls := .type "dict_values", data := .fields #[.ref d] }).IsValuesView s1.heap.objs.size d := ⟨_, Heap.get?_push_size _ rfl, rfl, rfl⟩
  refine ⟨.ref s1.heap.objs.size, _, I1.laid (a := s1.heap.objs.size) (o := ViewO s1.heap.objs.size d) (t' := s1.toks) (fun _ _ e => Heap.get?_push_of_some _ e) (Nat.le_refl _) ⟨hv, ⟨_, Heap.get?_push_size _ rfl⟩, fun h1 h2 hp k => ?_⟩, rfl, q _ (I1.hok.fresh (Nat.le_refl _))⟩
  obtain ⟨o, g1, g2, g3⟩ := hp
  exact ⟨o, k o g1, g2, g3⟩
theorem call_listV (hc : X.calm = true) : CallR X (.type "list") (fun xs H Q => ∃ r a kvs, xs = [.ref r] ∧ H r = some (ViewO r a) ∧ r ≠ a ∧ H a = some (.dT kvs) ∧ ∀ p, H p = none → Q (.ref p) (upd H p (.lst (kvs.map Prod.snd)))) := by
  intro pins s σ H xs us Q I rv h
  obtain ⟨r, a, kvs, rfl, hr, ra, ha, q⟩ := h
  obtain ⟨u1, rfl, r2⟩ := vals1 rv
  cases r2
  obtain ⟨z, lo, xs, rp, o, es, ep, h1, h2, h3, h4, h5⟩ := (show ObjOk X.prog X.w H s.heap a (.dT kvs) from I.hok a _ ha)
  have hv : s.heap.IsValuesView r a := (I.hok r _ hr).1
  have esz : es.size = xs.length := by rw [← Array.length_toList, h4, List.length_map]
  have xl := Paired.length rp
  refine kdl_call (kdl_v (d := a) (r := r) (es := es) (ep := ep) ra) (I.ok.hd hc) ⟨hv, o, h1, h2, h3⟩ (by omega) fun h' tk acc c kp he hacc => ?_
  have ev : acc.toList = xs.map fun x => x.2.2 := by
    have e0 : es.toList.map (·.val) = xs.map fun x => x.2.2 := by
      rw [h4, List.map_map]
      rfl
    rw [← e0]
    refine List.ext_getElem? fun i => ?_
    rw [List.getElem?_map, Array.getElem?_toList, Array.getElem?_toList]
    by_cases hi : i < es.size
    · have g : acc[i]? = some (acc[i]'(by rw [hacc.1]; exact hi)) := Array.getElem?_eq_getElem _
      obtain ⟨e, he, ee⟩ := hacc.2 i _ g
      rw [g, he, ee]
      rfl
    · rw [Array.getElem?_eq_none (by rw [hacc.1]; omega), Array.getElem?_eq_none (by omega)]
      rfl
  refine ⟨.ref s.heap.objs.size, _, I.laid (a := s.heap.objs.size) (o := .lst (kvs.map Prod.snd)) (t' := tk) kp (Nat.le_refl _) ⟨by rw [List.length_map]; omega, acc.toList, c, ?_, by simpa using he⟩, rfl, q _ (I.hok.fresh (Nat.le_refl _))⟩
  rw [ev]
  clear h4 h5 he ev esz xl ha z q
  induction rp with
  | nil => exact .nil
  | cons hq _ ih => exact .cons hq.2.2 ih
end
end L2
namespace L2
open PySem PySem.Spec PyProof.Rows L4
section
variable {X : Cx}
def tpAt (H : Hp) (ys : List V) : Value → Bool
  | .ref a => match H a with
    | some (.tup zs) => eqVs zs ys
    | _ => false
  | _ => false
theorem eqVs_nats : ∀ (k l : List Nat), k.length = l.length → eqVs (k.map nV) (l.map nV) = decide (k = l)
  | [], [], _ => rfl
  | [], _ :: _, h => by cases h
  | _ :: _, [], h => by cases h
  | x :: k, y :: l, h => by
    have ih := eqVs_nats k l (by simpa using h)
    unfold eqVs at ih ⊢
    rw [List.map_cons, List.map_cons, List.zip_cons_cons, List.all_cons]
    have e1 : eqV (nV x) (nV y) = decide (x = y) := by
      show decide ((x : Int) = (y : Int)) = _
      by_cases q : x = y
      · rw [q]; simp
      · rw [decide_eq_false q]; exact decide_eq_false fun z => q (Int.ofNat_inj.mp z)
    have e2 : (((nV x :: k.map nV).length == (nV y :: l.map nV).length)) = ((k.map nV).length == (l.map nV).length) := by simp
    rw [e2, Bool.and_assoc, ih]
    show (eqV (nV x) (nV y) && decide (k = l)) = _
    rw [e1]
    by_cases a : x = y <;> by_cases b : k = l <;> simp [a, b]
def rIndexC : V → List V → Hp → VK → Prop := fun x vs H Q => ∃ (p b : Addr) (xs : List V) (ks : List (List Nat)) (col : List Nat) (j : Nat), x = .ref p ∧ vs = [.ref b] ∧ H p = some (.lst xs) ∧ Paired (ColV H) ks xs ∧ (∀ k ∈ ks, k.length = col.length) ∧ H b = some (.tup (col.map nV)) ∧ ks[j]? = some col ∧ (∀ m, m < j → ks[m]? ≠ some col) ∧ Q (nV j) H
theorem mt_indexC {k : Nat} (hr : Room k X.A) : MtR X "list.index" rIndexC := by
  intro pins s σ H x vs v us Q I rx rv h
  obtain ⟨p, b, xs, ks, col, j, rfl, rfl, hq, hL, hf, hb, hj, hno, q⟩ := h
  cases rx
  obtain ⟨u, rfl, ru⟩ := vals1 rv
  cases ru
  obtain ⟨z, its, n, r, hlen, e⟩ := I.lstM hq
  obtain ⟨itb, rb, pb, _⟩ := I.tuple (SqT.of (K := X.K) hb)
  have hu : X.A.units + 64 < cLine := hr.units
  have hxl := Paired.length hL
  have fl : ∀ c : List Nat, (c.map nV).all flatV = true := fun c => by
    rw [List.all_eq_true]
    intro v hv
    obtain ⟨m, _, rfl⟩ := List.mem_map.mp hv
    rfl
  have at_ : ∀ m (hm : m < its.toArray.size), ∃ a c, its.toArray[m] = .ref a ∧ H a = some (.tup (c.map nV)) ∧ ks[m]? = some c := fun m hm => by
    have hm' : m < xs.length := by
      rw [hlen]
      simpa using hm
    have k1 : xs[m]? = some xs[m] := List.getElem?_eq_getElem hm'
    obtain ⟨w, e1, r1⟩ := r.get k1
    have w1 : its.toArray[m] = w := by
      have g1 : m < its.length := by simpa using hm
      rw [List.getElem?_eq_getElem g1] at e1
      simpa using Option.some.inj e1
    have k2 : ks[m]? = some (ks[m]'(by omega)) := List.getElem?_eq_getElem (by omega)
    obtain ⟨v', k3, a, ea, ha⟩ := paired_get hL k2
    rw [k1] at k3
    cases k3
    rw [ea] at r1
    cases r1
    exact ⟨a, _, w1, ha, k2⟩
  have te : ∀ m (hm : m < its.toArray.size) c, ks[m]? = some c → tpAt H (col.map nV) its.toArray[m] = decide (c = col) := fun m hm c hc => by
    obtain ⟨a, c', e1, e2, e3⟩ := at_ m hm
    rw [hc] at e3
    cases e3
    rw [e1]
    show (match H a with | some (.tup zs) => eqVs zs (col.map nV) | _ => false) = _
    rw [e2]
    exact eqVs_nats _ _ (hf c (List.mem_of_getElem? hc))
  have hjy := (List.getElem?_eq_some_iff.mp hj).1
  have hjl : j < its.toArray.size := by
    simp
    omega
  have hjs : (j : Int) < 2 ^ 63 - 1 := by
    have : (sizeLine : Nat) ≤ 2 ^ 60 := by decide
    have h2 : j < 2 ^ 60 := by omega
    omega
  refine call_meets F.slot_list_index ⟨_, e, rfl⟩ F.entry_list_index (F.args_list_index_2 _ _) (SeqAt.list_indexAt p its.toArray n none #[] (.ref b) (tpAt H (col.map nV)) j hjl hjs ?_ ?_) ⟨e, fun w hw => ?_, ⟨.int _, H, I.tok _, ⟨_, rfl⟩, q⟩⟩
  · rw [te j hjl col hj]
    exact decide_eq_true rfl
  · intro m hm hmj
    obtain ⟨a, c, _, _, e3⟩ := at_ m hm
    rw [te m hm c e3]
    exact decide_eq_false fun z => hno m hmj (by rw [e3, z])
  · obtain ⟨m, hm, rfl⟩ := Array.mem_iff_getElem.mp hw
    obtain ⟨a, c, e1, e2, e3⟩ := at_ m hm
    have f2 := hf c (List.mem_of_getElem? e3)
    rw [te m hm c e3, e1]
    by_cases hab : a = b
    · subst hab
      rw [hb] at e2
      have : c = col := by
        have h1 := HO.tup.inj (Option.some.inj e2)
        have h2 := congrArg (fun l => eqVs l (c.map nV)) h1
        rw [eqVs_nats _ _ f2.symm, eqVs_nats _ _ rfl] at h2
        exact (of_decide_eq_true (h2.trans (decide_eq_true rfl))).symm
      rw [decide_eq_true this]
      exact SeqAt.EqAt.same _
    · obtain ⟨ita, ra, pa, _⟩ := I.tuple (SqT.of (K := X.K) e2)
      have m1 := ra.length
      have m2 := rb.length
      rw [List.length_map] at m1 m2
      have z := SeqAt.RcAt.tuples (A := X.A.in1.in1) (s := s) pa pb (by show X.A.units + 1 + 1 < cLine; omega) (eqAt_get ra rb (fl c) (fl col))
      have z1 : ita.toArray.size = c.length := by rw [List.size_toArray]; exact m1.symm
      have z2 : itb.toArray.size = col.length := by rw [List.size_toArray]; exact m2.symm
      have e5 : min ita.toArray.size itb.toArray.size = (c.map nV).length := by rw [z1, z2, f2, Nat.min_self, List.length_map, f2]
      rw [e5, range_all _ _ (by rw [List.length_map, List.length_map, f2]), z1, z2] at z
      have e6 : ((((c.map nV).zip (col.map nV)).all fun p => eqV p.1 p.2) && c.length == col.length) = decide (c = col) := by
        rw [← eqVs_nats _ _ f2]
        unfold eqVs
        rw [List.length_map, List.length_map]
      rw [e6] at z
      exact SeqAt.EqAt.of_in1 (SeqAt.EqAt.of_refs hab z)
end
end L2
namespace L2
open PySem PySem.Spec PyProof.Rows
open Builtin
theorem tuple_mul_one (l : Addr) (items : Array Value) (n : Nat) (dd : Option Addr) (sl : Array (Option Value)) (u : Tok) :
    Meets (Builtin.«tuple.__mul__» ⟨[.ref l, .int 1 u], []⟩) (fun _ R s => s.heap.get? l = some { cls := .type "tuple", dict := dd, data := .seq items n, slots := sl } ∧ R (.ok (.ret (Value.ref l))) s) :=
  .of_wp fun prog w A R s h => by
    obtain ⟨hp, g, d, tk, os⟩ := s; obtain ⟨hl, h⟩ := h
    wp_walk
    exact ⟨_, rfl, h⟩
theorem tuple_mul_zero (l : Addr) (items : Array Value) (n : Nat) (dd : Option Addr) (sl : Array (Option Value)) (u : Tok) (hi : items.isEmpty = false) :
    Meets (Builtin.«tuple.__mul__» ⟨[.ref l, .int 0 u], []⟩) (fun _ R s => s.heap.get? l = some { cls := .type "tuple", dict := dd, data := .seq items n, slots := sl } ∧ R (.ok (.ret (Value.ref s.heap.objs.size))) { s with heap := s.heap.push { cls := Value.type "tuple", data := Data.seq #[] } }) :=
  .of_wp fun prog w A R s h => by
    obtain ⟨hp, g, d, tk, os⟩ := s; obtain ⟨hl, h⟩ := h
    wp_walk
    exact ⟨_, rfl, h⟩
section
variable {X : Cx}
def rRep01 (K : PySem.W.Frag) : R2 := fun x y H Q => ∃ a xs, x = .ref a ∧ SqT K H a xs ∧ ((y = .int 1 ∧ Q (.ref a) H) ∨ (y = .int 0 ∧ xs ≠ [] ∧ ∀ p, H p = none → Q (.ref p) (upd H p (.tup []))))
theorem op_rep01 (K : PySem.W.Frag) (hK : X.K = K := by rfl) : OpR X (binaryOp .Mult) (rRep01 K) := by
  subst hK
  intro pins s σ H x y v u Q I rx ry h
  obtain ⟨a, xs, rfl, ha, h⟩ := h
  cases rx
  obtain ⟨its, r1, p1, _⟩ := I.tuple ha
  obtain ⟨⟨cls, dd, data, sl⟩, ho, hc, n, hd⟩ := id p1
  simp only at hc hd
  subst hc hd
  rcases h with ⟨rfl, q⟩ | ⟨rfl, hne, q⟩
  · obtain ⟨t, rfl⟩ := ry
    refine wpAny_binaryOp_repeat_ref (T := "tuple") (U := "int") (by decide) ⟨_, ho, rfl⟩ (fun s' => typeIs_int s' 1 t) noFill_tuple_mul F.fills_int_mul F.slot_int_rmul repeat_tuple F.slot_int_index.lookup
      (call_meets F.slot_int_rmul (typeIs_int s 1 t) F.entry_int_rmul (F.args_int_rmul_2 _ _) (int_rmul_tuple 1 t a its.toArray n dd sl)
        ⟨ho, rfl, ⟨_, ho, rfl⟩, call_meets F.slot_tuple_mul ⟨_, ho, rfl⟩ F.entry_tuple_mul (F.args_tuple_mul_2 _ _) (tuple_mul_one a its.toArray n dd sl t) ⟨ho, ?_⟩⟩)
    exact ⟨.ref a, H, I, rfl, q⟩
  · obtain ⟨t, rfl⟩ := ry
    have hin : its ≠ [] := fun z => hne ((Vals.nil_iff r1).mp z)
    refine wpAny_binaryOp_repeat_ref (T := "tuple") (U := "int") (by decide) ⟨_, ho, rfl⟩ (fun s' => typeIs_int s' 0 t) noFill_tuple_mul F.fills_int_mul F.slot_int_rmul repeat_tuple F.slot_int_index.lookup
      (call_meets F.slot_int_rmul (typeIs_int s 0 t) F.entry_int_rmul (F.args_int_rmul_2 _ _) (int_rmul_tuple 0 t a its.toArray n dd sl)
        ⟨ho, rfl, ⟨_, ho, rfl⟩, call_meets F.slot_tuple_mul ⟨_, ho, rfl⟩ F.entry_tuple_mul (F.args_tuple_mul_2 _ _) (tuple_mul_zero a its.toArray n dd sl t (by simpa using hin)) ⟨ho, ?_⟩⟩)
    exact ⟨.ref s.heap.objs.size, _, I.laid (t' := s.toks) (o := .tup []) (fun b o e => Heap.get?_push_of_some _ e) (Nat.le_refl _) ⟨Nat.zero_le _, [], .nil, PTup.new _ _⟩, rfl, q _ (I.hok.fresh (Nat.le_refl _))⟩
end
end L2
namespace K28
open PySem L2 L4
local macro_rules | `(tactic| walk_at "hp") => `(tactic| first | assumption | exact upd_same | (rw [upd_ne (by first | assumption | exact Ne.symm (by assumption) | exact ne_of_none (by assumption) (by assumption) | exact Ne.symm (ne_of_none (by assumption) (by assumption)))]; walk_at "hp"))
local macro_rules | `(tactic| walk_at "r1") => `(tactic| first | refine ⟨_, rfl, ?_⟩ | refine .inl ⟨_, _, _, _, rfl, rfl, SqL.of (by walk_at "hp"), rfl, ?_⟩ | refine .inr (.inl ⟨_, _, _, _, rfl, rfl, SqT.of (by walk_at "hp"), rfl, ?_⟩) | refine ⟨_, _, rfl, rfl, ?_⟩ | refine ⟨(show CMul _ _ from .inr ⟨by omega, by omega⟩), ?_⟩ | refine ⟨(show CMul _ _ from .inl ⟨by omega, by omega⟩), ?_⟩ | refine ⟨(show CDiv _ _ from ⟨by omega, by omega⟩), ?_⟩ | refine ⟨(show CPow _ _ from ⟨by decide, by decide, by decide⟩), ?_⟩ | refine ⟨(show (0 : Int) < _ by omega), ?_⟩ | refine ⟨_, _, _, _, rfl, rfl, (by walk_at "hp"), rfl, ?_⟩)
local macro_rules | `(tactic| walk_at "rd") => `(tactic| repeat walk_at "r1")
local macro_rules | `(tactic| walk_at "dc") => `(tactic| first | refine iteT ?_ | refine iteF ?_ | refine iteDT (by decide +kernel) ?_ | refine iteDF (by decide +kernel) ?_ | refine ⟨_, rfl, rfl, _, rfl, ?_⟩)
local macro_rules | `(tactic| walk_at "ds") => `(tactic| repeat walk_at "dc")
local macro_rules | `(tactic| walk_at "v") => `(tactic| first | exact Or.inl rfl | exact Or.inr (Or.inl rfl) | exact Or.inr (Or.inr rfl))
local macro_rules | `(tactic| walk_at "f") => `(tactic| first | exact .inl rfl | exact .inr rfl | assumption)
structure Cn where
  nm : Str
  pl : Nat
  cs : List Nat
structure Tb where
  m : Nat
  ws : List Nat
  cs : List Cn
def Cns (H : Hp) : List Cn → List V → Prop := Paired fun c v => ∃ t u, v = .ref t ∧ H t = some (.tup [.str c.nm, nV c.pl, .ref u]) ∧ H u = some (.tup (c.cs.map nV))
theorem Cns.same {H H' : Hp} (s : Same H H') {cs : List Cn} {vs : List V} (h : Cns H cs vs) : Cns H' cs vs := by
  unfold Cns at h ⊢
  induction h with
  | nil => exact .nil
  | cons r _ ih =>
    obtain ⟨t, u, e, h1, h2⟩ := r
    exact .cons ⟨t, u, e, s _ _ h1, s _ _ h2⟩ ih
theorem Cns.snoc {H : Hp} {cs : List Cn} {vs : List V} {c : Cn} {t u : Addr} (h : Cns H cs vs) (h1 : H t = some (.tup [.str c.nm, nV c.pl, .ref u])) (h2 : H u = some (.tup (c.cs.map nV))) : Cns H (cs ++ [c]) (vs ++ [.ref t]) := by
  unfold Cns at h ⊢
  induction h with
  | nil => exact .cons ⟨t, u, rfl, h1, h2⟩ .nil
  | cons r _ ih => exact .cons r ih
theorem Cns.len {H : Hp} {cs : List Cn} {vs : List V} (h : Cns H cs vs) : cs.length = vs.length := Paired.length h
theorem Cns.get {H : Hp} {cs : List Cn} {vs : List V} (h : Cns H cs vs) {i : Nat} {c : Cn} (hc : cs[i]? = some c) : ∃ t u, vs[i]? = some (.ref t) ∧ H t = some (.tup [.str c.nm, nV c.pl, .ref u]) ∧ H u = some (.tup (c.cs.map nV)) := by
  have hi : i < vs.length := by
    rw [← h.len]
    exact (List.getElem?_eq_some_iff.mp hc).1
  have e : vs[i]? = some vs[i] := List.getElem?_eq_getElem hi
  obtain ⟨t, u, e1, h1, h2⟩ := Paired.at h i c _ hc e
  exact ⟨t, u, by rw [e, e1], h1, h2⟩
def IsTb (H : Hp) (v : V) (T : Tb) : Prop := ∃ a w c vs, v = .ref a ∧ H a = some (.tup [nV T.m, .ref w, .ref c]) ∧ H w = some (.tup (T.ws.map nV)) ∧ H c = some (.tup vs) ∧ Cns H T.cs vs
theorem IsTb.same {H H' : Hp} (s : Same H H') {v : V} {T : Tb} (h : IsTb H v T) : IsTb H' v T := by
  obtain ⟨a, w, c, vs, e, h1, h2, h3, h4⟩ := h
  exact ⟨a, w, c, vs, e, s _ _ h1, s _ _ h2, s _ _ h3, h4.same s⟩
structure GoodT (T : Tb) : Prop where
  m1 : 1 ≤ T.m
  m9 : T.m ≤ 9
  ris : T.ws.Pairwise (· < ·)
  wlt : ∀ x ∈ T.ws, x < T.m
  cl : T.cs.length ≤ 16
  cn : ∀ c ∈ T.cs, c.nm.length ≤ 100 ∧ c.pl ≤ 2 ∧ Tn.Cs T.m c.pl c.cs
def turnT (T : Tb) (o : List Nat) : Tb := ⟨T.m, Tn.tw T.m o T.ws, T.cs.map fun c => ⟨c.nm, c.pl, Tn.tc T.m o c.pl c.cs⟩⟩
theorem GoodT.turn {T : Tb} {o : List Nat} (g : GoodT T) (h : Tn.Or T.m o) : GoodT (turnT T o) := by
  refine ⟨g.m1, g.m9, Tn.tw_ris _ _ _, fun x hx => (Tn.tw_mem.mp hx).1, by show (T.cs.map _).length ≤ 16; rw [List.length_map]; exact g.cl, fun c hc => ?_⟩
  obtain ⟨d, hd, rfl⟩ := List.mem_map.mp hc
  obtain ⟨h1, h2, h3⟩ := g.cn d hd
  exact ⟨h1, h2, Tn.tc_cs h h3⟩
theorem turn_back {T : Tb} {o : List Nat} (g : GoodT T) (h : Tn.Or T.m o) : turnT (turnT T o) (Tn.inv T.m o) = T := by
  obtain ⟨m, ws, cs⟩ := T
  have e1 : Tn.tw m (Tn.inv m o) (Tn.tw m o ws) = ws := Tn.tw_back h g.ris g.wlt
  have e2 : (cs.map fun c => (⟨c.nm, c.pl, Tn.tc m o c.pl c.cs⟩ : Cn)).map (fun c => (⟨c.nm, c.pl, Tn.tc m (Tn.inv m o) c.pl c.cs⟩ : Cn)) = cs := by
    rw [List.map_map]
    conv => rhs; rw [← List.map_id cs]
    refine List.map_congr_left fun c hc => ?_
    show (⟨c.nm, c.pl, Tn.tc m (Tn.inv m o) c.pl (Tn.tc m o c.pl c.cs)⟩ : Cn) = c
    rw [Tn.tc_back h (g.cn c hc).2.2]
  show (⟨m, Tn.tw m (Tn.inv m o) (Tn.tw m o ws), _⟩ : Tb) = ⟨m, ws, cs⟩
  rw [e1]
  exact congrArg (Tb.mk m ws) e2
theorem pow_small {m k : Nat} (h9 : m ≤ 9) (k2 : k ≤ 2) : m ^ k ≤ 81 := by
  have h1 : m ^ k ≤ 9 ^ k := Nat.pow_le_pow_left h9 k
  have h2 : (9 : Nat) ^ k ≤ 9 ^ 2 := Nat.pow_le_pow_right (by decide) k2
  exact Nat.le_trans h1 h2
theorem ws_len {T : Tb} (g : GoodT T) : T.ws.length ≤ 9 := Nat.le_trans (Tn.nodup_len T.m T.ws (g.ris.imp fun h => Nat.ne_of_lt h) g.wlt) g.m9
theorem Cns.tk {H H' : Hp} (s : Tk H H') {cs : List Cn} {vs : List V} (h : Cns H cs vs) : Cns H' cs vs := by
  unfold Cns at h ⊢
  induction h with
  | nil => exact .nil
  | cons r _ ih =>
    obtain ⟨t, u, e, h1, h2⟩ := r
    exact .cons ⟨t, u, e, s _ _ h1, s _ _ h2⟩ ih
theorem IsTb.tk {H H' : Hp} (s : Tk H H') {v : V} {T : Tb} (h : IsTb H v T) : IsTb H' v T := by
  obtain ⟨a, w, c, vs, e, h1, h2, h3, h4⟩ := h
  exact ⟨a, w, c, vs, e, s _ _ h1, s _ _ h2, s _ _ h3, h4.tk s⟩
def Rows (H : Hp) : List (List Nat) → List V → Prop := Paired fun r v => ∃ t, v = .ref t ∧ H t = some (.tup (r.map nV))
theorem Rows.same {H H' : Hp} (s : Same H H') {rs : List (List Nat)} {vs : List V} (h : Rows H rs vs) : Rows H' rs vs := by
  unfold Rows at h ⊢
  induction h with
  | nil => exact .nil
  | cons r _ ih =>
    obtain ⟨t, e, h1⟩ := r
    exact .cons ⟨t, e, s _ _ h1⟩ ih
theorem Rows.tk {H H' : Hp} (s : Tk H H') {rs : List (List Nat)} {vs : List V} (h : Rows H rs vs) : Rows H' rs vs := by
  unfold Rows at h ⊢
  induction h with
  | nil => exact .nil
  | cons r _ ih =>
    obtain ⟨t, e, h1⟩ := r
    exact .cons ⟨t, e, s _ _ h1⟩ ih
theorem Rows.snoc {H : Hp} {rs : List (List Nat)} {vs : List V} {r : List Nat} {t : Addr} (h : Rows H rs vs) (h1 : H t = some (.tup (r.map nV))) : Rows H (rs ++ [r]) (vs ++ [.ref t]) := by
  unfold Rows at h ⊢
  induction h with
  | nil => exact .cons ⟨t, rfl, h1⟩ .nil
  | cons r _ ih => exact .cons r ih
theorem Rows.get {H : Hp} {rs : List (List Nat)} {vs : List V} (h : Rows H rs vs) {i : Nat} {v : V} (hv : vs[i]? = some v) : ∃ r t, r ∈ rs ∧ v = .ref t ∧ H t = some (.tup (r.map nV)) := by
  have hi : i < rs.length := by
    have := Paired.length h
    rw [this]
    exact (List.getElem?_eq_some_iff.mp hv).1
  have e : rs[i]? = some rs[i] := List.getElem?_eq_getElem hi
  obtain ⟨t, e1, h1⟩ := Paired.at h i _ _ e hv
  exact ⟨rs[i], t, List.getElem_mem hi, e1, h1⟩
theorem cut_ints (ns : List Int) (lo hi : Option Int) : ∃ ms : List Int, cutV (ns.map V.int) lo hi = ms.map V.int := by
  unfold cutV
  rw [← List.map_drop, ← List.map_take]
  exact ⟨_, rfl⟩
def signs : Str := "qwertyuiopasdfghjklzxcvbnm"
theorem sign_all : ((List.range 52).all fun k => (atI signs.cps.toList ((k : Int) - 26)).isSome) = true := by decide +kernel
theorem sign_at {i : Int} (h1 : -26 ≤ i) (h2 : i < 26) : ∃ c, atI signs.cps.toList i = some c := by
  have h := List.all_eq_true.mp sign_all (i + 26).toNat (List.mem_range.mpr (by omega))
  have e : (((i + 26).toNat : Nat) : Int) - 26 = i := by omega
  rw [e] at h
  exact Option.isSome_iff_exists.mp h
theorem at_nV {xs : List Nat} {i : Nat} (hi : i < xs.length) : atI (xs.map nV) (i : Int) = some (nV (Tn.at' xs i)) := by
  refine atI_nat ?_
  rw [List.getElem?_map, List.getElem?_eq_getElem hi]
  unfold Tn.at'
  rw [List.getD_eq_getElem?_getD, List.getElem?_eq_getElem hi]
  rfl
theorem in_nats (a : Nat) (ws : List Nat) : inV (nV a) (ws.map nV) = decide (a ∈ ws) := by
  induction ws with
  | nil => rfl
  | cons w ws ih =>
    unfold inV at ih ⊢
    rw [List.map_cons, List.any_cons, ih]
    have e : eqV (nV w) (nV a) = decide (a = w) := by
      by_cases h : a = w
      · rw [h]
        simp [eqV]
      · rw [decide_eq_false h]
        simp [eqV]
        omega
    rw [e, ← Bool.decide_or]
    exact decide_eq_decide.mpr List.mem_cons.symm
theorem flat_nats (ws : List Nat) : (ws.map nV).all flatV = true := by
  rw [List.all_map, List.all_eq_true]
  intro i _
  rfl
theorem erase_perm {α : Type} : ∀ (xs : List α) (i : Nat) (x : α), xs[i]? = some x → xs.Perm (x :: xs.eraseIdx i)
  | [], i, x, h => by simp at h
  | y :: ys, 0, x, h => by
    have e : y = x := by simpa using h
    subst e
    exact List.Perm.refl _
  | y :: ys, i + 1, x, h => ((erase_perm ys i x (by simpa using h)).cons y).trans (List.Perm.swap x y _)
theorem erase_map {α β : Type} (f : α → β) : ∀ (xs : List α) (i : Nat), (xs.map f).eraseIdx i = (xs.eraseIdx i).map f
  | [], _ => rfl
  | _ :: _, 0 => rfl
  | x :: xs, i + 1 => by
    show f x :: (xs.map f).eraseIdx i = f x :: (xs.eraseIdx i).map f
    rw [erase_map f xs i]
theorem seq_nat {v n : Nat} (h : v < n) : seqIndex? (v : Int) n = some v := by
  unfold seqIndex?
  have h1 : ¬ ((v : Int) < 0) := by omega
  simp only [h1, if_false]
  rw [if_pos (by simp; omega)]
  rfl
def spWell (K : PySem.W.Frag) : Sp := fun vs H Q _ => ∃ (a : Addr) (ns : List Int) (pl : Int), vs = [.ref a, .int pl] ∧ SqL K H a (ns.map V.int) ∧ ns.length ≤ 63 ∧ ∀ p H', H p = none → Same H H' → Wel H' p → Q (.ref p) H'
def spNames : Sp := fun vs H Q _ => ∃ (p : Addr) (k : Nat), vs = [.ref p, .int (k : Int)] ∧ Wel H p ∧ k ≤ 4 ∧ ∀ l xs H', Off p H H' → Wel H' p → H' l = some (.lst xs) → TL 16 xs → xs.Nodup → l ≠ p → Q (.ref l) H'
def spCells : Sp := fun vs H Q _ => ∃ (p : Addr) (m pl : Nat), vs = [.ref p, nV m, nV pl] ∧ Wel H p ∧ 1 ≤ m ∧ m ≤ 9 ∧ pl ≤ 2 ∧ ∀ t cs H', Off p H H' → Wel H' p → Tn.Cs m pl cs → H' t = some (.tup (cs.map nV)) → Q (.ref t) H'
def nmsOf' (T : Tb) : List Str := T.cs.map Cn.nm
def spTable : Sp := fun vs H Q _ => ∃ (p : Addr), vs = [.ref p, .int 4, .int 4] ∧ Wel H p ∧ ∀ v T H', Off p H H' → Wel H' p → GoodT T → T.m ≤ 4 → (nmsOf' T).Nodup → IsTb H' v T → Q v H'
def spRows : Sp := fun vs H Q _ => ∃ (m k : Nat), vs = [nV m, nV k] ∧ m ≤ 9 ∧ k ≤ 2 ∧ ∀ l xs H', Same H H' → H' l = some (.lst xs) → Rows H' (Tn.rowsR m k) xs → Q (.ref l) H'
structure Pt (m : Nat) (G : List Nat) : Prop where
  ne : 1 ≤ G.length
  ris : G.Pairwise (· < ·)
  lt : ∀ x ∈ G, x < m
theorem Pt.nd {m : Nat} {G : List Nat} (h : Pt m G) : G.Nodup := h.ris.imp fun h => Nat.ne_of_lt h
theorem Pt.len {m : Nat} {G : List Nat} (h : Pt m G) : G.length ≤ m := Tn.nodup_len m G h.nd h.lt
def keepC (m : Nat) (G : List Nat) (c : Cn) : Bool := (Tn.pls m G c.pl).all fun p => decide (Tn.at' c.cs p ∈ G)
def keepB (T : Tb) (G : List Nat) : Bool := T.cs.all (keepC T.m G)
theorem keep_c {T : Tb} {G : List Nat} (h : keepB T G = true) {c : Cn} (hc : c ∈ T.cs) : keepC T.m G c = true := List.all_eq_true.mp h c hc
theorem keep_rows {m : Nat} {G : List Nat} {c : Cn} (h2 : c.pl ≤ 2) : keepC m G c = (Tn.rowsR G.length c.pl).all fun r => decide (Tn.at' c.cs (Tn.place m (r.map (Tn.at' G))) ∈ G) := by
  unfold keepC
  rw [Tn.pls_rows h2, List.all_map]
  rfl
theorem ixN_nat {n k : Nat} (h : k < n) : ixN n (k : Int) = some k := by
  unfold ixN
  simp
  omega
def spLaw (K : PySem.W.Frag) : Sp := fun vs H Q _ => ∃ (a : Addr) (ns : List Int), vs = [.ref a] ∧ SqL K H a (ns.map V.int) ∧ ns.length ≤ 63 ∧ ∀ H', Q (.bl true) H'
def Sh (T : Tb) : List (Str × Nat) := T.cs.map fun c => (c.nm, c.pl)
theorem nd_cut {xs : List V} (h : xs.Nodup) (lo hi : Option Int) : (cutV xs lo hi).Nodup := by
  unfold cutV
  exact h.sublist ((List.take_sublist _ _).trans (List.drop_sublist _ _))
theorem rot8 (f : Nat) : (cutV [.str "and", .str "or", .str "not", .str "then", .str "grades", .str "wished", .str "false", .str "true"] (some ((f : Int) % 8)) none ++ cutV [.str "and", .str "or", .str "not", .str "then", .str "grades", .str "wished", .str "false", .str "true"] none (some ((f : Int) % 8))).Nodup := by
  have all : ∀ r : Nat, r < 8 → (cutV [.str "and", .str "or", .str "not", .str "then", .str "grades", .str "wished", .str "false", .str "true"] (some (r : Int)) none ++ cutV [.str "and", .str "or", .str "not", .str "then", .str "grades", .str "wished", .str "false", .str "true"] none (some (r : Int))).Nodup := by decide +kernel
  have := all (f % 8) (Nat.mod_lt _ (by decide))
  rw [Int.natCast_emod] at this
  exact this
theorem mul_len' (c n : Nat) : (Txt.mul (Str.mk #[c]) (n : Int)).length = n := by
  unfold Txt.mul
  split
  · rename_i h
    show 0 = n
    omega
  · split
    · rename_i h1 h2
      have h2 : (n : Int) = 1 := by
        rcases (Bool.or_eq_true _ _).mp h2 with h | h
        · exact eq_of_beq h
        · exact absurd h (by show ¬ ((1 : Nat) == 0) = true; decide)
      show 1 = n
      omega
    · have aux : ∀ (k : Nat) (acc : Array Nat), ((List.replicate k #[c]).foldl (· ++ ·) acc).size = acc.size + k := by
        intro k
        induction k with
        | zero => intro acc; rfl
        | succ k ih =>
          intro acc
          rw [List.replicate_succ, List.foldl_cons, ih, Array.size_append]
          show acc.size + 1 + k = _
          omega
      show ((List.replicate (n : Int).toNat #[c]).foldl (· ++ ·) #[]).size = n
      rw [aux]
      simp
theorem nd_map {α : Type} (f : α → V) (L : List α) (h : L.Nodup) (inj : ∀ a ∈ L, ∀ b ∈ L, f a = f b → a = b) : (L.map f).Nodup := by
  unfold List.Nodup
  rw [List.pairwise_map]
  exact List.Pairwise.imp_of_mem (fun {a b} ha hb hab he => hab (inj a ha b hb he)) h
def nm1 (c : Nat) (j : Nat) : V := .str (Txt.mul (Str.mk #[c]) (0 + (j : Int) + 2))
theorem nm1_nd (c n : Nat) : ((List.range n).map (nm1 c)).Nodup := by
  refine nd_map _ _ List.nodup_range fun a _ b _ h => ?_
  have h1 := congrArg Str.length (V.str.inj h)
  rw [show 0 + (a : Int) + 2 = ((a + 2 : Nat) : Int) by omega, show 0 + (b : Int) + 2 = ((b + 2 : Nat) : Int) by omega, mul_len', mul_len'] at h1
  omega
def sgAt (i : Int) : Nat := (atI signs.cps.toList i).getD 0
theorem sg_inj : ∀ a : Nat, a < 26 → ∀ b : Nat, b < 26 → sgAt (a : Int) = sgAt (b : Int) → a = b := by decide +kernel
theorem sg_of {i : Int} {c : Nat} (h : atI signs.cps.toList i = some c) : c = sgAt i := by
  unfold sgAt
  rw [h]
  rfl
def nm2 (f : Nat) (A B : Str) (j : Nat) : V := .str (A ++ Str.mk #[sgAt (((f : Int) + (0 + (j : Int))) % 26)] ++ B)
theorem mid_inj {A B : Str} {c d : Nat} (h : A ++ Str.mk #[c] ++ B = A ++ Str.mk #[d] ++ B) : c = d := by
  have h1 : A.cps ++ #[c] ++ B.cps = A.cps ++ #[d] ++ B.cps := congrArg Str.cps h
  have h2 := congrArg Array.toList h1
  simp only [Array.toList_append] at h2
  have h3 := List.append_cancel_right h2
  have h4 := List.append_cancel_left h3
  simpa using h4
theorem nm2_nd (f n : Nat) (A B : Str) (hn : n ≤ 8) : ((List.range n).map (nm2 f A B)).Nodup := by
  refine nd_map _ _ List.nodup_range fun a ha b hb h => ?_
  have a8 := List.mem_range.mp ha
  have b8 := List.mem_range.mp hb
  have h1 := mid_inj (V.str.inj h)
  rw [show ((f : Int) + (0 + (a : Int))) % 26 = (((f + a) % 26 : Nat) : Int) by omega, show ((f : Int) + (0 + (b : Int))) % 26 = (((f + b) % 26 : Nat) : Int) by omega] at h1
  have h2 := sg_inj _ (Nat.mod_lt _ (by decide)) _ (Nat.mod_lt _ (by decide)) h1
  omega
theorem nd_of_map {ts : List Str} (h : (ts.map V.str).Nodup) : ts.Nodup := by
  unfold List.Nodup at h ⊢
  rw [List.pairwise_map] at h
  exact h.imp fun hab e => hab (by rw [e])
abbrev Ln : Type := Str ⊕ (Str × List Nat)
def nmsOf (T : Tb) : List Str := T.cs.map Cn.nm
def findC (T : Tb) (nm : Str) : Option Cn := T.cs.find? fun c => decide (c.nm = nm)
theorem find_mem {T : Tb} (hn : (nmsOf T).Nodup) {c : Cn} (hc : c ∈ T.cs) : findC T c.nm = some c := by
  obtain ⟨m, ws, cs⟩ := T
  unfold findC nmsOf at *
  dsimp only at *
  induction cs with
  | nil => cases hc
  | cons d cs ih =>
    rw [List.map_cons, List.nodup_cons] at hn
    rw [List.find?_cons]
    rcases List.mem_cons.mp hc with rfl | hc
    · rw [decide_eq_true rfl]
    · have ne : ¬ d.nm = c.nm := fun e => hn.1 (e ▸ List.mem_map.mpr ⟨c, hc, rfl⟩)
      rw [decide_eq_false ne]
      exact ih hn.2 hc
def cellOf (T : Tb) (nm : Str) (r : List Nat) : Nat := match findC T nm with
  | some c => Tn.at' c.cs (Tn.place T.m r)
  | none => 0
def lineR (T : Tb) (γ : Str → Nat) (acc : List Nat) : Ln → Nat
  | .inl x => γ x
  | .inr z => cellOf T z.1 (z.2.map (Tn.at' acc))
def GoodLn (T : Tb) (LT : List Str) (i : Nat) : Ln → Prop
  | .inl x => x ∈ LT
  | .inr z => (∀ n ∈ z.2, n < i) ∧ ∃ c ∈ T.cs, c.nm = z.1 ∧ c.pl = z.2.length
def GoodL (T : Tb) (LT : List Str) (ls : List Ln) : Prop := ∀ (i : Nat) (l : Ln), ls[i]? = some l → GoodLn T LT i l
theorem GoodT.cell_lt {T : Tb} (g : GoodT T) (hn : (nmsOf T).Nodup) {c : Cn} (hc : c ∈ T.cs) {r : List Nat} (hr : Tn.Rw T.m c.pl r) : cellOf T c.nm r < T.m := by
  unfold cellOf
  rw [find_mem hn hc]
  exact (g.cn c hc).2.2.at_lt (Tn.place_lt _ _ hr)
theorem rows_get {n k : Nat} (hk : k ≤ 2) {r : List Nat} (hr : Tn.Rw n k r) : (Tn.rowsR n k)[Tn.place n r]? = some r := by
  obtain ⟨hl, hx⟩ := hr
  match k, hk, r, hl with
  | 0, _, [], _ => rfl
  | 1, _, [a], _ =>
    have ha := hx a (by simp)
    show ((List.range n).map fun x => [x])[0 * n + a]? = some [a]
    rw [List.getElem?_map, List.getElem?_range (by omega)]
    simp
  | 2, _, [a, b], _ =>
    have ha := hx a (by simp)
    have hb := hx b (by simp)
    have hlt : a * n + b < n * n := by
      have : (a + 1) * n ≤ n * n := Nat.mul_le_mul_right n ha
      rw [Nat.add_mul] at this
      omega
    show ((List.range (n * n)).map fun p => [p / n, p % n])[(0 * n + a) * n + b]? = some [a, b]
    rw [Nat.zero_mul, Nat.zero_add, List.getElem?_map, List.getElem?_range hlt]
    have e1 : (a * n + b) / n = a := by rw [Nat.mul_comm, Nat.mul_add_div (by omega), Nat.div_eq_of_lt hb, Nat.add_zero]
    have e2 : (a * n + b) % n = b := by rw [Nat.mul_comm, Nat.mul_add_mod, Nat.mod_eq_of_lt hb]
    simp [e1, e2]
theorem nms_sh {T U : Tb} (h : Sh T = Sh U) : nmsOf T = nmsOf U := by
  have e : ∀ X : Tb, nmsOf X = (Sh X).map Prod.fst := fun X => by
    unfold nmsOf Sh
    rw [List.map_map]
    rfl
  rw [e, e, h]
theorem at0 {x : V} {us : List V} : atI (x :: us) 0 = some x := atI_nat (j := 0) rfl
theorem cut_drop1 {xs : List V} (h : 1 ≤ xs.length) : cutV xs (some 1) none = xs.drop 1 := by
  unfold cutV
  rw [show HT.sIx xs.length 0 (some 1) = 1 by rw [show (1 : Int) = ((1 : Nat) : Int) from rfl, HT.sIx_nat]; omega, HT.sIx_none]
  exact List.take_of_length_le (by rw [List.length_drop]; omega)
theorem slT_of {K : PySem.W.Frag} {H : Hp} {a : Addr} {xs : List V} {lo hi : Option Int} {Q : VK} (ha : H a = some (.tup xs)) (F : ∀ t H', Same H H' → H' t = some (.tup (cutV xs lo hi)) → Q (.ref t) H') : rSlT K (.ref a) lo hi H Q ∨ rSlTW K (.ref a) lo hi H Q := by
  by_cases h : HT.sIx xs.length 0 lo = 0 ∧ HT.sIx xs.length xs.length hi = xs.length
  · refine .inr ⟨a, xs, rfl, SqT.of ha, h, F a H (Same.refl H) ?_⟩
    unfold cutV
    rw [h.1, h.2, List.drop_zero, Nat.sub_zero, List.take_length]
    exact ha
  · exact .inl ⟨a, xs, rfl, SqT.of ha, h, fun p hp => F p _ (same_new hp _) upd_same⟩
theorem catA_of {K : PySem.W.Frag} {H : Hp} {a b : Addr} {xs ys : List V} {Q : VK} (ha : H a = some (.tup xs)) (hb : H b = some (.tup ys)) (hz : xs.length + ys.length ≤ 1000) (F : ∀ t H', Same H H' → H' t = some (.tup (xs ++ ys)) → Q (.ref t) H') : rCatA K (.ref a) (.ref b) H Q :=
  ⟨a, b, xs, ys, rfl, rfl, SqT.of ha, SqT.of hb, small9 hz, fun z => F b H (Same.refl H) (by rw [z]; exact hb), fun _ z => F a H (Same.refl H) (by rw [z, List.append_nil]; exact ha), fun _ _ p hp => F p _ (same_new hp _) upd_same⟩
def Ls (L : List Str) : Prop := ∀ x ∈ L, Ltr x
def spSmall : Sp := fun vs H Q _ => ∃ x : Str, vs = [.str x] ∧ Small x ∧ x.length ≤ 8 ∧ ∀ H', Same H H' → Q (.bl true) H'
def IsLn (H : Hp) : Ln → V → Prop
  | .inl x, v => v = .str x
  | .inr z, v => ∃ t, v = .ref t ∧ H t = some (.tup (.str z.1 :: z.2.map nV))
theorem IsLn.tk {H H' : Hp} (k : Tk H H') {l : Ln} {v : V} (h : IsLn H l v) : IsLn H' l v := by
  cases l with
  | inl x => exact h
  | inr z =>
    obtain ⟨t, e, h⟩ := h
    exact ⟨t, e, k _ _ h⟩
abbrev Lns (H : Hp) : List Ln → List V → Prop := Paired (IsLn H)
theorem Lns.tk {H H' : Hp} (k : Tk H H') {ls : List Ln} {us : List V} (h : Lns H ls us) : Lns H' ls us := Paired.imp' (fun _ _ z => z.tk k) h
theorem Lns.snoc {H : Hp} {ls : List Ln} {us : List V} {l : Ln} {u : V} (h : Lns H ls us) (k : IsLn H l u) : Lns H (ls ++ [l]) (us ++ [u]) := by
  induction h with
  | nil => exact .cons k .nil
  | cons r _ ih => exact .cons r ih
def d0 : Cn := ⟨"", 0, []⟩
def knOf (T : Tb) (au : Nat → Addr) (n : Nat) : List (Key × V) := (List.range n).map fun i => (Sum.inr (T.cs.getD i d0).nm, .ref (au i))
theorem kn_keys (T : Tb) (au : Nat → Addr) : (knOf T au T.cs.length).map Prod.fst = (nmsOf T).map Sum.inr := by
  unfold knOf nmsOf
  rw [List.map_map, List.map_map]
  refine List.ext_getElem? fun i => ?_
  rw [List.getElem?_map, List.getElem?_map]
  by_cases hi : i < T.cs.length
  · rw [List.getElem?_range hi, List.getElem?_eq_getElem hi]
    simp [List.getD, hi]
  · rw [List.getElem?_eq_none (by rw [List.length_range]; omega), List.getElem?_eq_none (by omega)]
    rfl
theorem kn_nd {T : Tb} {au : Nat → Addr} (h : (nmsOf T).Nodup) : ((knOf T au T.cs.length).map Prod.fst).Nodup := by
  rw [kn_keys]
  unfold List.Nodup
  rw [List.pairwise_map]
  exact h.imp fun hab e => hab (Sum.inr.inj e)
structure Hom (U T : Tb) (F : List Nat) : Prop where
  len : F.length = U.m
  lt : ∀ x ∈ F, x < T.m
  sh : Sh U = Sh T
  cell : ∀ (c : Cn), c ∈ U.cs → ∀ r, Tn.Rw U.m c.pl r → Tn.at' F (cellOf U c.nm r) = cellOf T c.nm (r.map (Tn.at' F))
  wish : ∀ j, j < U.m → (j ∈ U.ws ↔ Tn.at' F j ∈ T.ws)
def cKey (c : Cn) : List Key := [Sum.inr c.nm, Sum.inl (c.pl : Int)]
def IsCd (H : Hp) (d : Addr) (T : Tb) : Prop := ∃ kvs, H d = some (.dT kvs) ∧ ∀ c ∈ T.cs, ∃ u, valV kvs (cKey c) = some (.ref u) ∧ H u = some (.tup (c.cs.map nV))
theorem IsCd.same {H H' : Hp} {d : Addr} {T : Tb} (h : IsCd H d T) (s : Same H H') : IsCd H' d T := by
  obtain ⟨kvs, h1, h2⟩ := h
  refine ⟨kvs, s _ _ h1, fun c hc => ?_⟩
  obtain ⟨u, e1, e2⟩ := h2 c hc
  exact ⟨u, e1, s _ _ e2⟩
def ctOf (T : Tb) (au : Nat → Addr) (n : Nat) : List (List Key × V) := (List.range n).map fun i => (cKey (T.cs.getD i d0), .ref (au i))
theorem ct_snoc (T : Tb) (au : Nat → Addr) (n : Nat) : ctOf T au (n + 1) = ctOf T au n ++ [(cKey (T.cs.getD n d0), .ref (au n))] := by
  unfold ctOf
  rw [List.range_succ, List.map_append]
  rfl
theorem ct_nd {T : Tb} {au : Nat → Addr} (h : (nmsOf T).Nodup) : ((ctOf T au T.cs.length).map Prod.fst).Nodup := by
  have h2 := kn_nd (au := au) h
  unfold ctOf
  unfold knOf at h2
  rw [List.map_map] at h2 ⊢
  unfold List.Nodup at h2 ⊢
  rw [List.pairwise_map] at h2 ⊢
  exact h2.imp fun hab e => hab (by
    have e' : cKey _ = cKey _ := e
    unfold cKey at e'
    exact (List.cons.inj e').1)
def spCbn : Sp := fun vs H Q _ => ∃ (v : V) (T : Tb), vs = [v] ∧ IsTb H v T ∧ GoodT T ∧ (nmsOf T).Nodup ∧ ∀ e H', Same H H' → IsCd H' e T → Q (.ref e) H'
def lnL : Ln → Bool
  | .inl _ => true
  | .inr _ => false
def spIsLn : Sp := fun vs H Q _ => ∃ (v : V) (l : Ln), vs = [v] ∧ IsLn H l v ∧ (∀ x, l = .inl x → Ltr x) ∧ ∀ H', Same H H' → Q (.bl (lnL l)) H'
structure Clos (ls : List Ln) (ns : List Nat) : Prop where
  nd : ns.Nodup
  lt : ∀ n ∈ ns, n < ls.length
  last : ls.length - 1 ∈ ns
  cl : ∀ n ∈ ns, ∀ z, ls[n]? = some (.inr z) → ∀ m ∈ z.2, m ∈ ns
def nd1 (ns : List Nat) : List (Key × V) := ns.map fun (n : Nat) => ((Sum.inl (n : Int) : Key), V.bl true)
theorem nd1_val : ∀ (ns : List Nat) (n : Nat), (valV (nd1 ns) (Sum.inl (n : Int))).isSome = decide (n ∈ ns)
  | [], n => by simp [nd1, valV]
  | m :: ns, n => by
    unfold nd1
    rw [List.map_cons]
    by_cases h : m = n
    · rw [valV_pos (by rw [h])]
      simp [h]
    · rw [valV_neg (fun e => h (by have := Sum.inl.inj e; omega))]
      have := nd1_val ns n
      unfold nd1 at this
      rw [this]
      have hn : ¬ n = m := fun e => h e.symm
      simp [hn]
theorem nd1_keys (ns : List Nat) : ((nd1 ns).map fun p => kV p.1) = ns.map nV := by
  unfold nd1
  rw [List.map_map]
  rfl
theorem nd1_put {ns : List Nat} {n : Nat} (h : n ∉ ns) : putK (nd1 ns) (Sum.inl (n : Int)) (.bl true) = nd1 (ns ++ [n]) := by
  have hv : valV (nd1 ns) (Sum.inl (n : Int)) = none := by
    have := nd1_val ns n
    rw [decide_eq_false h] at this
    cases e : valV (nd1 ns) (Sum.inl (n : Int)) with
    | none => rfl
    | some x => rw [e] at this; cases this
  rw [putK_new _ hv]
  unfold nd1
  rw [List.map_append]
  rfl
def LtrLn (l : Ln) : Prop := ∀ x, l = .inl x → Ltr x
theorem GoodL.ltr {T : Tb} {LT : List Str} {ls : List Ln} (h : GoodL T LT ls) (hL : Ls LT) {i : Nat} {l : Ln} (hi : ls[i]? = some l) : LtrLn l := fun x e => by
  have := h i l hi
  rw [e] at this
  exact hL x this
def spNeed : Sp := fun vs H Q _ => ∃ (lt : Addr) (us : List V) (ls : List Ln) (T : Tb) (LT : List Str), vs = [.ref lt] ∧ H lt = some (.lst us) ∧ Lns H ls us ∧ GoodL T LT ls ∧ (∀ c ∈ T.cs, c.pl ≤ 2) ∧ Ls LT ∧ 1 ≤ ls.length ∧ ls.length ≤ 20 ∧ ∀ l ns H', Same H H' → H' l = some (.lst (ns.map nV)) → Clos ls ns → Q (.ref l) H'
abbrev Cols (H : Hp) : List (List Nat) → List V → Prop := Paired fun col v => ∃ t, v = .ref t ∧ H t = some (.tup (col.map nV))
theorem Cols.tk {H H' : Hp} (k : Tk H H') {cs : List (List Nat)} {us : List V} (h : Cols H cs us) : Cols H' cs us := Paired.imp' (fun _ _ ⟨t, e, h⟩ => ⟨t, e, k _ _ h⟩) h
theorem Cols.snoc {H : Hp} {cs : List (List Nat)} {us : List V} {c : List Nat} {t : Addr} (h : Cols H cs us) (k : H t = some (.tup (c.map nV))) : Cols H (cs ++ [c]) (us ++ [.ref t]) := by
  induction h with
  | nil => exact .cons ⟨t, rfl, k⟩ .nil
  | cons r _ ih => exact .cons r ih
def GoodCol (m len : Nat) (col : List Nat) : Prop := col.length = len ∧ ∀ x ∈ col, x < m
theorem at_get {col : List Nat} {j : Nat} (h : j < col.length) : col[j]? = some (Tn.at' col j) := by
  unfold Tn.at'
  rw [List.getD_eq_getElem?_getD, List.getElem?_eq_getElem h]
  rfl
theorem GoodCol.at {m len : Nat} {col : List Nat} (h : GoodCol m len col) {j : Nat} (hj : j < len) : Tn.at' col j < m := h.2 _ (List.mem_of_getElem? (at_get (by rw [h.1]; exact hj)))
def spColF : Sp := fun vs H Q _ => ∃ (cu cl : Addr) (m pl : Nat) (cs : List Nat) (cols : List (List Nat)) (cvs : List V) (len : Nat), vs = [.ref cu, nV m, .ref cl, nV len] ∧ H cu = some (.tup (cs.map nV)) ∧ Tn.Cs m pl cs ∧ H cl = some (.lst cvs) ∧ Cols H cols cvs ∧ cols.length = pl ∧ pl ≤ 2 ∧ (∀ col ∈ cols, GoodCol m len col) ∧ 1 ≤ m ∧ m ≤ 9 ∧ len ≤ 9 ∧ ∀ t H', Same H H' → H' t = some (.tup (((List.range len).map fun k => Tn.at' cs (Tn.place m (cols.map fun col => Tn.at' col k))).map nV)) → Q (.ref t) H'
def spLineC : Sp := fun vs H Q _ => ∃ (v : V) (e al t : Addr) (T : Tb) (z : Str × List Nat) (cols : List (List Nat)) (avs : List V) (len : Nat), vs = [v, .ref e, .ref al, .ref t, nV len] ∧ IsTb H v T ∧ GoodT T ∧ (nmsOf T).Nodup ∧ IsCd H e T ∧ H al = some (.lst avs) ∧ Cols H cols avs ∧ (∀ col ∈ cols, GoodCol T.m len col) ∧ H t = some (.tup (.str z.1 :: z.2.map nV)) ∧ (∀ n ∈ z.2, n < cols.length) ∧ (∃ c ∈ T.cs, c.nm = z.1 ∧ c.pl = z.2.length) ∧ len ≤ 9 ∧ ∀ t' H', Same H H' → H' t' = some (.tup (((List.range len).map fun k => cellOf T z.1 (z.2.map fun n => Tn.at' (cols.getD n []) k)).map nV)) → Q (.ref t') H'
def reN (ns : List Nat) : Ln → Ln
  | .inl x => .inl x
  | .inr z => .inr (z.1, z.2.map fun m => ns.idxOf m)
def nums (ns : List Nat) : List (Key × V) := ns.zipIdx.map fun p => ((Sum.inl ((p.1 : Nat) : Int) : Key), nV p.2)
theorem nums_len (ns : List Nat) : (nums ns).length = ns.length := by
  unfold nums
  rw [List.length_map, List.length_zipIdx]
theorem nums_get {ns : List Nat} {i : Nat} {p : Key × V} (h : (nums ns)[i]? = some p) : ∃ n, ns[i]? = some n ∧ p = (Sum.inl ((n : Nat) : Int), nV i) := by
  unfold nums at h
  rw [List.getElem?_map, List.getElem?_zipIdx] at h
  cases e : ns[i]? with
  | none => rw [e] at h; cases h
  | some n =>
    rw [e] at h
    refine ⟨n, rfl, ?_⟩
    have h2 := Option.some.inj h
    rw [← h2]
    simp
theorem nums_keys (ns : List Nat) : (nums ns).map Prod.fst = ns.map fun (n : Nat) => (Sum.inl (n : Int) : Key) := by
  refine List.ext_getElem? fun i => ?_
  rw [List.getElem?_map, List.getElem?_map]
  cases e : (nums ns)[i]? with
  | none =>
    have := List.getElem?_eq_none_iff.mp e
    rw [nums_len] at this
    rw [List.getElem?_eq_none this]
    rfl
  | some p =>
    obtain ⟨n, h1, rfl⟩ := nums_get e
    rw [h1]
    rfl
theorem nums_nd {ns : List Nat} (h : ns.Nodup) : ((nums ns).map Prod.fst).Nodup := by
  rw [nums_keys]
  unfold List.Nodup at h ⊢
  rw [List.pairwise_map]
  exact h.imp fun hab e => hab (by have := Sum.inl.inj e; omega)
theorem valV_mem : ∀ {kvs : List (Key × V)} {p : Key × V}, (kvs.map Prod.fst).Nodup → p ∈ kvs → valV kvs p.1 = some p.2
  | [], p, _, h => by cases h
  | q :: kvs, p, nd, h => by
    rw [List.map_cons, List.nodup_cons] at nd
    rcases List.mem_cons.mp h with rfl | h
    · exact valV_pos rfl
    · rw [valV_neg (fun e => nd.1 (e ▸ List.mem_map.mpr ⟨p, h, rfl⟩))]
      exact valV_mem nd.2 h
theorem valV_none : ∀ {kvs : List (Key × V)} {k : Key}, k ∉ kvs.map Prod.fst → valV kvs k = none
  | [], k, _ => rfl
  | q :: kvs, k, h => by
    rw [List.map_cons, List.mem_cons, not_or] at h
    rw [valV_neg (fun e => h.1 e.symm)]
    exact valV_none h.2
theorem nums_val {ns : List Nat} (nd : ns.Nodup) {n : Nat} (h : n ∈ ns) : valV (nums ns) (Sum.inl (n : Int)) = some (nV (ns.idxOf n)) := by
  have hlt := List.idxOf_lt_length_of_mem h
  have hp : (nums ns)[ns.idxOf n]? = some (Sum.inl ((n : Nat) : Int), nV (ns.idxOf n)) := by
    have e : (nums ns)[ns.idxOf n]? = some ((nums ns)[ns.idxOf n]'(by rw [nums_len]; exact hlt)) := List.getElem?_eq_getElem _
    obtain ⟨m, h1, h2⟩ := nums_get e
    rw [e, h2]
    rw [List.getElem?_eq_getElem hlt, List.getElem_idxOf] at h1
    rw [Option.some.inj h1]
  exact valV_mem (nums_nd nd) (p := (Sum.inl ((n : Nat) : Int), nV (ns.idxOf n))) (List.mem_of_getElem? hp)
theorem nums_snoc (ns : List Nat) (n : Nat) : nums (ns ++ [n]) = nums ns ++ [(Sum.inl ((n : Nat) : Int), nV ns.length)] := by
  unfold nums
  rw [List.zipIdx_append, List.map_append]
  simp
theorem nums_put {ns : List Nat} {i n : Nat} (nd : ns.Nodup) (h : ns[i]? = some n) : putK (nums (ns.take i)) (Sum.inl (n : Int)) (.int ((nums (ns.take i)).length : Nat)) = nums (ns.take (i + 1)) := by
  have hi := (List.getElem?_eq_some_iff.mp h).1
  have hn : n ∉ ns.take i := fun hm => by
    obtain ⟨j, hj, e⟩ := List.mem_take_iff_getElem.mp hm
    obtain ⟨h1, h2⟩ := List.getElem?_eq_some_iff.mp h
    exact (List.pairwise_iff_getElem.mp nd) j i (by omega) h1 (by omega) (by rw [e, h2])
  have hk : (Sum.inl (n : Int) : Key) ∉ (nums (ns.take i)).map Prod.fst := by
    rw [nums_keys]
    intro hm
    obtain ⟨m, hm1, e⟩ := List.mem_map.mp hm
    have := Sum.inl.inj e
    exact hn (by rw [show n = m by omega]; exact hm1)
  rw [putK_new _ (valV_none hk), take_snoc h, nums_snoc, nums_len]
theorem sort_clos {ls : List Ln} {ns0 : List Nat} {ms : List Int} (c : Clos ls ns0) (pm : ms.Perm (ns0.map fun (n : Nat) => (n : Int))) (pw : ms.Pairwise (· ≤ ·)) : ∃ ns : List Nat, ms.map V.int = ns.map nV ∧ Clos ls ns ∧ ns.Pairwise (· < ·) ∧ ns.length = ns0.length := by
  have m0 : ∀ i ∈ ms, ∃ n ∈ ns0, i = ((n : Nat) : Int) := fun i hi => by
    obtain ⟨n, hn, e⟩ := List.mem_map.mp (pm.mem_iff.mp hi)
    exact ⟨n, hn, e.symm⟩
  have mm : ∀ x, x ∈ ms.map Int.toNat ↔ x ∈ ns0 := fun x => by
    constructor
    · intro hx
      obtain ⟨i, hi, rfl⟩ := List.mem_map.mp hx
      obtain ⟨n, hn, rfl⟩ := m0 i hi
      rw [Int.toNat_natCast]
      exact hn
    · intro hx
      exact List.mem_map.mpr ⟨((x : Nat) : Int), pm.mem_iff.mpr (List.mem_map.mpr ⟨x, hx, rfl⟩), Int.toNat_natCast _⟩
  have nd0 : (ns0.map fun (n : Nat) => (n : Int)).Nodup := by
    have := c.nd
    unfold List.Nodup at this ⊢
    rw [List.pairwise_map]
    exact this.imp fun hab e => hab (by omega)
  have nd := pm.nodup_iff.mpr nd0
  have ris : (ms.map Int.toNat).Pairwise (· < ·) := by
    rw [List.pairwise_map]
    refine List.Pairwise.imp_of_mem (fun {a b} ha hb hab => ?_) (List.pairwise_and_iff.mpr ⟨pw, nd⟩)
    obtain ⟨n, _, rfl⟩ := m0 a ha
    obtain ⟨k, _, rfl⟩ := m0 b hb
    have h1 := hab.1
    have h2 := hab.2
    omega
  refine ⟨ms.map Int.toNat, ?_, ⟨ris.imp fun h => Nat.ne_of_lt h, fun n hn => c.lt n ((mm n).mp hn), (mm _).mpr c.last, fun n hn z hz m hm => (mm m).mpr (c.cl n ((mm n).mp hn) z hz m hm)⟩, ris, by rw [List.length_map, pm.length_eq, List.length_map]⟩
  rw [List.map_map]
  refine List.map_congr_left fun i hi => ?_
  obtain ⟨n, _, rfl⟩ := m0 i hi
  show V.int _ = V.int _
  rw [Int.toNat_natCast]
theorem rng_get {α : Type} {f : Nat → α} {n j : Nat} {x : α} (h : ((List.range n).map f)[j]? = some x) : j < n ∧ x = f j := by
  rw [List.getElem?_map] at h
  by_cases hj : j < n
  · rw [List.getElem?_range hj] at h
    exact ⟨hj, (Option.some.inj h).symm⟩
  · rw [List.getElem?_eq_none (by rw [List.length_range]; omega)] at h
    cases h
def lnPs : Ln → List Nat
  | .inl _ => []
  | .inr z => z.2
def spRenum : Sp := fun vs H Q _ => ∃ (v : V) (nd : Addr) (l : Ln) (ns : List Nat) (o : Obj), vs = [v, .ref nd] ∧ IsLn H l v ∧ LtrLn l ∧ H nd = some (.frz o (.dK (nums ns))) ∧ ns.Nodup ∧ (∀ m ∈ lnPs l, m ∈ ns) ∧ (lnPs l).length ≤ 2 ∧ ns.length ≤ 20 ∧ ∀ w H', Same H H' → IsLn H' (reN ns l) w → Q w H'
def spAlone : Sp := fun vs H Q _ => ∃ (lt : Addr) (us : List V) (ls : List Ln) (T : Tb) (LT : List Str), vs = [.ref lt] ∧ H lt = some (.lst us) ∧ Lns H ls us ∧ GoodL T LT ls ∧ (∀ c ∈ T.cs, c.pl ≤ 2) ∧ Ls LT ∧ 1 ≤ ls.length ∧ ls.length ≤ 20 ∧ ∀ t us' ns H', Same H H' → H' t = some (.tup us') → Clos ls ns → ns.Pairwise (· < ·) → Lns H' (ns.map fun n => reN ns (ls.getD n (.inl ""))) us' → Q (.ref t) H'
theorem ltr_of {s : Str} {c : Nat} (h : s.cps = #[c]) (h1 : 97 ≤ c) (h2 : c ≤ 122) : Ltr s := ⟨by show s.cps.size = 1; rw [h]; rfl, fun x hx => by
  rw [h] at hx
  have : x = c := by simpa using hx
  rw [this]
  exact ⟨h1, h2⟩⟩
theorem good_take {T : Tb} {LT : List Str} {ls : List Ln} (h : GoodL T LT ls) (N : Nat) : GoodL T LT (ls.take N) := fun i l hi => by
  have hlt := (List.getElem?_eq_some_iff.mp hi).1
  rw [List.length_take] at hlt
  rw [List.getElem?_take_of_lt (by omega)] at hi
  exact h i l hi
theorem lns_take {H : Hp} : ∀ {ls : List Ln} {us : List V} (N : Nat), Lns H ls us → Lns H (ls.take N) (us.take N)
  | _, _, 0, _ => .nil
  | _, _, _ + 1, .nil => .nil
  | _, _, N + 1, .cons r h => .cons r (lns_take N h)
theorem cut_to {xs : List V} {k : Nat} : cutV xs none (some (k : Int)) = xs.take k := by
  unfold cutV HT.sIx
  simp
  rw [if_neg (by omega)]
  omega
def lineV (T : Tb) (len : Nat) (cols : List (List Nat)) (z : Str × List Nat) : List Nat := (List.range len).map fun k => cellOf T z.1 (z.2.map fun n => Tn.at' (cols.getD n []) k)
def colV (T : Tb) (len : Nat) (nm : Str) (args : List (List Nat)) : List Nat := (List.range len).map fun k => cellOf T nm (args.map fun a => Tn.at' a k)
inductive Sd (T : Tb) (len : Nat) (B : List (List Nat)) : List Nat → Prop
  | base {col : List Nat} : col ∈ B → Sd T len B col
  | op {c : Cn} {args : List (List Nat)} : c ∈ T.cs → args.length = c.pl → (∀ a ∈ args, Sd T len B a) → Sd T len B (colV T len c.nm args)
def spKeep : Sp := fun vs H Q _ => ∃ (fd c : Addr) (col : List Nat) (kvs : List (List Key × V)) (lv : V), vs = [.ref fd, .ref c, lv] ∧ H fd = some (.dT kvs) ∧ H c = some (.tup (col.map nV)) ∧ kvs.length < 81 ∧ ((valV kvs (colK col)).isSome = true → Q .non H) ∧ (valV kvs (colK col) = none → Q .non (upd H fd (.dT (kvs ++ [(colK col, lv)]))))
theorem iteP {b : Bool} {P Q : Prop} (h : b = true) (p : P) : if b = true then P else Q := by rw [if_pos h]; exact p
theorem iteN {b : Bool} {P Q : Prop} (h : b = false) (q : Q) : if b = true then P else Q := by rw [h]; exact q
def l0 (cs : List Cn) : List (Str × List Nat) := (cs.filter fun c => decide (c.pl = 0)).map fun c => (c.nm, ([] : List Nat))
theorem l0_yes (cs : List Cn) {c : Cn} (h : c.pl = 0) : l0 (cs ++ [c]) = l0 cs ++ [(c.nm, [])] := by
  unfold l0
  rw [List.filter_append, List.map_append, List.filter_cons, if_pos (decide_eq_true h)]
  rfl
theorem l0_no (cs : List Cn) {c : Cn} (h : c.pl ≠ 0) : l0 (cs ++ [c]) = l0 cs := by
  unfold l0
  rw [List.filter_append, List.filter_cons, if_neg (fun z => h (of_decide_eq_true z))]
  simp
theorem Lns.app {H : Hp} {as bs : List Ln} {xs ys : List V} (h : Lns H as xs) (k : Lns H bs ys) : Lns H (as ++ bs) (xs ++ ys) := by
  induction h with
  | nil => exact k
  | cons r _ ih => exact .cons r ih
def lwC (k : Nat) (c : Cn) : List (Str × List Nat) := (if c.pl = 1 then [(c.nm, [k])] else []) ++ (if c.pl = 2 then ((List.range (k + 1)).map fun o => (c.nm, [k, o])) ++ (List.range k).map fun o => (c.nm, [o, k]) else [])
def lw (k : Nat) (cs : List Cn) : List (Str × List Nat) := cs.flatMap (lwC k)
abbrev Lzs (H : Hp) (zs : List (Str × List Nat)) (us : List V) : Prop := Lns H (zs.map Sum.inr) us
theorem Lzs.app {H : Hp} {as bs : List (Str × List Nat)} {xs ys : List V} (h : Lzs H as xs) (k : Lzs H bs ys) : Lzs H (as ++ bs) (xs ++ ys) := by
  unfold Lzs
  rw [List.map_append]
  exact Lns.app h k
theorem lwC_len {k : Nat} (h : k ≤ 20) (c : Cn) : (lwC k c).length ≤ 42 := by
  unfold lwC
  rw [List.length_append]
  split
  · rw [if_neg (by omega)]
    show 1 + 0 ≤ 42
    omega
  · split
    · rw [List.length_append, List.length_map, List.length_map, List.length_range, List.length_range]
      show 0 + _ ≤ 42
      omega
    · show 0 + 0 ≤ 42
      omega
theorem lw_len {k : Nat} (h : k ≤ 20) : ∀ cs : List Cn, (lw k cs).length ≤ 42 * cs.length
  | [] => Nat.le_refl _
  | c :: cs => by
    unfold lw
    rw [List.flatMap_cons, List.length_append, List.length_cons]
    have h1 := lwC_len h c
    have h2 := lw_len h cs
    unfold lw at h2
    omega
def spLines0 : Sp := fun vs H Q _ => ∃ (v : V) (T : Tb), vs = [v] ∧ IsTb H v T ∧ GoodT T ∧ ∀ l us H', Same H H' → H' l = some (.lst us) → Lzs H' (l0 T.cs) us → Q (.ref l) H'
def spLinesW : Sp := fun vs H Q _ => ∃ (v : V) (T : Tb) (k : Nat), vs = [v, nV k] ∧ IsTb H v T ∧ GoodT T ∧ k ≤ 20 ∧ ∀ l us H', Same H H' → H' l = some (.lst us) → Lzs H' (lw k T.cs) us → Q (.ref l) H'
def rowsG (m : Nat) : Nat → List (List Nat)
  | 0 => [[]]
  | k + 1 => (rowsG m k).flatMap fun r => (List.range m).map fun o => r ++ [o]
theorem rowsG_len (m : Nat) : ∀ k, (rowsG m k).length = m ^ k
  | 0 => rfl
  | k + 1 => by
    have ih := rowsG_len m k
    show ((rowsG m k).flatMap fun r => (List.range m).map fun o => r ++ [o]).length = _
    rw [Nat.pow_succ, ← ih]
    generalize rowsG m k = rs
    induction rs with
    | nil => simp
    | cons r rs ih2 =>
      rw [List.flatMap_cons, List.length_append, ih2, List.length_map, List.length_range, List.length_cons, Nat.succ_mul]
      omega
theorem rowsG_mem {m : Nat} : ∀ {k : Nat} {r : List Nat}, r ∈ rowsG m k ↔ Tn.Rw m k r
  | 0, r => by
    show r ∈ [[]] ↔ _
    rw [List.mem_singleton]
    constructor
    · rintro rfl
      exact ⟨rfl, fun x hx => by cases hx⟩
    · intro h
      exact List.length_eq_zero_iff.mp h.1
  | k + 1, r => by
    show r ∈ (rowsG m k).flatMap _ ↔ _
    rw [List.mem_flatMap]
    constructor
    · rintro ⟨r', hr', h⟩
      obtain ⟨o, ho, rfl⟩ := List.mem_map.mp h
      obtain ⟨h1, h2⟩ := rowsG_mem.mp hr'
      refine ⟨by rw [List.length_append, h1]; rfl, fun x hx => ?_⟩
      rcases List.mem_append.mp hx with h | h
      · exact h2 x h
      · rw [List.mem_singleton.mp h]
        exact List.mem_range.mp ho
    · rintro ⟨h1, h2⟩
      rcases List.eq_nil_or_concat r with rfl | ⟨r', o, rfl⟩
      · cases h1
      rw [List.concat_eq_append] at *
      rw [List.length_append] at h1
      have h1 : r'.length + 1 = k + 1 := h1
      exact ⟨r', rowsG_mem.mpr ⟨by omega, fun x hx => h2 x (List.mem_append_left _ hx)⟩, List.mem_map.mpr ⟨o, List.mem_range.mpr (h2 o (by simp)), rfl⟩⟩
theorem len_sub {α : Type} [DecidableEq α] : ∀ (l ns : List α), l.Nodup → (∀ x ∈ l, x ∈ ns) → l.length ≤ ns.length
  | [], ns, _, _ => Nat.zero_le _
  | x :: l, ns, nd, h => by
    obtain ⟨n1, n2⟩ := List.nodup_cons.mp nd
    have hx := h x List.mem_cons_self
    have := len_sub l (ns.erase x) n2 fun y hy => (List.mem_erase_of_ne (fun (e : y = x) => n1 (e ▸ hy))).mpr (h y (List.mem_cons_of_mem _ hy))
    rw [List.length_erase_of_mem hx] at this
    have hp := List.length_pos_of_mem hx
    rw [List.length_cons]
    omega
theorem cols_few {m len : Nat} {cols : List (List Nat)} (nd : cols.Nodup) (h : ∀ c ∈ cols, GoodCol m len c) : cols.length ≤ m ^ len := by
  rw [← rowsG_len]
  exact len_sub _ _ nd fun c hc => rowsG_mem.mpr (h c hc)
theorem colK_inj : ∀ {a b : List Nat}, colK a = colK b → a = b
  | [], [], _ => rfl
  | [], _ :: _, h => by cases h
  | _ :: _, [], h => by cases h
  | x :: a, y :: b, h => by
    obtain ⟨h1, h2⟩ := List.cons.inj (show (Sum.inl ((x : Nat) : Int) : Key) :: colK a = (Sum.inl ((y : Nat) : Int) : Key) :: colK b from h)
    rw [colK_inj h2, Int.ofNat_inj.mp (Sum.inl.inj h1)]
theorem valT_iff {kvs : List (List Key × V)} {cols : List (List Nat)} (e : kvs.map Prod.fst = cols.map colK) (col : List Nat) : (valV kvs (colK col)).isSome = true ↔ col ∈ cols := by
  induction kvs generalizing cols with
  | nil =>
    cases cols with
    | nil => exact ⟨(fun h => by cases h), (fun h => by cases h)⟩
    | cons c cols => cases e
  | cons p kvs ih =>
    cases cols with
    | nil => cases e
    | cons c cols =>
      obtain ⟨e1, e2⟩ := List.cons.inj e
      by_cases h : c = col
      · subst h
        rw [valV_pos e1]
        exact ⟨fun _ => List.mem_cons_self, fun _ => rfl⟩
      · rw [valV_neg (fun z => h (colK_inj (e1.symm.trans z))), ih e2, List.mem_cons]
        exact ⟨.inr, fun z => z.elim (fun z => absurd z.symm h) id⟩
def FdH (H : Hp) (fd : Addr) (cols : List (List Nat)) (ls : List Ln) : Prop := ∃ kvs, H fd = some (.dT kvs) ∧ kvs.map Prod.fst = cols.map colK ∧ Lns H ls (kvs.map Prod.snd)
structure FdM (T : Tb) (LT : List Str) (len : Nat) (B cols : List (List Nat)) (ls : List Ln) : Prop where
  nd : cols.Nodup
  gc : ∀ c ∈ cols, GoodCol T.m len c
  sd : ∀ c ∈ cols, Sd T len B c
  gl : GoodL T LT ls
  ll : ls.length = cols.length
theorem FdH.same {H H' : Hp} {fd : Addr} {cols : List (List Nat)} {ls : List Ln} (h : FdH H fd cols ls) (s : Same H H') : FdH H' fd cols ls := by
  obtain ⟨kvs, h1, h2, h3⟩ := h
  exact ⟨kvs, s _ _ h1, h2, Lns.tk (Tk.of s) h3⟩
theorem keep_ok {H : Hp} {fd c : Addr} {col : List Nat} {lv : V} {l : Ln} {T : Tb} {LT : List Str} {len : Nat} {B cols : List (List Nat)} {ls : List Ln} (h : FdH H fd cols ls) (m : FdM T LT len B cols ls) (hc : H c = some (.tup (col.map nV))) (g : GoodCol T.m len col) (sd : Sd T len B col) (gl : GoodLn T LT cols.length l) (il : IsLn H l lv) (b : cols.length < 81) {Q : VK} {E : XK}
    (q : ∀ H' cols' ls', Off fd H H' → Tk H H' → FdH H' fd cols' ls' → FdM T LT len B cols' ls' → (∃ more, cols' = cols ++ more) → col ∈ cols' → Q .non H') : spKeep [.ref fd, .ref c, lv] H Q E := by
  obtain ⟨kvs, h1, h2, h3⟩ := h
  have kl : kvs.length = cols.length := by
    have := congrArg List.length h2
    rw [List.length_map, List.length_map] at this
    exact this
  have tk : ∀ o, Tk H (upd H fd o) := fun o b' xs hb => by
    rw [upd_ne (ne_of hb h1 (by intro z; cases z))]
    exact hb
  refine ⟨fd, c, col, kvs, lv, rfl, h1, hc, by omega, fun hs => ?_, fun hn => ?_⟩
  · exact q H cols ls Off.refl Tk.refl ⟨kvs, h1, h2, h3⟩ m ⟨[], (List.append_nil _).symm⟩ ((valT_iff h2 col).mp hs)
  · have hcn : col ∉ cols := fun hm => by
      have := (valT_iff h2 col).mpr hm
      rw [hn] at this
      cases this
    refine q _ (cols ++ [col]) (ls ++ [l]) Off.put (tk _) ⟨_, upd_same, by rw [List.map_append, List.map_append, h2]; rfl, ?_⟩ ⟨?_, ?_, ?_, ?_, ?_⟩ ⟨[col], rfl⟩ (by simp)
    · rw [List.map_append]
      exact Lns.snoc (Lns.tk (tk _) h3) (il.tk (tk _))
    · rw [List.nodup_append]
      exact ⟨m.nd, by simp, fun a ha b' hb => by rw [List.mem_singleton.mp hb]; exact fun z => hcn (z ▸ ha)⟩
    · intro x hx
      rcases List.mem_append.mp hx with hx | hx
      · exact m.gc x hx
      · rw [List.mem_singleton.mp hx]; exact g
    · intro x hx
      rcases List.mem_append.mp hx with hx | hx
      · exact m.sd x hx
      · rw [List.mem_singleton.mp hx]; exact sd
    · intro i x hx
      by_cases hi : i < ls.length
      · rw [List.getElem?_append_left hi] at hx
        exact m.gl i x hx
      · have hil := (List.getElem?_eq_some_iff.mp hx).1
        rw [List.length_append] at hil
        have hil : i < ls.length + 1 := hil
        have ei : i = ls.length := by omega
        rw [ei, List.getElem?_append_right (Nat.le_refl _), Nat.sub_self] at hx
        obtain rfl : l = x := by simpa using hx
        rw [ei, m.ll]
        exact gl
    · rw [List.length_append, List.length_append, m.ll]
      rfl
theorem ne_of_none' {H : Hp} {a b : Addr} {o : HO} (h : H b = some o) (n : H a = none) : a ≠ b := fun e => by rw [e, h] at n; cases n
theorem same_off {fd : Addr} {G H H' : Hp} (s : Same G H) (n : G fd = none) (o : Off fd H H') : Same G H' := fun b ob hb => o b ob (ne_of_none hb n) (s b ob hb)
theorem line_col (T : Tb) (len : Nat) (cols : List (List Nat)) (z : Str × List Nat) : lineV T len cols z = colV T len z.1 (z.2.map fun n => cols.getD n []) := by
  unfold lineV colV
  refine List.map_congr_left fun k _ => ?_
  rw [List.map_map]
  rfl
theorem line_pre (T : Tb) (len : Nat) {cols : List (List Nat)} (more : List (List Nat)) {z : Str × List Nat} (h : ∀ n ∈ z.2, n < cols.length) : lineV T len (cols ++ more) z = lineV T len cols z := by
  rw [line_col, line_col]
  congr 1
  refine List.map_congr_left fun n hn => ?_
  rw [List.getD_eq_getElem?_getD, List.getD_eq_getElem?_getD, List.getElem?_append_left (h n hn)]
theorem lw_mem {k : Nat} {cs : List Cn} {z : Str × List Nat} (h : z ∈ lw k cs) (p2 : ∀ c ∈ cs, c.pl ≤ 2) : (∀ n ∈ z.2, n ≤ k) ∧ ∃ c ∈ cs, c.nm = z.1 ∧ c.pl = z.2.length := by
  obtain ⟨c, hc, h⟩ := List.mem_flatMap.mp h
  unfold lwC at h
  rcases List.mem_append.mp h with h | h
  · split at h
    · rw [List.mem_singleton.mp h]
      exact ⟨fun n hn => by rw [List.mem_singleton.mp hn]; exact Nat.le_refl _, c, hc, rfl, by assumption⟩
    · cases h
  · split at h
    · rcases List.mem_append.mp h with h | h
      · obtain ⟨o, ho, rfl⟩ := List.mem_map.mp h
        have := List.mem_range.mp ho
        refine ⟨fun n hn => ?_, c, hc, rfl, by assumption⟩
        rcases List.mem_cons.mp hn with e | hn
        · omega
        · rw [List.mem_singleton.mp hn]
          omega
      · obtain ⟨o, ho, rfl⟩ := List.mem_map.mp h
        have := List.mem_range.mp ho
        refine ⟨fun n hn => ?_, c, hc, rfl, by assumption⟩
        rcases List.mem_cons.mp hn with e | hn
        · omega
        · rw [List.mem_singleton.mp hn]
          omega
    · cases h
theorem l0_mem {cs : List Cn} {z : Str × List Nat} (h : z ∈ l0 cs) : z.2 = [] ∧ ∃ c ∈ cs, c.nm = z.1 ∧ c.pl = z.2.length := by
  obtain ⟨c, hc, rfl⟩ := List.mem_map.mp h
  obtain ⟨h1, h2⟩ := List.mem_filter.mp hc
  exact ⟨rfl, c, h1, rfl, of_decide_eq_true h2⟩
theorem sd_line {T : Tb} {LT : List Str} {len : Nat} {B cols : List (List Nat)} {ls : List Ln} (m : FdM T LT len B cols ls) {z : Str × List Nat} (hz : ∀ n ∈ z.2, n < cols.length) (hc : ∃ c ∈ T.cs, c.nm = z.1 ∧ c.pl = z.2.length) : Sd T len B (lineV T len cols z) := by
  obtain ⟨c, hc, e1, e2⟩ := hc
  rw [line_col, ← e1]
  refine .op hc (by rw [List.length_map, e2]) fun a ha => ?_
  obtain ⟨n, hn, rfl⟩ := List.mem_map.mp ha
  rw [List.getD_eq_getElem?_getD, List.getElem?_eq_getElem (hz n hn)]
  exact m.sd _ (List.getElem_mem _)
theorem good_line {T : Tb} (g : GoodT T) (nd : (nmsOf T).Nodup) {len : Nat} {cols : List (List Nat)} (gc : ∀ c ∈ cols, GoodCol T.m len c) {z : Str × List Nat} (hz : ∀ n ∈ z.2, n < cols.length) (hc : ∃ c ∈ T.cs, c.nm = z.1 ∧ c.pl = z.2.length) : GoodCol T.m len (lineV T len cols z) := by
  obtain ⟨c, hc, e1, e2⟩ := hc
  unfold lineV
  refine ⟨by rw [List.length_map, List.length_range], fun x hx => ?_⟩
  obtain ⟨k, hk, rfl⟩ := List.mem_map.mp hx
  have hk := List.mem_range.mp hk
  rw [← e1]
  refine g.cell_lt nd hc ⟨by rw [List.length_map, e2], fun y hy => ?_⟩
  obtain ⟨n, hn, rfl⟩ := List.mem_map.mp hy
  have hn := hz n hn
  rw [List.getD_eq_getElem?_getD, List.getElem?_eq_getElem hn]
  exact (gc _ (List.getElem_mem hn)).at hk
theorem sd_in {T : Tb} (g : GoodT T) {len : Nat} {B cols : List (List Nat)} (hB : ∀ b ∈ B, b ∈ cols) (h0 : ∀ z ∈ l0 T.cs, lineV T len cols z ∈ cols) (hw : ∀ k, k < cols.length → ∀ z ∈ lw k T.cs, lineV T len cols z ∈ cols) {col : List Nat} (h : Sd T len B col) : col ∈ cols := by
  induction h with
  | base h => exact hB _ h
  | @op c args hc hl _ ih =>
    have p2 := (g.cn c hc).2.1
    have gd : ∀ {i : Nat} {a : List Nat}, cols[i]? = some a → cols.getD i [] = a := fun {i a} h => by rw [List.getD_eq_getElem?_getD, h]; rfl
    match args, hl, ih with
    | [], hl, _ =>
      have := h0 (c.nm, []) (List.mem_map.mpr ⟨c, List.mem_filter.mpr ⟨hc, decide_eq_true hl.symm⟩, rfl⟩)
      rw [line_col] at this
      exact this
    | [a], hl, ih =>
      obtain ⟨i, hi⟩ := List.mem_iff_getElem?.mp (ih a List.mem_cons_self)
      have := hw i (List.getElem?_eq_some_iff.mp hi).1 (c.nm, [i]) (List.mem_flatMap.mpr ⟨c, hc, List.mem_append_left _ (by rw [if_pos (show c.pl = 1 from hl.symm)]; exact List.mem_singleton.mpr rfl)⟩)
      rw [line_col, show ([i].map fun n => cols.getD n []) = [a] by rw [List.map_singleton, gd hi]] at this
      exact this
    | [a, b], hl, ih =>
      have hl' : c.pl = 2 := hl.symm
      obtain ⟨i, hi⟩ := List.mem_iff_getElem?.mp (ih a List.mem_cons_self)
      obtain ⟨j, hj⟩ := List.mem_iff_getElem?.mp (ih b (by simp))
      have li := (List.getElem?_eq_some_iff.mp hi).1
      have lj := (List.getElem?_eq_some_iff.mp hj).1
      have key : ∃ k, k < cols.length ∧ (c.nm, [i, j]) ∈ lw k T.cs := by
        by_cases hij : j ≤ i
        · refine ⟨i, li, List.mem_flatMap.mpr ⟨c, hc, List.mem_append_right _ ?_⟩⟩
          rw [if_pos hl']
          exact List.mem_append_left _ (List.mem_map.mpr ⟨j, List.mem_range.mpr (by omega), rfl⟩)
        · refine ⟨j, lj, List.mem_flatMap.mpr ⟨c, hc, List.mem_append_right _ ?_⟩⟩
          rw [if_pos hl']
          exact List.mem_append_right _ (List.mem_map.mpr ⟨i, List.mem_range.mpr (by omega), rfl⟩)
      obtain ⟨k, hk, hz⟩ := key
      have := hw k hk _ hz
      rw [line_col, show ([i, j].map fun n => cols.getD n []) = [a, b] by rw [List.map_cons, List.map_singleton, gd hi, gd hj]] at this
      exact this
    | _ :: _ :: _ :: _, hl, _ => simp at hl; omega
def PCs (H : Hp) : List (Str × List Nat) → List V → Prop := Paired fun p v => ∃ t u, v = .ref t ∧ H t = some (.tup [.str p.1, .ref u]) ∧ H u = some (.tup (p.2.map nV))
theorem PCs.tk {H H' : Hp} (k : Tk H H') {cs : List (Str × List Nat)} {us : List V} (h : PCs H cs us) : PCs H' cs us := Paired.imp' (fun _ _ ⟨t, u, e, h1, h2⟩ => ⟨t, u, e, k _ _ h1, k _ _ h2⟩) h
theorem PCs.snoc {H : Hp} {cs : List (Str × List Nat)} {us : List V} {p : Str × List Nat} {t u : Addr} (h : PCs H cs us) (h1 : H t = some (.tup [.str p.1, .ref u])) (h2 : H u = some (.tup (p.2.map nV))) : PCs H (cs ++ [p]) (us ++ [.ref t]) := by
  unfold PCs at h ⊢
  induction h with
  | nil => exact .cons ⟨t, u, rfl, h1, h2⟩ .nil
  | cons r _ ih => exact .cons r ih
def spAllSay : Sp := fun vs H Q _ => ∃ (v : V) (ct : Addr) (T : Tb) (cps : List (Str × List Nat)) (cvs : List V) (len : Nat), vs = [v, .ref ct, nV len] ∧ IsTb H v T ∧ GoodT T ∧ (nmsOf T).Nodup ∧ H ct = some (.tup cvs) ∧ PCs H cps cvs ∧ (∀ p ∈ cps, Ltr p.1 ∧ GoodCol T.m len p.2) ∧ len ≤ 9 ∧ T.m ^ len ≤ 16 ∧
  ∀ fd cols ls H', Same H H' → H fd = none → FdH H' fd cols ls → FdM T (cps.map Prod.fst) len (cps.map Prod.snd) cols ls → (∀ col, Sd T len (cps.map Prod.snd) col → col ∈ cols) → Q (.ref fd) H'
def spSay : Sp := fun vs H Q _ => ∃ (v : V) (ct wt : Addr) (T : Tb) (cps : List (Str × List Nat)) (cvs : List V) (wish : List Nat), vs = [v, .ref ct, .ref wt] ∧ IsTb H v T ∧ GoodT T ∧ (nmsOf T).Nodup ∧ H ct = some (.tup cvs) ∧ PCs H cps cvs ∧ (∀ p ∈ cps, Ltr p.1 ∧ GoodCol T.m wish.length p.2) ∧ H wt = some (.tup (wish.map nV)) ∧ 1 ≤ wish.length ∧ wish.length ≤ 9 ∧ T.m ^ wish.length ≤ 16 ∧
  (Sd T wish.length (cps.map Prod.snd) wish → ∀ t lt us H', Same H H' → H' t = some (.tup [.str "said", .ref lt]) → H' lt = some (.tup us) → us ≠ [] → Q (.ref t) H') ∧
  (¬ Sd T wish.length (cps.map Prod.snd) wish → ∀ t ut bs ks H', Same H H' → H' t = some (.tup [.str "unsaid", .ref ut]) → H' ut = some (.tup bs) → Paired (ColV H') ks bs → ks.Pairwise (fun x y => lexB x y = true) → (∀ col, col ∈ ks ↔ Sd T wish.length (cps.map Prod.snd) col) → ks.length ≤ 16 → Q (.ref t) H')
theorem ColVs.tk {H H' : Hp} (k : Tk H H') {cs : List (List Nat)} {us : List V} (h : Paired (ColV H) cs us) : Paired (ColV H') cs us := Paired.imp' (fun _ _ ⟨t, e, h⟩ => ⟨t, e, k _ _ h⟩) h
def spKept : Sp := fun vs H Q _ => ∃ (v : V) (g : Addr) (T : Tb) (G : List Nat), vs = [v, .ref g] ∧ IsTb H v T ∧ GoodT T ∧ Pt T.m G ∧ H g = some (.lst (G.map nV)) ∧ ∀ u U H', Same H H' → GoodT U → U.m = T.m → Sh T = Sh U → keepB U G = true → IsTb H' u U → Q u H'
def InG (m : Nat) (G : List Nat) (rs : List (List Nat)) (fs : List Nat) : Prop := ∀ r ∈ rs, (∀ x ∈ r, x ∈ G) → Tn.at' fs (Tn.place m r) ∈ G
theorem at_set {fs : List Nat} {P v Q : Nat} (hP : P < fs.length) : Tn.at' (fs.set P v) Q = if Q = P then v else Tn.at' fs Q := by
  unfold Tn.at'
  rw [List.getD_eq_getElem?_getD, List.getD_eq_getElem?_getD]
  by_cases h : Q = P
  · rw [h, if_pos rfl, List.getElem?_set_self hP]
    rfl
  · rw [if_neg h, List.getElem?_set_ne (fun z => h z.symm)]
theorem ing_set {m : Nat} {G : List Nat} {rs : List (List Nat)} {fs : List Nat} {P v : Nat} (h : InG m G rs fs) (hP : P < fs.length) (hv : v ∈ G) : InG m G rs (fs.set P v) := fun r hr hx => by
  rw [at_set hP]
  split
  · exact hv
  · exact h r hr hx
theorem ing_keep {m : Nat} {G : List Nat} {c : Cn} (h2 : c.pl ≤ 2) (hl : ∀ x ∈ G, x < m) (h : InG m G (Tn.rowsR m c.pl) c.cs) : keepC m G c = true := by
  rw [keep_rows h2, List.all_eq_true]
  intro r hr
  have hrw := Tn.rows_rw r hr
  have inG : ∀ x ∈ r.map (Tn.at' G), x ∈ G := fun x hx => by
    obtain ⟨y, hy, rfl⟩ := List.mem_map.mp hx
    exact List.mem_of_getElem? (Tn.at_map (hrw.2 y hy))
  have hrw2 : Tn.Rw m c.pl (r.map (Tn.at' G)) := ⟨by rw [List.length_map]; exact hrw.1, fun x hx => hl x (inG x hx)⟩
  exact decide_eq_true (h _ (List.mem_of_getElem? (rows_get h2 hrw2)) inG)
theorem turn_sh (T : Tb) (o : List Nat) : Sh T = Sh (turnT T o) := by
  unfold Sh turnT
  dsimp only
  rw [List.map_map]
  rfl
theorem turn_hom {T : Tb} {o : List Nat} (g : GoodT T) (nT : (nmsOf T).Nodup) (ho : Tn.Or T.m o) : Hom T (turnT T o) o := by
  have nP : (nmsOf (turnT T o)).Nodup := nms_sh (turn_sh T o) ▸ nT
  refine ⟨ho.len, ho.lt, turn_sh T o, fun c hc r hr => ?_, fun j hj => ?_⟩
  · have f1 := find_mem nT hc
    have hc' : (⟨c.nm, c.pl, Tn.tc T.m o c.pl c.cs⟩ : Cn) ∈ (turnT T o).cs := List.mem_map.mpr ⟨c, hc, rfl⟩
    have f2 : findC (turnT T o) c.nm = some ⟨c.nm, c.pl, Tn.tc T.m o c.pl c.cs⟩ := find_mem nP hc'
    unfold cellOf
    rw [f1, f2]
    exact (Tn.tc_row ho hr).symm
  · show _ ↔ _ ∈ Tn.tw T.m o T.ws
    rw [Tn.tw_mem]
    constructor
    · intro h
      exact ⟨ho.at_lt hj, by rw [ho.inv_r hj]; exact h⟩
    · intro h
      have := h.2
      rwa [ho.inv_r hj] at this
def spOrderL : Sp := fun vs H Q _ => ∃ (p : Addr) (m : Nat), vs = [.ref p, nV m] ∧ Wel H p ∧ 1 ≤ m ∧ m ≤ 9 ∧ ∀ l o H', Off p H H' → Wel H' p → Tn.Or m o → l ≠ p → H' l = some (.lst (o.map nV)) → Q (.ref l) H'
def spColumn : Sp := fun vs H Q _ => ∃ (c l : Addr) (col o : List Nat), vs = [.ref c, .ref l] ∧ H c = some (.tup (col.map nV)) ∧ H l = some (.lst (o.map nV)) ∧ col.length ≤ 9 ∧ (∀ x ∈ col, x < o.length) ∧ ∀ t H', Same H H' → H' t = some (.tup ((col.map fun x => Tn.at' o x).map nV)) → Q (.ref t) H'
theorem sort_nats {ms : List Int} {ks : List Nat} (pm : ms.Perm (ks.map fun (n : Nat) => (n : Int))) (pw : ms.Pairwise (· ≤ ·)) : ∃ ns : List Nat, ms.map V.int = ns.map nV ∧ ns.Perm ks ∧ ns.Pairwise (· ≤ ·) := by
  have nn : ∀ x ∈ ms, 0 ≤ x := fun x hx => by
    obtain ⟨n, _, rfl⟩ := List.mem_map.mp (pm.mem_iff.mp hx)
    omega
  refine ⟨ms.map Int.toNat, ?_, ?_, ?_⟩
  · rw [List.map_map]
    refine List.map_congr_left fun x hx => ?_
    show V.int x = V.int ((x.toNat : Nat) : Int)
    rw [Int.toNat_of_nonneg (nn x hx)]
  · have := pm.map Int.toNat
    rw [List.map_map] at this
    have e : ks.map (Int.toNat ∘ fun (n : Nat) => (n : Int)) = ks := by
      conv => rhs; rw [← List.map_id ks]
      exact List.map_congr_left fun n _ => Int.toNat_natCast n
    rw [e] at this
    exact this
  · rw [List.pairwise_map]
    exact pw.imp fun h => Int.toNat_le_toNat h
def spTurnL : Sp := fun vs H Q _ => ∃ (v : V) (g : Addr) (T : Tb) (o : List Nat), vs = [v, .ref g] ∧ IsTb H v T ∧ GoodT T ∧ Tn.Or T.m o ∧ H g = some (.lst (o.map nV)) ∧ ∀ u H', Same H H' → IsTb H' u (turnT T o) → Q u H'
def TrG (m : Nat) (o : List Nat) (k : Nat) (cs : List Nat) (rs : List (List Nat)) (fs : List Nat) : Prop := ∀ r ∈ rs, Tn.at' fs (Tn.place m (r.map (Tn.at' o))) = Tn.at' (Tn.tc m o k cs) (Tn.place m (r.map (Tn.at' o)))
theorem trg_all {m k : Nat} {o cs fs : List Nat} (k2 : k ≤ 2) (ho : Tn.Or m o) (c : Tn.Cs m k fs) (h : TrG m o k cs (Tn.rowsR m k) fs) : fs = Tn.tc m o k cs := by
  refine Tn.ext_at c.len (Tn.tc_len ..) fun i hi => ?_
  obtain ⟨r0, hr0, e0⟩ := Tn.row_of k i hi
  have hr : Tn.Rw m k (r0.map (Tn.at' (Tn.inv m o))) := ⟨by rw [List.length_map]; exact hr0.1, fun x hx => by
    obtain ⟨y, hy, rfl⟩ := List.mem_map.mp hx
    exact ho.inv_lt (hr0.2 y hy)⟩
  have e1 : (r0.map (Tn.at' (Tn.inv m o))).map (Tn.at' o) = r0 := by
    rw [List.map_map]
    conv => rhs; rw [← List.map_id r0]
    exact List.map_congr_left fun y hy => ho.inv_l (hr0.2 y hy)
  have := h _ (List.mem_of_getElem? (rows_get k2 hr))
  rw [e1, e0] at this
  exact this
def ordC (o col : List Nat) : List Nat := col.map (Tn.at' o)
theorem colV_ord {T : Tb} (g : GoodT T) (nT : (nmsOf T).Nodup) {o : List Nat} (ho : Tn.Or T.m o) {len : Nat} {c : Cn} (hc : c ∈ T.cs) {args : List (List Nat)} (hl : args.length = c.pl) (ga : ∀ a ∈ args, GoodCol T.m len a) : ordC o (colV T len c.nm args) = colV (turnT T o) len c.nm (args.map (ordC o)) := by
  unfold ordC colV
  rw [List.map_map]
  refine List.map_congr_left fun k hk => ?_
  have hk := List.mem_range.mp hk
  have hr : Tn.Rw T.m c.pl (args.map fun a => Tn.at' a k) := ⟨by rw [List.length_map]; exact hl, fun x hx => by
    obtain ⟨a, ha, rfl⟩ := List.mem_map.mp hx
    exact (ga a ha).at hk⟩
  show Tn.at' o (cellOf T c.nm (args.map fun a => Tn.at' a k)) = _
  rw [(turn_hom g nT ho).cell c hc _ hr, List.map_map, List.map_map]
  congr 1
  refine List.map_congr_left fun a ha => ?_
  show Tn.at' o (Tn.at' a k) = Tn.at' (a.map (Tn.at' o)) k
  have hak : k < a.length := by rw [(ga a ha).1]; exact hk
  unfold Tn.at'
  rw [List.getD_eq_getElem?_getD (l := a.map _), List.getElem?_map, List.getElem?_eq_getElem hak, List.getD_eq_getElem?_getD (l := a), List.getElem?_eq_getElem hak]
  rfl
theorem sd_good {T : Tb} (g : GoodT T) (nT : (nmsOf T).Nodup) {len : Nat} {B : List (List Nat)} (gB : ∀ b ∈ B, GoodCol T.m len b) {col : List Nat} (h : Sd T len B col) : GoodCol T.m len col := by
  induction h with
  | base h => exact gB _ h
  | @op c args hc hl _ ih =>
    unfold colV
    refine ⟨by rw [List.length_map, List.length_range], fun x hx => ?_⟩
    obtain ⟨k, hk, rfl⟩ := List.mem_map.mp hx
    have hk := List.mem_range.mp hk
    refine g.cell_lt nT hc ⟨by rw [List.length_map]; exact hl, fun y hy => ?_⟩
    obtain ⟨a, ha, rfl⟩ := List.mem_map.mp hy
    exact (ih a ha).at hk
theorem sd_ord {T : Tb} (g : GoodT T) (nT : (nmsOf T).Nodup) {o : List Nat} (ho : Tn.Or T.m o) {len : Nat} {B : List (List Nat)} (gB : ∀ b ∈ B, GoodCol T.m len b) {col : List Nat} (h : Sd T len B col) : Sd (turnT T o) len (B.map (ordC o)) (ordC o col) := by
  induction h with
  | base h => exact .base (List.mem_map.mpr ⟨_, h, rfl⟩)
  | @op c args hc hl hs ih =>
    rw [colV_ord g nT ho hc hl fun a ha => sd_good g nT gB (hs a ha)]
    refine .op (c := ⟨c.nm, c.pl, Tn.tc T.m o c.pl c.cs⟩) (List.mem_map.mpr ⟨c, hc, rfl⟩) (by rw [List.length_map]; exact hl) fun a ha => ?_
    obtain ⟨b, hb, rfl⟩ := List.mem_map.mp ha
    exact ih b hb
theorem sd_in_part {T : Tb} (g : GoodT T) (nT : (nmsOf T).Nodup) {G : List Nat} (hcell : ∀ c ∈ T.cs, ∀ r, r.length = c.pl → (∀ x ∈ r, x ∈ G) → cellOf T c.nm r ∈ G) {len : Nat} {B : List (List Nat)} (gB : ∀ b ∈ B, GoodCol T.m len b) (hB : ∀ b ∈ B, ∀ x ∈ b, x ∈ G) {col : List Nat} (h : Sd T len B col) : ∀ x ∈ col, x ∈ G := by
  induction h with
  | base h => exact hB _ h
  | @op c args hc hl hs ih =>
    intro x hx
    unfold colV at hx
    obtain ⟨k, hk, rfl⟩ := List.mem_map.mp hx
    have hk := List.mem_range.mp hk
    refine hcell c hc _ (by rw [List.length_map]; exact hl) fun y hy => ?_
    obtain ⟨a, ha, rfl⟩ := List.mem_map.mp hy
    exact ih a ha _ (List.mem_of_getElem? (at_get (by rw [(sd_good g nT gB (hs a ha)).1]; exact hk)))
theorem at_idx {G : List Nat} {x : Nat} (h : x ∈ G) : Tn.at' G (G.idxOf x) = x := by
  have hl := List.idxOf_lt_length_of_mem h
  unfold Tn.at'
  rw [List.getD_eq_getElem?_getD, List.getElem?_eq_getElem hl, List.getElem_idxOf]
  rfl
theorem keep_cell {T : Tb} (nT : (nmsOf T).Nodup) {G : List Nat} (hk : keepB T G = true) {c : Cn} (hc : c ∈ T.cs) (p2 : c.pl ≤ 2) {r : List Nat} (hl : r.length = c.pl) (hr : ∀ x ∈ r, x ∈ G) : cellOf T c.nm r ∈ G := by
  have h := keep_c hk hc
  rw [keep_rows p2, List.all_eq_true] at h
  have hr' : Tn.Rw G.length c.pl (r.map G.idxOf) := ⟨by rw [List.length_map]; exact hl, fun x hx => by
    obtain ⟨y, hy, rfl⟩ := List.mem_map.mp hx
    exact List.idxOf_lt_length_iff.mpr (hr y hy)⟩
  have := of_decide_eq_true (h _ (List.mem_of_getElem? (rows_get p2 hr')))
  have e : (r.map G.idxOf).map (Tn.at' G) = r := by
    rw [List.map_map]
    conv => rhs; rw [← List.map_id r]
    exact List.map_congr_left fun y hy => at_idx (hr y hy)
  rw [e] at this
  unfold cellOf
  rw [find_mem nT hc]
  exact this
theorem ord_back {m len : Nat} {o : List Nat} (ho : Tn.Or m o) {col : List Nat} (h : GoodCol m len col) : ordC (Tn.inv m o) (ordC o col) = col := by
  unfold ordC
  rw [List.map_map]
  conv => rhs; rw [← List.map_id col]
  exact List.map_congr_left fun y hy => ho.inv_r (h.2 y hy)
theorem ord_inj {m len : Nat} {o : List Nat} (ho : Tn.Or m o) {a b : List Nat} (ha : GoodCol m len a) (hb : GoodCol m len b) (e : ordC o a = ordC o b) : a = b := by
  rw [← ord_back ho ha, ← ord_back ho hb, e]
theorem ord_good {m len : Nat} {o : List Nat} (ho : Tn.Or m o) {col : List Nat} (h : GoodCol m len col) : GoodCol m len (ordC o col) := ⟨by unfold ordC; rw [List.length_map]; exact h.1, fun x hx => by
  obtain ⟨y, hy, rfl⟩ := List.mem_map.mp hx
  exact ho.lt _ (List.mem_of_getElem? (Tn.at_map (by rw [ho.len]; exact h.2 y hy)))⟩
theorem sd_back {T : Tb} (g : GoodT T) (nT : (nmsOf T).Nodup) {o : List Nat} (ho : Tn.Or T.m o) {len : Nat} {B : List (List Nat)} (gB : ∀ b ∈ B, GoodCol T.m len b) {col : List Nat} (h : Sd (turnT T o) len (B.map (ordC o)) col) : Sd T len B (ordC (Tn.inv T.m o) col) := by
  have nP : (nmsOf (turnT T o)).Nodup := nms_sh (turn_sh T o) ▸ nT
  have h2 := sd_ord (T := turnT T o) (o := Tn.inv T.m o) (g.turn ho) nP ho.inv (B := B.map (ordC o)) (fun b hb => by
    obtain ⟨a, ha, rfl⟩ := List.mem_map.mp hb
    exact ord_good ho (gB a ha)) h
  rw [turn_back g ho, List.map_map] at h2
  have e : B.map (ordC (Tn.inv T.m o) ∘ ordC o) = B := by
    conv => rhs; rw [← List.map_id B]
    exact List.map_congr_left fun b hb => ord_back ho (gB b hb)
  rw [e] at h2
  exact h2
theorem lex_unique {a b : List (List Nat)} (ha : a.Pairwise (fun x y => lexB x y = true)) (hb : b.Pairwise (fun x y => lexB x y = true)) (h : ∀ x, x ∈ a ↔ x ∈ b) : a = b := by
  have irr : ∀ x : List Nat, lexB x x = true → False := fun x e => by
    have := lex_asym x x e
    rw [e] at this
    cases this
  have nd : ∀ {l : List (List Nat)}, l.Pairwise (fun x y => lexB x y = true) → l.Nodup := fun {l} h => List.Pairwise.imp (fun {x y} (e : lexB x y = true) (z : x = y) => irr y (by rw [z] at e; exact e)) h
  exact List.Perm.eq_of_pairwise (le := fun x y => lexB x y = true) (fun x y _ _ h1 h2 => by rw [lex_asym _ _ h1] at h2; cases h2) ha hb ((List.perm_ext_iff_of_nodup (nd ha) (nd hb)).mpr h)
theorem comp_ll2 {K : PySem.W.Frag} {a : Addr} {n : Nat} {xs : List V} {ad : Nat → Addr} {v1 v2 : Nat → V} {tt : TT} {te : TE} {H1 : Hp} {Q : VK} {D : Addr} {more : St} (P : Nat → List V → Hp → Prop) (h0 : P 0 [] (upd H1 D (.lst []))) (hn : xs.length = n) (hx : ∀ i, i < n → xs[i]? = some (.ref (ad i)))
    (hl : ∀ i ys H, P i ys H → H D = some (.lst ys) → SqL K H a xs) (ht : ∀ i ys H, i < n → P i ys H → SqT K H (ad i) [v1 i, v2 i])
    (hs : ∀ i ys H, i < n → P i ys H → H D = some (.lst ys) → tt (some (v1 i) :: some (v2 i) :: more) H fun b H4 => if b = true then te (some (v1 i) :: some (v2 i) :: more) H4 (cYes (fun σ => ∃ x y, σ = x :: y :: more) P n D (some (v1 i) :: some (v2 i) :: more) i) else cNo (fun σ => ∃ x y, σ = x :: y :: more) P n D (some (v1 i) :: some (v2 i) :: more) i H4)
    (hd : ∀ ys H, P n ys H → H D = some (.lst ys) → Q (.ref D) H) :
    CompGo (Itl K a) (gTup K 2 (gCons (gName 0) (gCons (gName 1) gNil))) tt te (none :: none :: more) H1 Q D := by
  refine comp_gen (xv := fun i => .ref (ad i)) (st := fun i => some (v1 i) :: some (v2 i) :: more) (fun σ => ∃ x y, σ = x :: y :: more) P ⟨_, _, rfl⟩ h0 (fun i ys H hi p hD => ⟨⟨xs, _, hl i ys H p hD, hx i hi⟩, fun x H2 y => ⟨y.1, ?_⟩⟩) (fun ys H p hD => ⟨xs, hl _ ys H p hD, Nat.le_of_eq hn⟩)
    (fun i ys σ' H K' hi r p k => ?_) hs hd
  · have e := y.2 xs (hl i ys H p hD)
    rw [hx i hi] at e
    exact (Option.some.inj e).symm
  · obtain ⟨x, y, rfl⟩ := r
    exact ⟨ad i, _, rfl, ht i ys H hi p, rfl, _, _, rfl, _, _, rfl, rfl, k⟩
theorem ord_fwd {m len : Nat} {o : List Nat} (ho : Tn.Or m o) {col : List Nat} (h : GoodCol m len col) : ordC o (ordC (Tn.inv m o) col) = col := by
  unfold ordC
  rw [List.map_map]
  conv => rhs; rw [← List.map_id col]
  exact List.map_congr_left fun y hy => ho.inv_l (h.2 y hy)
theorem colv_alike {H : Hp} {pts : List (List Nat)} : ∀ {xs ys : List V}, Paired (ColV H) pts xs → Paired (ColV H) pts ys → Paired (Alike H 2) xs ys := by
  have flat : ∀ ns : List Nat, Paired (Alike H 1) (ns.map nV) (ns.map nV) := fun ns => by
    induction ns with
    | nil => exact .nil
    | cons n ns ih => exact .cons (.inl ⟨rfl, rfl⟩) ih
  induction pts with
  | nil =>
    intro xs ys h k
    cases h
    cases k
    exact .nil
  | cons p pts ih =>
    intro xs ys h k
    cases h with
    | cons r t =>
      cases k with
      | cons r' t' =>
        obtain ⟨a, rfl, ha⟩ := r
        obtain ⟨b, rfl, hb⟩ := r'
        exact .cons (.inr ⟨a, b, _, _, rfl, rfl, ha, hb, flat p⟩) (ih t t')
theorem paired_app {α β : Type} {F : α → β → Prop} {a b : List α} {c d : List β} (h : Paired F a c) (k : Paired F b d) : Paired F (a ++ b) (c ++ d) := by
  induction h with
  | nil => exact k
  | cons r _ ih => exact .cons r ih
def spRight28 : Sp := fun vs H Q _ => ∃ (p : Addr), vs = [.ref p] ∧ Wel H p ∧ ∀ H', Off p H H' → Q (.bl true) H'
def top (i : Nat) : Stmt := PySem.Challenge.pw_truthgrades_k28_whole_kept_and_turned.main.body.getD i (.Pass ⟨0, 0, 0, 0⟩)
structure Gb (mg : Str → Option Value) : Prop where
  «abs» : mg "abs" = none
  «range» : mg "range" = none
  «tuple» : mg "tuple" = none
  «list» : mg "list" = none
  «isinstance» : mg "isinstance" = none
  «int» : mg "int" = none
  «str» : mg "str" = none
  «len» : mg "len" = none
  «min» : mg "min" = none
  «max» : mg "max" = none
  «all» : mg "all" = none
  «any» : mg "any" = none
  «bool» : mg "bool" = none
  «divmod» : mg "divmod" = none
  «dict» : mg "dict" = none
  «sorted» : mg "sorted" = none
  «reversed» : mg "reversed" = none
  «zip» : mg "zip" = none
  «MOST_COLUMNS» : ∃ u, mg "MOST_COLUMNS" = some u ∧ RelV (.int 81) u
abbrev s_has_small_letters_alone : Stmt := top 5
theorem sc_has_small_letters_alone : FnScope ["text"] ["text"] (defScope s_has_small_letters_alone) := ⟨rfl, rfl, rfl, by decide +kernel, rfl, by decide +kernel, by decide +kernel⟩
theorem ok_has_small_letters_alone {P : Program} {w : World} {K : PySem.W.Frag} {mg : Str → Option Value} {base : Heap} {f : Addr} {fd : FuncData} (F : Fun K "has_small_letters_alone" "has_small_letters_alone" s_has_small_letters_alone f fd) (gb : Gb mg) : FnOk P w K mg base CX0 1 f fd ["text"] spSmall := by
  refine F.ok sc_has_small_letters_alone (fun vs H Q E h => ?_) (fun cdv A outer s H vs Q E hr h => ?_)
  · obtain ⟨x, rfl, _⟩ := h
    rfl
  obtain ⟨x, rfl, hs, hl, q⟩ := h
  have nd0 : (["sign"] : List Str).Nodup := by decide +kernel
  refine ⟨_, (@pss_one _ _ _ (@ps_ret _ _ _ _ (@pe_callB _ _ _ _ _ _ _ _ _ (@kcall_all _ K rfl (by rfl)) rfl gb.all bt_all (@pa_cons _ _ _ _ _ (@pe_comp _ ["sign"] [none] _ _ _ _ _ _ _ _ _ _ (by exact (show CompOk ["text"] (defScope s_has_small_letters_alone) ["sign"] [none] _ from ⟨rfl, by decide +kernel, by decide +kernel, by decide +kernel, by decide +kernel, rfl, by decide +kernel⟩)) rfl (@pi_str _ _ _ _ (@pv _ 0 _ _ (by rfl) (by walk_at "v") (by decide) (by decide))) (fun _ _ _ _ => (@pg_name _ _ 0 _ nd0 rfl (Or.inl rfl) (by walk_at "f"))) (fun _ _ _ _ => (@pf_nil _)) (fun _ _ _ _ => (@pe_chain _ _ _ _ _ _ _ _ _ _ _ _ (@op_le_str _) (@op_le_str _) (@pe_str _ _ _ _) (@pv _ 0 _ _ (by rfl) (by walk_at "v") (by decide) (by decide)) (@pe_str _ _ _ _) (by with_unfolding_all rfl))) (by intro _; rfl)) (@pa_nil _) (by rfl)) (by decide) (by decide) (by rfl) (by rfl)))), ?_⟩
  refine ⟨_, rfl, x, rfl, fun D hD => ?_⟩
  refine map_str (h := fun _ => .bl true) (by omega) hD (fun c hc H' Q' s1 q' => ?_) (fun H' s1 hD' => ?_)
  · obtain ⟨c0, c1⟩ := hs c hc
    refine ⟨_, rfl, _, _, rfl, rfl, _, rfl, ?_⟩
    have e1 : (!decide ((Str.mk #[c]).cps.toList < (Str.ofString "a").cps.toList)) = true := by
      have : (Str.ofString "a").cps.toList = [97] := by decide +kernel
      rw [this]
      simp [List.cons_lt_cons_iff]
      omega
    have e2 : (!decide ((Str.ofString "z").cps.toList < (Str.mk #[c]).cps.toList)) = true := by
      have : (Str.ofString "z").cps.toList = [122] := by decide +kernel
      rw [this]
      simp [List.cons_lt_cons_iff]
      omega
    rw [if_pos e1]
    refine ⟨_, _, rfl, rfl, ?_⟩
    rw [e2]
    exact q' _ Same.rfl'
  · rw [trues] at hD'
    refine ⟨D, _, rfl, SqL.of hD', ?_⟩
    rw [all_trues]
    exact q _ s1
abbrev s_is_letter : Stmt := top 4
theorem sc_is_letter : FnScope ["thing"] ["thing"] (defScope s_is_letter) := ⟨rfl, rfl, rfl, by decide +kernel, rfl, by decide +kernel, by decide +kernel⟩
theorem ok_is_letter {P : Program} {w : World} {K : PySem.W.Frag} {mg : Str → Option Value} {base : Heap} {f : Addr} {fd : FuncData} (F : Fun K "is_letter" "is_letter" s_is_letter f fd) (gb : Gb mg) (d_has_small_letters_alone : Def P w K mg base 1 "has_small_letters_alone" ["text"] spSmall) : FnOk P w K mg base CX0 2 f fd ["thing"] spIsLn := by
  refine F.ok sc_is_letter (fun vs H Q E h => ?_) (fun cdv A outer s H vs Q E hr h => ?_)
  · obtain ⟨v, l, rfl, _⟩ := h
    rfl
  obtain ⟨v, l, rfl, ih, hl, q⟩ := h
  refine ⟨_, (@pss_one _ _ _ (@ps_ret _ _ _ _ (@pe_and _ _ _ _ _ _ _ (@pe_callB _ _ _ _ _ _ _ _ _ (@kcall_isiT _ K (by rfl)) rfl gb.isinstance bt_isinstance (@pa_cons _ _ _ _ _ (@pv _ 0 _ _ (by rfl) (by walk_at "v") (by decide) (by decide)) (@pa_cons _ _ _ _ _ (@pe_bltn _ _ (.ty "str") _ _ rfl gb.str bt_str rfl (by decide) (by decide)) (@pa_nil _) (by rfl)) (by rfl)) (by decide) (by decide) (by rfl) (by rfl)) (@pe_and _ _ _ _ _ _ _ (@pe_cmpR _ _ _ _ _ _ _ _ (@op_eq _) (@pe_callB _ _ _ _ _ _ _ _ _ (@kcall_len _ K (by rfl)) rfl gb.len bt_len (@pa_cons _ _ _ _ _ (@pv _ 0 _ _ (by rfl) (by walk_at "v") (by decide) (by decide)) (@pa_nil _) (by rfl)) (by decide) (by decide) (by rfl) (by rfl)) (@pe_int _ _ _ _) (@nomark _ _ (by decide) (by decide))) (@pe_one _ _ _ _ _ (@pe_def _ _ _ _ _ _ _ _ _ _ _ d_has_small_letters_alone hr (by omega) rfl (@pa_cons _ _ _ _ _ (@pv _ 0 _ _ (by rfl) (by walk_at "v") (by decide) (by decide)) (@pa_nil _) (by rfl)) (by decide) (by rfl) (by rfl))))))), ?_⟩
  refine ⟨_, rfl, ?_⟩
  cases l with
  | inl x =>
    obtain rfl : v = .str x := ih
    obtain ⟨l1, sm⟩ := hl x rfl
    refine ⟨_, _, _, true, rfl, .str _, kit_same "str", true, rfl, iteT ?_⟩
    refine ⟨_, rfl, _, x.length, rfl, ⟨small9 (by omega), rfl⟩, rfl, true, ?_, iteT ?_⟩
    · rw [l1]
      rfl
    · exact ⟨_, rfl, x, rfl, sm, by omega, fun H' s1 => q H' s1⟩
  | inr z =>
    obtain ⟨t, rfl, ht⟩ := ih
    exact ⟨_, _, _, false, rfl, .tup ht, kit_str (K := K) (.tup []), false, rfl, iteF (q H (Same.refl H))⟩
abbrev s_needed_lines : Stmt := top 7
theorem sc_needed_lines : FnScope ["lines", "needed", "waiting", "number"] ["lines"] (defScope s_needed_lines) := ⟨rfl, rfl, rfl, by decide +kernel, rfl, by decide +kernel, by decide +kernel⟩
theorem ok_needed_lines {P : Program} {w : World} {K : PySem.W.Frag} {mg : Str → Option Value} {base : Heap} {f : Addr} {fd : FuncData} (F : Fun K "needed_lines" "needed_lines" s_needed_lines f fd) (gb : Gb mg) (d_is_letter : Def P w K mg base 2 "is_letter" ["thing"] spIsLn) : FnOk P w K mg base CX0 3 f fd ["lines"] spNeed := by
  refine F.ok sc_needed_lines (fun vs H Q E h => ?_) (fun cdv A outer s H vs Q E hr h => ?_)
  · obtain ⟨lt, us, ls, T, LT, rfl, _⟩ := h
    rfl
  obtain ⟨lt, us, ls, T, LT, rfl, hlt, hls, hG, g2, hL, l1, l20, q⟩ := h
  refine ⟨_, (@pss_cons _ _ _ _ _ (@ps_set _ _ 1 _ _ _ _ sc_needed_lines.nd rfl (Or.inl rfl) (@pe_dnewK _ _) (by rfl) (by walk_at "f")) (@pss_cons _ _ _ _ _ (@ps_set _ _ 2 _ _ _ _ sc_needed_lines.nd rfl (Or.inl rfl) (@pe_lst _ _ _ _ (@pa_cons _ _ _ _ _ (@pe_op _ _ _ _ _ _ _ _ (@op_sub _) (@pe_callB _ _ _ _ _ _ _ _ _ (@kcall_len _ K (by rfl)) rfl gb.len bt_len (@pa_cons _ _ _ _ _ (@pv _ 0 _ _ (by rfl) (by walk_at "v") (by decide) (by decide)) (@pa_nil _) (by rfl)) (by decide) (by decide) (by rfl) (by rfl)) (@pe_int _ _ _ _)) (@pa_nil _) (by rfl))) (by rfl) (by walk_at "f")) (@pss_cons _ _ _ _ _ (@ps_while _ _ _ _ _ _ PassesOwn.never (@pt_cmpR _ _ _ _ _ _ _ _ (@op_gt _) (@pe_callB _ _ _ _ _ _ _ _ _ (@kcall_len _ K (by rfl)) rfl gb.len bt_len (@pa_cons _ _ _ _ _ (@pv _ 2 _ _ (by rfl) (by walk_at "v") (by decide) (by decide)) (@pa_nil _) (by rfl)) (by decide) (by decide) (by rfl) (by rfl)) (@pe_int _ _ _ _) (@nomark _ _ (by decide) (by decide))) (@pss_cons _ _ _ _ _ (@ps_set _ _ 3 _ _ _ _ sc_needed_lines.nd rfl (Or.inl rfl) (@kpe_bm0 _ K _ _ _ _ _ _ _ _ PySem.F.plainAttrs_list PySem.F.slot_list_pop PySem.F.type_list_pop (@mt_pop _) (@pv _ 2 _ _ (by rfl) (by walk_at "v") (by decide) (by decide)) (by rfl) (by rfl) (by rfl)) (by rfl) (by walk_at "f")) (@pss_one _ _ _ (@ps_if _ _ _ _ _ _ _ _ (@pt_cmpR _ _ _ _ _ _ _ _ (@op_kNotIn _ _ hr) (@pv _ 3 _ _ (by rfl) (by walk_at "v") (by decide) (by decide)) (@pv _ 1 _ _ (by rfl) (by walk_at "v") (by decide) (by decide)) (by with_unfolding_all rfl)) (@pss_cons _ _ _ _ _ (@ps_kput _ _ _ _ _ _ _ _ _ _ hr (@pv _ 1 _ _ (by rfl) (by walk_at "v") (by decide) (by decide)) (@pv _ 3 _ _ (by rfl) (by walk_at "v") (by decide) (by decide)) (@pe_bl _ _ _ _) rfl) (@pss_one _ _ _ (@ps_if _ _ _ _ _ _ _ _ (@pt_not _ _ _ _ (@pt_val _ _ _ (@pe_def _ _ _ _ _ _ _ _ _ _ _ d_is_letter hr (by omega) rfl (@pa_cons _ _ _ _ _ (@pe_ix _ _ _ _ _ _ _ (@kix_seq _ K (by rfl)) (@pv _ 0 _ _ (by rfl) (by walk_at "v") (by decide) (by decide)) (@pv _ 3 _ _ (by rfl) (by walk_at "v") (by decide) (by decide)) (fun _ _ => rfl)) (@pa_nil _) (by rfl)) (by decide) (by rfl) (by rfl)) (by intro _; rfl))) (@pss_one _ _ _ (@ps_expr _ _ _ _ (@kpe_bm _ K _ _ _ _ _ _ _ _ _ _ _ PySem.F.plainAttrs_list PySem.F.slot_list_extend PySem.F.type_list_extend (@mt_extend _) (@pv _ 2 _ _ (by rfl) (by walk_at "v") (by decide) (by decide)) (@pa_cons _ _ _ _ _ (@pe_listRev _ K _ _ _ _ _ _ rfl gb.list rfl gb.reversed (@pa_cons _ _ _ _ _ (@pe_slice _ _ _ _ _ _ _ _ _ _ (@kslT _ K (by rfl)) (@pe_ix _ _ _ _ _ _ _ (@kix_seq _ K (by rfl)) (@pv _ 0 _ _ (by rfl) (by walk_at "v") (by decide) (by decide)) (@pv _ 3 _ _ (by rfl) (by walk_at "v") (by decide) (by decide)) (fun _ _ => rfl)) (@po_some _ _ _ (@pe_int _ _ _ _)) (@po_none _)) (@pa_nil _) (by rfl)) (by rfl) (by rfl) (by rfl) (by rfl)) (@pa_nil _) (by rfl)) (by rfl) (by rfl) (by rfl) (by rfl) (by rfl) (by rfl)) (by rfl))) (@pss_nil _)))) (@pss_nil _))))) (@pss_one _ _ _ (@ps_ret _ _ _ _ (@pe_callTy _ _ _ _ _ _ _ _ _ (@call_listD _ rfl) rfl gb.list bt_list (@pa_cons _ _ _ _ _ (@pv _ 1 _ _ (by rfl) (by walk_at "v") (by decide) (by decide)) (@pa_nil _) (by rfl)) (by decide) (by decide) (by rfl) (by rfl))))))), ?_⟩
  refine fun nd hnd => ?_
  have n1 := same_new hnd (.dK [])
  have hul := Paired.length hls
  refine ⟨_, rfl, _, _, rfl, .inl ⟨_, SqL.of (n1 _ _ hlt), rfl⟩, _, _, rfl, rfl, small9 (by show 1 ≤ 1000; decide), fun wa hwa => ?_⟩
  dsimp only
  have ew : V.int (((us.length : Nat) : Int) - 1) = nV (ls.length - 1) := by
    show V.int _ = V.int _
    congr 1
    omega
  rw [ew]
  have n2 := same_new hwa (.lst [nV (ls.length - 1)])
  have nw : nd ≠ wa := ne_of_none upd_same hwa
  refine ⟨fun m σ H' => (∃ x3, σ = [some (.ref lt), some (.ref nd), some (.ref wa), x3]) ∧ Same H H' ∧ ∃ ns ws : List Nat, H' nd = some (.dK (nd1 ns)) ∧ H' wa = some (.lst (ws.map nV)) ∧ ns.Nodup ∧ (∀ n ∈ ns, n < ls.length) ∧ (∀ n ∈ ws, n < ls.length) ∧ (ls.length - 1 ∈ ns ∨ ls.length - 1 ∈ ws) ∧ (∀ n ∈ ns, ∀ z, ls[n]? = some (.inr z) → ∀ k ∈ z.2, k ∈ ns ∨ k ∈ ws) ∧ m = 3 * (ls.length - ns.length) + ws.length ∧ m ≤ 100, ⟨_, ⟨_, rfl⟩, n1.trans n2, [], [ls.length - 1], n2 _ _ upd_same, upd_same, .nil, (fun n hn => by cases hn), (fun n hn => by rw [List.mem_singleton.mp hn]; omega), .inr (List.mem_singleton.mpr rfl), (fun n hn => by cases hn), rfl, by show 3 * (ls.length - 0) + 1 ≤ 100; omega⟩, ?_⟩
  rintro m σ H1 ⟨⟨x3, rfl⟩, s1, ns, ws, hnd1, hwa1, nN, nlt, wlt, hlast, hcl, hm, m100⟩
  have nsl := Tn.nodup_len ls.length ns nN nlt
  refine ⟨_, rfl, _, _, rfl, .inl ⟨_, SqL.of hwa1, rfl⟩, _, _, rfl, rfl, _, rfl, ?_⟩
  rw [List.length_map]
  rcases List.eq_nil_or_concat ws with rfl | ⟨ws, k, rfl⟩
  · refine iteDF rfl ?_
    refine ⟨_, rfl, nd, _, rfl, hnd1, by unfold nd1; rw [List.length_map]; omega, fun l hl => ?_⟩
    rw [nd1_keys]
    refine q l ns _ (s1.trans (same_new hl _)) upd_same ⟨nN, nlt, hlast.elim id (fun h => by cases h), fun n hn z hz j hj => (hcl n hn z hz j hj).elim id (fun h => by cases h)⟩
  rw [List.concat_eq_append] at *
  refine iteDT (decide_eq_true (by rw [List.length_append]; show (0 : Int) < ((ws.length + 1 : Nat) : Int); omega)) ?_
  rw [List.length_append] at hm
  have hm : m = 3 * (ls.length - ns.length) + (ws.length + 1) := hm
  have klt := wlt k (by simp)
  have wlt' : ∀ n ∈ ws, n < ls.length := fun n hn => wlt n (List.mem_append_left _ hn)
  refine ⟨fun σ' H' => ∃ m', m' < m ∧ ((∃ x3, σ' = [some (.ref lt), some (.ref nd), some (.ref wa), x3]) ∧ Same H H' ∧ ∃ ns ws : List Nat, H' nd = some (.dK (nd1 ns)) ∧ H' wa = some (.lst (ws.map nV)) ∧ ns.Nodup ∧ (∀ n ∈ ns, n < ls.length) ∧ (∀ n ∈ ws, n < ls.length) ∧ (ls.length - 1 ∈ ns ∨ ls.length - 1 ∈ ws) ∧ (∀ n ∈ ns, ∀ z, ls[n]? = some (.inr z) → ∀ k ∈ z.2, k ∈ ns ∨ k ∈ ws) ∧ m' = 3 * (ls.length - ns.length) + ws.length ∧ m' ≤ 100), fun σ' H' h => h, ?_⟩
  refine ⟨_, rfl, .inl ⟨rfl, _, SqL.of hwa1⟩, wa, _, nV k, rfl, rfl, hwa1, by simp, ?_⟩
  rw [show (List.map nV (ws ++ [k])).dropLast = ws.map nV by rw [List.map_append]; simp]
  have hnd2 : (upd H1 wa (.lst (ws.map nV))) nd = some (.dK (nd1 ns)) := by rw [upd_ne nw]; exact hnd1
  have s2 : Same H (upd H1 wa (.lst (ws.map nV))) := s1.put (n1.free hwa)
  have hwa2 : (upd H1 wa (.lst (ws.map nV))) wa = some (.lst (ws.map nV)) := upd_same
  generalize upd H1 wa (.lst (ws.map nV)) = H2 at *
  refine ⟨_, rfl, _, rfl, nd, _, Sum.inl (k : Int), rfl, rfl, hnd2, ?_⟩
  rw [nd1_val]
  by_cases hk : k ∈ ns
  · rw [decide_eq_true hk]
    refine ⟨_, rfl, iteF ⟨m - 1, by omega, ⟨_, rfl⟩, s2, ns, ws, hnd2, hwa2, nN, nlt, wlt', ?_, fun n hn z hz j hj => ?_, by omega, by omega⟩⟩
    · rcases hlast with h | h
      · exact .inl h
      · rcases List.mem_append.mp h with h | h
        · exact .inr h
        · rw [List.mem_singleton.mp h]
          exact .inl hk
    · rcases hcl n hn z hz j hj with h | h
      · exact .inl h
      · rcases List.mem_append.mp h with h | h
        · exact .inr h
        · rw [List.mem_singleton.mp h]
          exact .inl hk
  rw [decide_eq_false hk]
  refine ⟨_, rfl, iteT ?_⟩
  have nN' : (ns ++ [k]).Nodup := List.nodup_append.mpr ⟨nN, by simp, fun a ha b hb e => hk (by rw [← List.mem_singleton.mp hb, ← e]; exact ha)⟩
  have nlt' : ∀ n ∈ ns ++ [k], n < ls.length := fun n hn => by
    rcases List.mem_append.mp hn with h | h
    · exact nlt n h
    · rw [List.mem_singleton.mp h]
      exact klt
  have nsl' := Tn.nodup_len ls.length (ns ++ [k]) nN' nlt'
  rw [List.length_append] at nsl'
  have nsl' : ns.length + 1 ≤ ls.length := nsl'
  refine ⟨_, rfl, _, rfl, nd, _, Sum.inl (k : Int), rfl, rfl, hnd2, by unfold nd1; rw [List.length_map]; exact small1000 (by omega), ?_⟩
  rw [nd1_put hk]
  have s3 : Same H (upd H2 nd (.dK (nd1 (ns ++ [k])))) := s2.put hnd
  have hnd3 : (upd H2 nd (.dK (nd1 (ns ++ [k])))) nd = some (.dK (nd1 (ns ++ [k]))) := upd_same
  have hwa3 : (upd H2 nd (.dK (nd1 (ns ++ [k])))) wa = some (.lst (ws.map nV)) := by rw [upd_ne (Ne.symm nw)]; exact hwa2
  generalize upd H2 nd (.dK (nd1 (ns ++ [k]))) = H3 at *
  have hlk : ls[k]? = some ls[k] := List.getElem?_eq_getElem klt
  generalize ls[k] = l at hlk
  have huk : us[k]? = some us[k] := List.getElem?_eq_getElem (by omega)
  generalize us[k] = u at huk
  have iu := Paired.at hls k _ _ hlk huk
  have last' : ls.length - 1 ∈ ns ++ [k] ∨ ls.length - 1 ∈ ws := by
    rcases hlast with h | h
    · exact .inl (List.mem_append_left _ h)
    · rcases List.mem_append.mp h with h | h
      · exact .inr h
      · exact .inl (List.mem_append_right _ h)
  have old : ∀ n ∈ ns, ∀ z, ls[n]? = some (.inr z) → ∀ j ∈ z.2, j ∈ ns ++ [k] ∨ j ∈ ws := fun n hn z hz j hj => by
    rcases hcl n hn z hz j hj with h | h
    · exact .inl (List.mem_append_left _ h)
    · rcases List.mem_append.mp h with h | h
      · exact .inr h
      · exact .inl (List.mem_append_right _ h)
  refine ⟨_, rfl, _, rfl, .inl ⟨lt, _, _, _, rfl, rfl, SqL.of (s3 _ _ hlt), atI_nat huk, ?_⟩⟩
  refine ⟨u, l, rfl, iu.tk (Tk.of s3), hG.ltr hL hlk, fun H4 s4 => ⟨_, rfl, ?_⟩⟩
  cases l with
  | inl x =>
    have dec : 3 * (ls.length - (ns ++ [k]).length) + ws.length < m := by
      rw [List.length_append]
      show 3 * (ls.length - (ns.length + 1)) + ws.length < m
      omega
    refine iteF ⟨3 * (ls.length - (ns ++ [k]).length) + ws.length, dec, ⟨_, rfl⟩, s3.trans s4, ns ++ [k], ws, s4 _ _ hnd3, s4 _ _ hwa3, nN', nlt', wlt', last', fun n hn z hz j hj => ?_, rfl, by omega⟩
    rcases List.mem_append.mp hn with h | h
    · exact old n h z hz j hj
    · rw [List.mem_singleton.mp h, hlk] at hz
      cases hz
  | inr z =>
    refine iteT ?_
    obtain ⟨t, rfl, ht⟩ := iu
    have ht4 := (s3.trans s4) _ _ ht
    obtain ⟨zb, c, hc, cn, cp⟩ := hG k _ hlk
    have z2 : z.2.length ≤ 2 := by
      have := g2 c hc
      omega
    have dec : 3 * (ls.length - (ns ++ [k]).length) + (ws ++ z.2.reverse).length < m := by
      rw [List.length_append, List.length_append, List.length_reverse]
      show 3 * (ls.length - (ns.length + 1)) + (ws.length + z.2.length) < m
      omega
    refine ⟨_, rfl, .inl ⟨rfl, _, SqL.of (s4 _ _ hwa3)⟩, _, rfl, _, rfl, .inl ⟨lt, _, _, _, rfl, rfl, SqL.of ((s3.trans s4) _ _ hlt), atI_nat huk, _, rfl, ?_⟩⟩
    refine slT_of ht4 fun t5 H5 s5 ht5 => ?_
    rw [cut_drop1 (by simp)] at ht5
    refine ⟨t5, z.2.map nV, rfl, SqT.of ht5, by rw [List.length_map]; omega, fun l6 hl6 => ?_⟩
    have n6 := same_new hl6 (.lst (z.2.map nV).reverse)
    have s6 := s4.trans (s5.trans n6)
    have hw6 := s6 _ _ hwa3
    refine ⟨wa, l6, _, _, rfl, rfl, hw6, upd_same, by rw [List.length_map, List.length_reverse, List.length_map]; exact small9 (by omega), ⟨3 * (ls.length - (ns ++ [k]).length) + (ws ++ z.2.reverse).length, dec, ⟨_, rfl⟩, (s3.trans s6).put (n1.free hwa), ns ++ [k], ws ++ z.2.reverse, ?_, ?_, nN', nlt', fun n hn => ?_, ?_, fun n hn z' hz' j hj => ?_, rfl, by omega⟩⟩
    · rw [upd_ne nw]
      exact s6 _ _ hnd3
    · rw [upd_same, List.map_append, List.map_reverse]
    · rcases List.mem_append.mp hn with h | h
      · exact wlt' n h
      · have := zb n (List.mem_reverse.mp h)
        omega
    · exact last'.imp id (List.mem_append_left _)
    · rcases List.mem_append.mp hn with h | h
      · exact (old n h z' hz' j hj).imp id (List.mem_append_left _)
      · rw [List.mem_singleton.mp h, hlk] at hz'
        cases hz'
        exact .inr (List.mem_append_right _ (List.mem_reverse.mpr hj))
abbrev s_cells_by_name : Stmt := top 9
theorem sc_cells_by_name : FnScope ["H"] ["H"] (defScope s_cells_by_name) := ⟨rfl, rfl, rfl, by decide +kernel, rfl, by decide +kernel, by decide +kernel⟩
theorem ok_cells_by_name {P : Program} {w : World} {K : PySem.W.Frag} {mg : Str → Option Value} {base : Heap} {f : Addr} {fd : FuncData} (F : Fun K "cells_by_name" "cells_by_name" s_cells_by_name f fd) (gb : Gb mg) : FnOk P w K mg base CX0 1 f fd ["H"] spCbn := by
  refine F.ok sc_cells_by_name (fun vs H Q E h => ?_) (fun cdv A outer s H vs Q E hr h => ?_)
  · obtain ⟨v, T, rfl, _⟩ := h
    rfl
  obtain ⟨v, T, rfl, ia, gT, nT, q⟩ := h
  have nd0 : (["name", "places", "cells"] : List Str).Nodup := by decide +kernel
  refine ⟨_, (@pss_one _ _ _ (@ps_ret _ _ _ _ (@pe_dictPT _ _ hr _ _ _ _ rfl gb.dict (@pa_cons _ _ _ _ _ (@pe_comp _ ["name", "places", "cells"] [none, none, none] _ _ _ _ _ _ _ _ _ _ (by exact (show CompOk ["H"] (defScope s_cells_by_name) ["name", "places", "cells"] [none, none, none] _ from ⟨rfl, by decide +kernel, by decide +kernel, by decide +kernel, by decide +kernel, rfl, by decide +kernel⟩)) rfl (@kpi_tup _ K _ _ _ (@pe_ix _ _ _ _ _ _ _ (@kix_seq _ K (by rfl)) (@pv _ 0 _ _ (by rfl) (by walk_at "v") (by decide) (by decide)) (@pe_int _ _ _ _) (fun _ _ => rfl)) (by rfl)) (fun _ _ _ _ => (@kpg_tup _ K _ _ _ _ 3 rfl (@pgs_cons _ _ _ _ _ (@pg_name _ _ 0 _ nd0 rfl (Or.inl rfl) (by walk_at "f")) (@pgs_cons _ _ _ _ _ (@pg_name _ _ 1 _ nd0 rfl (Or.inl rfl) (by walk_at "f")) (@pgs_cons _ _ _ _ _ (@pg_name _ _ 2 _ nd0 rfl (Or.inl rfl) (by walk_at "f")) (@pgs_nil _) (by rfl)) (by rfl)) (by rfl)) (by rfl) (by rfl) (by rfl))) (fun _ _ _ _ => (@pf_nil _)) (fun _ _ _ _ => (@pe_tup _ _ _ _ _ (@pa_cons _ _ _ _ _ (@pe_tup _ _ _ _ _ (@pa_cons _ _ _ _ _ (@pv _ 0 _ _ (by rfl) (by walk_at "v") (by decide) (by decide)) (@pa_cons _ _ _ _ _ (@pv _ 1 _ _ (by rfl) (by walk_at "v") (by decide) (by decide)) (@pa_nil _) (by rfl)) (by rfl))) (@pa_cons _ _ _ _ _ (@pv _ 2 _ _ (by rfl) (by walk_at "v") (by decide) (by decide)) (@pa_nil _) (by rfl)) (by rfl)))) (by intro _; rfl)) (@pa_nil _) (by rfl)) (by rfl) (by rfl)))), ?_⟩
  obtain ⟨a, w0, c, vs, rfl, h1, h2, h3, h4⟩ := id ia
  have gcl := gT.cl
  have gx : ∀ i, ∃ t u : Addr, i < T.cs.length → vs[i]? = some (.ref t) ∧ H t = some (.tup [.str (T.cs.getD i d0).nm, nV (T.cs.getD i d0).pl, .ref u]) ∧ H u = some (.tup ((T.cs.getD i d0).cs.map nV)) := fun i => by
    by_cases hi : i < T.cs.length
    · have hc : T.cs[i]? = some (T.cs.getD i d0) := by simp [List.getD, hi]
      obtain ⟨t, u, h⟩ := h4.get hc
      exact ⟨t, u, fun _ => h⟩
    · exact ⟨0, 0, fun h => absurd h hi⟩
  obtain ⟨ad, gx⟩ := Classical.axiomOfChoice gx
  obtain ⟨au, gx⟩ := Classical.axiomOfChoice gx
  have ge : ∀ i, i < T.cs.length → T.cs[i]? = some (T.cs.getD i d0) := fun i hi => by simp [List.getD, hi]
  refine ⟨_, rfl, .inr (.inl ⟨a, _, 2, _, rfl, rfl, SqT.of h1, rfl, c, rfl, ⟨_, SqT.of h3⟩, fun D hD => ?_⟩)⟩
  refine comp_tt3m (n := T.cs.length) (ad := ad) (v1 := fun i => .str (T.cs.getD i d0).nm) (v2 := fun i => nV (T.cs.getD i d0).pl) (v3 := fun i => .ref (au i)) (more := []) (fun i ys H' => Same H H' ∧ ys.length = i ∧ PrsT H' ys (ctOf T au i)) ⟨same_new hD _, rfl, .nil⟩ h4.len.symm (fun i hi => (gx i hi).1) (fun i ys H' h _ => SqT.of (h.1 _ _ h3)) (fun i ys H' hi h => SqT.of (h.1 _ _ (gx i hi).2.1)) ?_ ?_
  · rintro i ys H1 hi ⟨s1, yl, hP⟩ hD1
    refine yes ⟨_, rfl, _, rfl, small9 (by show 2 ≤ 1000; decide), fun t1 ht1 => ?_⟩
    have n1 := same_new ht1 (.tup [.str (T.cs.getD i d0).nm, nV (T.cs.getD i d0).pl])
    refine ⟨_, rfl, small9 (by show 2 ≤ 1000; decide), fun t2 ht2 => ?_⟩
    have n2 := same_new ht2 (.tup [.ref t1, .ref (au i)])
    have hD2 := n2 _ _ (n1 _ _ hD1)
    refine cyes hi ⟨_, _, _, rfl⟩ hD2 (small1000 (by omega)) ⟨(s1.trans (n1.trans n2)).put hD, by rw [List.length_append, yl]; rfl, ?_⟩
    rw [ct_snoc]
    exact PrsT.snoc (p := (cKey (T.cs.getD i d0), .ref (au i))) (PrsT.tk (Tk.put hD2) (PrsT.tk (Tk.of (n1.trans n2)) hP)) (Tk.put hD2 _ _ upd_same) (Tk.put hD2 _ _ (n2 _ _ upd_same))
  · rintro ys H1 ⟨s1, yl, hP⟩ hD1
    refine ⟨D, ys, _, rfl, hD1, hP, fun e he => q e _ (s1.trans (same_new he _)) ⟨_, upd_same, fun cc hcc => ?_⟩⟩
    obtain ⟨i, hi⟩ := List.mem_iff_getElem?.mp hcc
    have hil := (List.getElem?_eq_some_iff.mp hi).1
    have en : T.cs.getD i d0 = cc := by
      have := ge i hil
      rw [hi] at this
      exact (Option.some.inj this).symm
    refine ⟨au i, ?_, ?_⟩
    · rw [← en]
      exact putT_at (ctOf T au T.cs.length) [] (cKey (T.cs.getD i d0), .ref (au i)) (ct_nd nT) (List.mem_map.mpr ⟨i, List.mem_range.mpr hil, rfl⟩)
    · rw [← en]
      exact (s1.trans (same_new he _)) _ _ (gx i hil).2.2
abbrev s_column_from : Stmt := top 10
theorem sc_column_from : FnScope ["cells", "many", "columns", "length", "places", "column"] ["cells", "many", "columns", "length"] (defScope s_column_from) := ⟨rfl, rfl, rfl, by decide +kernel, rfl, by decide +kernel, by decide +kernel⟩
theorem ok_column_from {P : Program} {w : World} {K : PySem.W.Frag} {mg : Str → Option Value} {base : Heap} {f : Addr} {fd : FuncData} (F : Fun K "column_from" "column_from" s_column_from f fd) (gb : Gb mg) : FnOk P w K mg base CX0 1 f fd ["cells", "many", "columns", "length"] spColF := by
  refine F.ok sc_column_from (fun vs H Q E h => ?_) (fun cdv A outer s H vs Q E hr h => ?_)
  · obtain ⟨cu, cl, m, pl, cs, cols, cvs, len, rfl, _⟩ := h
    rfl
  obtain ⟨cu, cl, m, pl, cs, cols, cvs, len, rfl, hcu, hcs, hcl, hC, hpl, p2, hcol, m1, m9, n9, q⟩ := h
  have nd0 : (["row"] : List Str).Nodup := by decide +kernel
  have nd1 : (["place", "one", "many"] : List Str).Nodup := by decide +kernel
  have nd2 : (["place", "cells"] : List Str).Nodup := by decide +kernel
  refine ⟨_, (@pss_cons _ _ _ _ _ (@ps_setComp _ ["row"] [none] _ 4 _ _ _ _ _ _ _ _ _ _ _ _ (by exact (show CompOk ["cells", "many", "columns", "length", "places", "column"] (defScope s_column_from) ["row"] [none] _ from ⟨rfl, by decide +kernel, by decide +kernel, by decide +kernel, by decide +kernel, rfl, by decide +kernel⟩)) rfl (@pi_range1 _ _ _ _ _ _ rfl gb.range (@pa_cons _ _ _ _ _ (@pv _ 3 _ _ (by rfl) (by walk_at "v") (by decide) (by decide)) (@pa_nil _) (by rfl)) (by rfl)) (fun _ _ _ _ => (@pg_name _ _ 0 _ nd0 rfl (Or.inl rfl) (by walk_at "f"))) (fun _ _ _ _ => (@pf_nil _)) (fun _ _ _ _ => (@pe_int _ _ _ _)) sc_column_from.nd rfl rfl rfl (by intro _; rfl)) (@pss_cons _ _ _ _ _ (@ps_for _ _ _ _ _ _ _ _ PassesOwn.never rfl (@kpi_list _ K _ _ _ (@pv _ 2 _ _ (by rfl) (by walk_at "v") (by decide) (by decide)) (by rfl)) (@pg_name _ _ 5 _ sc_column_from.nd rfl (Or.inl rfl) (by walk_at "f")) (@pss_one _ _ _ (@ps_setComp _ ["place", "one", "many"] [none, none, some 1] _ 4 _ _ _ _ _ _ _ _ _ _ _ _ (by exact (show CompOk ["cells", "many", "columns", "length", "places", "column"] (defScope s_column_from) ["place", "one", "many"] [none, none, some 1] _ from ⟨rfl, by decide +kernel, by decide +kernel, by decide +kernel, by decide +kernel, rfl, by decide +kernel⟩)) rfl (@kpi_zipM _ K _ _ _ _ _ _ _ _ rfl gb.zip (@pa_cons _ _ _ _ _ (@pv _ 4 _ _ (by rfl) (by walk_at "v") (by decide) (by decide)) (@pa_cons _ _ _ _ _ (@pv _ 5 _ _ (by rfl) (by walk_at "v") (by decide) (by decide)) (@pa_nil _) (by rfl)) (by rfl)) (by rfl) (by rfl) (by rfl)) (fun _ _ _ _ => (@kpg_tup _ K _ _ _ _ 2 rfl (@pgs_cons _ _ _ _ _ (@pg_name _ _ 0 _ nd1 rfl (Or.inl rfl) (by walk_at "f")) (@pgs_cons _ _ _ _ _ (@pg_name _ _ 1 _ nd1 rfl (Or.inl rfl) (by walk_at "f")) (@pgs_nil _) (by rfl)) (by rfl)) (by rfl) (by rfl) (by rfl))) (fun _ _ _ _ => (@pf_nil _)) (fun _ _ _ _ => (@pe_op _ _ _ _ _ _ _ _ (@op_add _) (@pe_op _ _ _ _ _ _ _ _ (@op_mul _) (@pv _ 0 _ _ (by rfl) (by walk_at "v") (by decide) (by decide)) (@pv _ 2 _ _ (by rfl) (by walk_at "v") (by decide) (by decide))) (@pv _ 1 _ _ (by rfl) (by walk_at "v") (by decide) (by decide)))) sc_column_from.nd rfl rfl rfl (by intro _; rfl))) (by intro _; rfl)) (@pss_one _ _ _ (@ps_ret _ _ _ _ (@pe_callTy _ _ _ _ _ _ _ _ _ (@kcall_tuple_of _ K (by rfl)) rfl gb.tuple bt_tuple (@pa_cons _ _ _ _ _ (@pe_comp _ ["place", "cells"] [none, some 0] _ _ _ _ _ _ _ _ _ _ (by exact (show CompOk ["cells", "many", "columns", "length", "places", "column"] (defScope s_column_from) ["place", "cells"] [none, some 0] _ from ⟨rfl, by decide +kernel, by decide +kernel, by decide +kernel, by decide +kernel, rfl, by decide +kernel⟩)) rfl (@kpi_list _ K _ _ _ (@pv _ 4 _ _ (by rfl) (by walk_at "v") (by decide) (by decide)) (by rfl)) (fun _ _ _ _ => (@pg_name _ _ 0 _ nd2 rfl (Or.inl rfl) (by walk_at "f"))) (fun _ _ _ _ => (@pf_nil _)) (fun _ _ _ _ => (@pe_ix _ _ _ _ _ _ _ (@kix_seq _ K (by rfl)) (@pv _ 1 _ _ (by rfl) (by walk_at "v") (by decide) (by decide)) (@pv _ 0 _ _ (by rfl) (by walk_at "v") (by decide) (by decide)) (fun _ _ => rfl))) (by intro _; rfl)) (@pa_nil _) (by rfl)) (by decide) (by decide) (by rfl) (by rfl)))))), ?_⟩
  refine ⟨_, rfl, (len : Int), rfl, by omega, by omega, fun D0 hD0 => ?_⟩
  rw [Int.toNat_natCast]
  refine comp_range (fun i ys H' => Same H H' ∧ ys = List.replicate i (nV 0)) ⟨same_new hD0 _, rfl⟩ ?_ ?_
  · rintro i ys H1 hi ⟨s1, rfl⟩ hD1
    refine yes (cyes hi rset1 hD1 (by rw [List.length_replicate]; exact small1000 (by omega)) ⟨s1.put hD0, ?_⟩)
    rw [List.replicate_succ']
    rfl
  rintro ys H1 ⟨s1, rfl⟩ hD1
  have e0 : (((List.range len).map fun k => Tn.place m ((cols.take 0).map fun col => Tn.at' col k)).map nV) = List.replicate len (nV 0) := List.eq_replicate_iff.mpr ⟨by rw [List.length_map, List.length_map, List.length_range], fun b hb => by
    obtain ⟨x, hx, rfl⟩ := List.mem_map.mp hb
    obtain ⟨k, _, rfl⟩ := List.mem_map.mp hx
    rfl⟩
  rw [← e0] at hD1
  have hll := Paired.length hC
  refine ⟨_, rfl, cl, rfl, ⟨_, SqL.of (s1 _ _ hcl)⟩, ?_⟩
  refine for_list (xs := cvs) (fun i σ H' => (∃ pd x5, σ = [some (.ref cu), some (nV m), some (.ref cl), some (nV len), some (.ref pd), x5] ∧ H' pd = some (.lst (((List.range len).map fun k => Tn.place m ((cols.take i).map fun col => Tn.at' col k)).map nV))) ∧ Same H H') ⟨⟨D0, _, rfl, hD1⟩, s1⟩ (fun i σ H' _ h => SqL.of (h.2 _ _ hcl)) ?_ ?_
  · rintro i x σ H2 hx ⟨⟨pd, x5, rfl, hpd⟩, s2⟩
    have hi := (List.getElem?_eq_some_iff.mp hx).1
    have hci : cols[i]? = some cols[i] := List.getElem?_eq_getElem (by omega)
    generalize cols[i] = col at hci
    obtain ⟨t, rfl, ht⟩ := Paired.at hC i _ _ hci hx
    have gc := hcol col (List.mem_of_getElem? hci)
    have gl := gc.1
    refine ⟨_, rfl, _, rfl, pd, t, _, _, rfl, SqL.of hpd, SqT.of (s2 _ _ ht), fun D hD => ?_⟩
    refine comp_zipM (n := len) (xs := ((List.range len).map fun k => Tn.place m ((cols.take i).map fun col => Tn.at' col k)).map nV) (ys := col.map nV) (more := [some (nV m)]) (fun j zs H' => Same H2 H' ∧ zs = ((List.range j).map fun k => Tn.place m ((cols.take (i + 1)).map fun col => Tn.at' col k)).map nV) (by rw [List.length_map, List.length_map, List.length_map, List.length_range, gl, Nat.min_self]) ⟨same_new hD _, rfl⟩ (fun j zs H' h _ => ⟨SqL.of (h.1 _ _ hpd), SqT.of (h.1 _ _ (s2 _ _ ht))⟩) ?_ ?_
    · rintro j zs H3 TT x y hx3 hy3 hj ⟨s3, rfl⟩ hD3 hTT
      rw [List.map_map] at hx3
      obtain ⟨_, rfl⟩ := rng_get hx3
      rw [List.getElem?_map, at_get (by omega)] at hy3
      obtain rfl := Option.some.inj hy3
      have n4 := same_new hTT (.tup [nV (Tn.place m ((cols.take i).map fun col => Tn.at' col j)), nV (Tn.at' col j)])
      have e : V.int (((Tn.place m ((cols.take i).map fun col => Tn.at' col j) : Nat) : Int) * ((m : Nat) : Int) + ((Tn.at' col j : Nat) : Int)) = nV (Tn.place m ((cols.take (i + 1)).map fun col => Tn.at' col j)) := by
        rw [take_snoc hci, List.map_append, List.map_cons, List.map_nil, Tn.place_snoc]
        show V.int _ = V.int _
        rw [Int.natCast_add, Int.natCast_mul]
      refine yes ⟨_, rfl, _, rfl, _, _, rfl, rfl, .inr ⟨by omega, by omega⟩, _, rfl, _, _, rfl, rfl, ?_⟩
      refine cyes hj ⟨_, _, rfl⟩ (n4 _ _ hD3) (by rw [List.length_map, List.length_map, List.length_range]; exact small1000 (by omega)) ⟨(s3.trans n4).put hD, ?_⟩
      rw [List.range_succ, List.map_append, List.map_append]
      exact congrArg (fun v => (((List.range j).map fun k => Tn.place m ((cols.take (i + 1)).map fun col => Tn.at' col k)).map nV) ++ [v]) e
    · rintro zs H3 ⟨s3, rfl⟩ hD3
      exact ⟨⟨D, some (.ref t), rfl, hD3⟩, s2.trans s3⟩
  · rintro σ H2 ⟨⟨pd, x5, rfl, hpd⟩, s2⟩
    rw [← hll, List.take_length] at hpd
    refine ⟨_, rfl, pd, rfl, ⟨_, SqL.of hpd⟩, fun D hD => ?_⟩
    refine comp_list (xs := ((List.range len).map fun k => Tn.place m (cols.map fun col => Tn.at' col k)).map nV) (fun j zs H' => Same H2 H' ∧ zs = ((List.range j).map fun k => Tn.at' cs (Tn.place m (cols.map fun col => Tn.at' col k))).map nV) ⟨same_new hD _, rfl⟩ (fun j zs H' h _ => SqL.of (h.1 _ _ hpd)) ?_ ?_
    · rintro j zs H3 x hx3 ⟨s3, rfl⟩ hD3
      rw [List.map_map] at hx3
      obtain ⟨hj, rfl⟩ := rng_get hx3
      refine yes ⟨_, rfl, _, rfl, .inr (.inl ⟨cu, _, _, _, rfl, rfl, SqT.of ((s2.trans s3) _ _ hcu), at_nV ?_, ?_⟩)⟩
      · rw [hcs.len, ← hpl]
        exact Tn.place_lt _ _ ⟨by rw [List.length_map], fun y hy => by
          obtain ⟨col, hc, rfl⟩ := List.mem_map.mp hy
          exact (hcol col hc).at hj⟩
      · refine cyes (by rw [List.length_map, List.length_map, List.length_range]; exact hj) rset1 hD3 (by rw [List.length_map, List.length_map, List.length_range]; exact small1000 (by omega)) ⟨s3.put hD, ?_⟩
        rw [List.range_succ, List.map_append, List.map_append]
        rfl
    · rintro zs H3 ⟨s3, rfl⟩ hD3
      rw [List.length_map, List.length_map, List.length_range] at hD3
      refine ⟨D, _, rfl, .inl ⟨SqL.of hD3, fun t ht => ?_⟩⟩
      exact q t _ (s2.trans (s3.trans (same_new ht _))) upd_same
abbrev s_line_column : Stmt := top 16
theorem sc_line_column : FnScope ["T", "cells", "ahead", "line", "length", "parts"] ["T", "cells", "ahead", "line", "length"] (defScope s_line_column) := ⟨rfl, rfl, rfl, by decide +kernel, rfl, by decide +kernel, by decide +kernel⟩
theorem ok_line_column {P : Program} {w : World} {K : PySem.W.Frag} {mg : Str → Option Value} {base : Heap} {f : Addr} {fd : FuncData} (F : Fun K "line_column" "line_column" s_line_column f fd) (gb : Gb mg) (d_column_from : Def P w K mg base 1 "column_from" ["cells", "many", "columns", "length"] spColF) : FnOk P w K mg base CX0 2 f fd ["T", "cells", "ahead", "line", "length"] spLineC := by
  refine F.ok sc_line_column (fun vs H Q E h => ?_) (fun cdv A outer s H vs Q E hr h => ?_)
  · obtain ⟨v, e', al, t, T, z, cols, avs, len, rfl, _⟩ := h
    rfl
  obtain ⟨v, e', al, t, T, z, cols, avs, len, rfl, ia, gT, nT, hcd, hal, hC, hcol, ht, hz, hc, n9, q⟩ := h
  have nd0 : (["number", "ahead"] : List Str).Nodup := by decide +kernel
  refine ⟨_, (@pss_cons _ _ _ _ _ (@ps_setComp _ ["number", "ahead"] [none, some 2] _ 5 _ _ _ _ _ _ _ _ _ _ _ _ (by exact (show CompOk ["T", "cells", "ahead", "line", "length", "parts"] (defScope s_line_column) ["number", "ahead"] [none, some 2] _ from ⟨rfl, by decide +kernel, by decide +kernel, by decide +kernel, by decide +kernel, rfl, by decide +kernel⟩)) rfl (@kpi_tup _ K _ _ _ (@pe_slice _ _ _ _ _ _ _ _ _ _ (@kslT _ K (by rfl)) (@pv _ 3 _ _ (by rfl) (by walk_at "v") (by decide) (by decide)) (@po_some _ _ _ (@pe_int _ _ _ _)) (@po_none _)) (by rfl)) (fun _ _ _ _ => (@pg_name _ _ 0 _ nd0 rfl (Or.inl rfl) (by walk_at "f"))) (fun _ _ _ _ => (@pf_nil _)) (fun _ _ _ _ => (@pe_ix _ _ _ _ _ _ _ (@kix_seq _ K (by rfl)) (@pv _ 1 _ _ (by rfl) (by walk_at "v") (by decide) (by decide)) (@pv _ 0 _ _ (by rfl) (by walk_at "v") (by decide) (by decide)) (fun _ _ => rfl))) sc_line_column.nd rfl rfl rfl (by intro _; rfl)) (@pss_one _ _ _ (@ps_ret _ _ _ _ (@pe_def _ _ _ _ _ _ _ _ _ _ _ d_column_from hr (by omega) rfl (@pa_cons _ _ _ _ _ (@pe_dget _ _ _ _ _ _ (@hu1 _ _ hr) (@pv _ 1 _ _ (by rfl) (by walk_at "v") (by decide) (by decide)) (@pe_tup _ _ _ _ _ (@pa_cons _ _ _ _ _ (@pe_ix _ _ _ _ _ _ _ (@kix_seq _ K (by rfl)) (@pv _ 3 _ _ (by rfl) (by walk_at "v") (by decide) (by decide)) (@pe_int _ _ _ _) (fun _ _ => rfl)) (@pa_cons _ _ _ _ _ (@pe_op _ _ _ _ _ _ _ _ (@op_sub _) (@pe_callB _ _ _ _ _ _ _ _ _ (@kcall_len _ K (by rfl)) rfl gb.len bt_len (@pa_cons _ _ _ _ _ (@pv _ 3 _ _ (by rfl) (by walk_at "v") (by decide) (by decide)) (@pa_nil _) (by rfl)) (by decide) (by decide) (by rfl) (by rfl)) (@pe_int _ _ _ _)) (@pa_nil _) (by rfl)) (by rfl))) (fun _ _ => rfl)) (@pa_cons _ _ _ _ _ (@pe_ix _ _ _ _ _ _ _ (@kix_seq _ K (by rfl)) (@pv _ 0 _ _ (by rfl) (by walk_at "v") (by decide) (by decide)) (@pe_int _ _ _ _) (fun _ _ => rfl)) (@pa_cons _ _ _ _ _ (@pv _ 5 _ _ (by rfl) (by walk_at "v") (by decide) (by decide)) (@pa_cons _ _ _ _ _ (@pv _ 4 _ _ (by rfl) (by walk_at "v") (by decide) (by decide)) (@pa_nil _) (by rfl)) (by rfl)) (by rfl)) (by rfl)) (by decide) (by rfl) (by rfl))))), ?_⟩
  obtain ⟨c, hcm, cn, cp⟩ := hc
  obtain ⟨a, w0, c0, vs, rfl, h1, h2, h3, h4⟩ := id ia
  obtain ⟨_, p2, q3⟩ := gT.cn c hcm
  have hal' := Paired.length hC
  refine ⟨_, rfl, _, rfl, ?_⟩
  refine slT_of ht fun t2 H2 s2 ht2 => ?_
  rw [cut_drop1 (by simp)] at ht2
  refine ⟨t2, rfl, ⟨_, SqT.of ht2⟩, fun D hD => ?_⟩
  refine comp_tup (xs := z.2.map nV) (fun i ys H' => Same H2 H' ∧ Cols H' ((z.2.take i).map fun n => cols.getD n []) ys ∧ ys.length = i) ⟨same_new hD _, .nil, rfl⟩ (fun i ys H' h _ => SqT.of (h.1 _ _ ht2)) ?_ ?_
  · rintro i ys H3 x hx ⟨s3, hY, yl⟩ hD3
    have hi := (List.getElem?_eq_some_iff.mp hx).1
    rw [List.length_map] at hi
    rw [List.getElem?_map] at hx
    obtain ⟨n, hn, rfl⟩ := Option.map_eq_some_iff.mp hx
    have hnl := hz n (List.mem_of_getElem? hn)
    have hci : cols[n]? = some (cols.getD n []) := by simp [List.getD, hnl]
    have hav : avs[n]? = some avs[n] := List.getElem?_eq_getElem (by omega)
    generalize avs[n] = av at hav
    obtain ⟨tc, rfl, htc⟩ := Paired.at hC n _ _ hci hav
    have S3 := s2.trans s3
    refine yes ⟨_, rfl, _, rfl, .inl ⟨al, _, _, _, rfl, rfl, SqL.of (S3 _ _ hal), atI_nat hav, ?_⟩⟩
    refine cyes (by rw [List.length_map]; exact hi) rset1 hD3 (small1000 (by omega)) ⟨s3.put hD, ?_, by rw [List.length_append, yl]; rfl⟩
    rw [take_snoc hn, List.map_append]
    exact Cols.tk (Tk.put hD3) (Cols.snoc hY (S3 _ _ htc))
  rintro ys H3 ⟨s3, hY, yl⟩ hD3
  rw [List.length_map, List.take_length] at hY
  have S3 := s2.trans s3
  have ht3 := S3 _ _ ht
  obtain ⟨kvs, hk, hv⟩ := hcd.same S3
  obtain ⟨u, e1, e2⟩ := hv c hcm
  refine ⟨_, rfl, _, rfl, .inr (.inl ⟨t, _, _, _, rfl, rfl, SqT.of ht3, at0, _, rfl, _, _, rfl, .inr ⟨_, SqT.of ht3, rfl⟩, _, _, rfl, rfl, small9 (by show 2 ≤ 1000; decide), fun t4 ht4 => ?_⟩)⟩
  have el : V.int (((.str z.1 :: z.2.map nV : List V).length : Int) - 1) = .int ((c.pl : Nat) : Int) := by
    rw [List.length_cons, List.length_map, cp]
    show V.int _ = V.int _
    congr 1
    omega
  dsimp only
  rw [el]
  have n4 := same_new ht4 (.tup [.str z.1, .int ((c.pl : Nat) : Int)])
  have hgd : DGet (upd H3 t4 (.tup [.str z.1, .int ((c.pl : Nat) : Int)])) e' (.ref t4) (valV kvs (cKey c)) := DGet.t (n4 _ _ hk) (by
    rw [upd_same]
    unfold cKey
    rw [cn]
    rfl)
  rw [e1] at hgd
  refine ⟨e', _, rfl, hgd, ?_⟩
  have S4 := S3.trans n4
  refine ⟨_, rfl, .inr (.inl ⟨a, _, 0, _, rfl, rfl, SqT.of (S4 _ _ h1), rfl, ?_⟩)⟩
  refine ⟨_, rfl, _, rfl, u, D, T.m, c.pl, c.cs, z.2.map fun n => cols.getD n [], ys, len, rfl, n4 _ _ e2, q3, n4 _ _ hD3, Cols.tk (Tk.of n4) hY, by rw [List.length_map, cp], p2, (fun col hc => ?_), gT.m1, gT.m9, n9, fun t' H5 s5 ht' => ?_⟩
  · obtain ⟨n, hn, rfl⟩ := List.mem_map.mp hc
    have hnl := hz n hn
    exact hcol _ (List.mem_of_getElem? (i := n) (by simp [List.getD, hnl]))
  · refine q t' H5 (S4.trans s5) ?_
    rw [ht']
    congr 3
    refine List.map_congr_left fun k _ => ?_
    unfold cellOf
    rw [← cn, find_mem nT hcm, List.map_map]
    rfl
abbrev s_renumbered : Stmt := top 20
theorem sc_renumbered : FnScope ["line", "numbers"] ["line", "numbers"] (defScope s_renumbered) := ⟨rfl, rfl, rfl, by decide +kernel, rfl, by decide +kernel, by decide +kernel⟩
theorem ok_renumbered {P : Program} {w : World} {K : PySem.W.Frag} {mg : Str → Option Value} {base : Heap} {f : Addr} {fd : FuncData} (F : Fun K "renumbered" "renumbered" s_renumbered f fd) (gb : Gb mg) (d_is_letter : Def P w K mg base 2 "is_letter" ["thing"] spIsLn) : FnOk P w K mg base CX0 3 f fd ["line", "numbers"] spRenum := by
  refine F.ok sc_renumbered (fun vs H Q E h => ?_) (fun cdv A outer s H vs Q E hr h => ?_)
  · obtain ⟨v, nd, l, ns, o, rfl, _⟩ := h
    rfl
  obtain ⟨v, nd, l, ns, o, rfl, il, hL, hnd, nN, hz, h2, n20, q⟩ := h
  have nd0 : (["number", "numbers"] : List Str).Nodup := by decide +kernel
  refine ⟨_, (@pss_cons _ _ _ _ _ (@ps_if _ _ _ _ _ _ _ _ (@pt_val _ _ _ (@pe_def _ _ _ _ _ _ _ _ _ _ _ d_is_letter hr (by omega) rfl (@pa_cons _ _ _ _ _ (@pv _ 0 _ _ (by rfl) (by walk_at "v") (by decide) (by decide)) (@pa_nil _) (by rfl)) (by decide) (by rfl) (by rfl)) (by intro _; rfl)) (@pss_one _ _ _ (@ps_ret _ _ _ _ (@pv _ 0 _ _ (by rfl) (by walk_at "v") (by decide) (by decide)))) (@pss_nil _)) (@pss_one _ _ _ (@ps_ret _ _ _ _ (@pe_op _ _ _ _ _ _ _ _ (@op_catA _ K (by rfl)) (@pe_tup _ _ _ _ _ (@pa_cons _ _ _ _ _ (@pe_ix _ _ _ _ _ _ _ (@kix_seq _ K (by rfl)) (@pv _ 0 _ _ (by rfl) (by walk_at "v") (by decide) (by decide)) (@pe_int _ _ _ _) (fun _ _ => rfl)) (@pa_nil _) (by rfl))) (@pe_callTy _ _ _ _ _ _ _ _ _ (@kcall_tuple_of _ K (by rfl)) rfl gb.tuple bt_tuple (@pa_cons _ _ _ _ _ (@pe_comp _ ["number", "numbers"] [none, some 1] _ _ _ _ _ _ _ _ _ _ (by exact (show CompOk ["line", "numbers"] (defScope s_renumbered) ["number", "numbers"] [none, some 1] _ from ⟨rfl, by decide +kernel, by decide +kernel, by decide +kernel, by decide +kernel, rfl, by decide +kernel⟩)) rfl (@kpi_tup _ K _ _ _ (@pe_slice _ _ _ _ _ _ _ _ _ _ (@kslT _ K (by rfl)) (@pv _ 0 _ _ (by rfl) (by walk_at "v") (by decide) (by decide)) (@po_some _ _ _ (@pe_int _ _ _ _)) (@po_none _)) (by rfl)) (fun _ _ _ _ => (@pg_name _ _ 0 _ nd0 rfl (Or.inl rfl) (by walk_at "f"))) (fun _ _ _ _ => (@pf_nil _)) (fun _ _ _ _ => (@pe_dget _ _ _ _ _ _ (@hu1 _ _ hr) (@pv _ 1 _ _ (by rfl) (by walk_at "v") (by decide) (by decide)) (@pv _ 0 _ _ (by rfl) (by walk_at "v") (by decide) (by decide)) (fun _ _ => rfl))) (by intro _; rfl)) (@pa_nil _) (by rfl)) (by decide) (by decide) (by rfl) (by rfl)))))), ?_⟩
  refine ⟨_, rfl, v, l, rfl, il, hL, fun H1 s1 => ⟨_, rfl, ?_⟩⟩
  cases l with
  | inl x => exact iteT ⟨_, rfl, q v H1 s1 (il.tk (Tk.of s1))⟩
  | inr z =>
    refine iteF ?_
    obtain ⟨t, rfl, ht⟩ := il
    have ht1 := s1 _ _ ht
    have h2 : z.2.length ≤ 2 := h2
    refine ⟨_, rfl, .inr (.inl ⟨t, _, _, _, rfl, rfl, SqT.of ht1, at0, small9 (by show 1 ≤ 1000; decide), fun t1 hn1 => ?_⟩)⟩
    have n1 := same_new hn1 (.tup [.str z.1])
    refine ⟨_, rfl, _, rfl, ?_⟩
    refine slT_of (n1 _ _ ht1) fun t2 H2 s2 ht2 => ?_
    rw [cut_drop1 (by simp)] at ht2
    refine ⟨t2, rfl, ⟨_, SqT.of ht2⟩, fun D hD => ?_⟩
    have S2 := s1.trans (n1.trans s2)
    refine comp_tup (xs := z.2.map nV) (fun i ys H' => Same H2 H' ∧ ys = ((z.2.take i).map fun m => ns.idxOf m).map nV) ⟨same_new hD _, rfl⟩ (fun i ys H' h _ => SqT.of (h.1 _ _ ht2)) ?_ ?_
    · rintro i ys H3 x hx ⟨s3, rfl⟩ hD3
      have hi := (List.getElem?_eq_some_iff.mp hx).1
      rw [List.length_map] at hi
      rw [List.getElem?_map] at hx
      obtain ⟨n, hn, rfl⟩ := Option.map_eq_some_iff.mp hx
      have hm := hz n (List.mem_of_getElem? hn)
      have hgd : DGet H3 nd (nV n) (valV (nums ns) (Sum.inl (n : Int))) := .inl ⟨nums ns, Sum.inl (n : Int), .inr ⟨o, (S2.trans s3) _ _ hnd⟩, rfl, rfl⟩
      rw [nums_val nN hm] at hgd
      refine yes ⟨_, rfl, _, rfl, nd, _, rfl, hgd, ?_⟩
      refine cyes (by rw [List.length_map]; exact hi) rset1 hD3 (by rw [List.length_map, List.length_map, List.length_take]; exact small1000 (by omega)) ⟨s3.put hD, ?_⟩
      rw [take_snoc hn, List.map_append, List.map_append]
      rfl
    · rintro ys H3 ⟨s3, rfl⟩ hD3
      rw [List.length_map, List.take_length] at hD3
      refine ⟨D, _, rfl, .inl ⟨SqL.of hD3, fun t4 ht4 => ?_⟩⟩
      have n4 := same_new ht4 (.tup ((z.2.map fun m => ns.idxOf m).map nV))
      refine catA_of (n4 _ _ (s3 _ _ (s2 _ _ upd_same))) upd_same (by rw [List.length_map, List.length_map]; show 1 + z.2.length ≤ 1000; omega) fun t5 H5 s5 ht5 => ?_
      exact q (.ref t5) H5 (S2.trans (s3.trans (n4.trans s5))) ⟨t5, rfl, ht5⟩
abbrev s_needed_alone : Stmt := top 19
theorem sc_needed_alone : FnScope ["lines", "numbers", "number"] ["lines"] (defScope s_needed_alone) := ⟨rfl, rfl, rfl, by decide +kernel, rfl, by decide +kernel, by decide +kernel⟩
theorem ok_needed_alone {P : Program} {w : World} {K : PySem.W.Frag} {mg : Str → Option Value} {base : Heap} {f : Addr} {fd : FuncData} (F : Fun K "needed_alone" "needed_alone" s_needed_alone f fd) (gb : Gb mg) (d_needed_lines : Def P w K mg base 3 "needed_lines" ["lines"] spNeed) (d_renumbered : Def P w K mg base 3 "renumbered" ["line", "numbers"] spRenum) : FnOk P w K mg base CX0 4 f fd ["lines"] spAlone := by
  refine F.ok sc_needed_alone (fun vs H Q E h => ?_) (fun cdv A outer s H vs Q E hr h => ?_)
  · obtain ⟨lt, us, ls, T, LT, rfl, _⟩ := h
    rfl
  obtain ⟨lt, us, ls, T, LT, rfl, hlt, hls, hG, g2, hL, l1, l20, q⟩ := h
  have nd0 : (["number", "lines", "numbers"] : List Str).Nodup := by decide +kernel
  refine ⟨_, (@pss_cons _ _ _ _ _ (@ps_set _ _ 1 _ _ _ _ sc_needed_alone.nd rfl (Or.inr rfl) (@pe_dnewK _ _) (by rfl) (by walk_at "f")) (@pss_cons _ _ _ _ _ (@ps_for _ _ _ _ _ _ _ _ PassesOwn.never rfl (@kpi_list _ K _ _ _ (@pe_callB _ _ _ _ _ _ _ _ _ (@kcall_sortedI _ K (by rfl)) rfl gb.sorted bt_sorted (@pa_cons _ _ _ _ _ (@pe_def _ _ _ _ _ _ _ _ _ _ _ d_needed_lines hr (by omega) rfl (@pa_cons _ _ _ _ _ (@pv _ 0 _ _ (by rfl) (by walk_at "v") (by decide) (by decide)) (@pa_nil _) (by rfl)) (by decide) (by rfl) (by rfl)) (@pa_nil _) (by rfl)) (by decide) (by decide) (by rfl) (by rfl)) (by rfl)) (@pg_name _ _ 2 _ sc_needed_alone.nd rfl (Or.inl rfl) (by walk_at "f")) (@pss_one _ _ _ (@ps_kput _ _ _ _ _ _ _ _ _ _ hr (@pv _ 1 _ _ (by rfl) (by walk_at "v") (by decide) (by decide)) (@pv _ 2 _ _ (by rfl) (by walk_at "v") (by decide) (by decide)) (@pe_callB _ _ _ _ _ _ _ _ _ (@call_lenD _) rfl gb.len bt_len (@pa_cons _ _ _ _ _ (@pv _ 1 _ _ (by rfl) (by walk_at "v") (by decide) (by decide)) (@pa_nil _) (by rfl)) (by decide) (by decide) (by rfl) (by rfl)) rfl)) (by intro _; rfl)) (@pss_one _ _ _ (@ps_ret _ _ _ _ (@pe_callTy _ _ _ _ _ _ _ _ _ (@kcall_tuple_of _ K (by rfl)) rfl gb.tuple bt_tuple (@pa_cons _ _ _ _ _ (@pe_comp _ ["number", "lines", "numbers"] [none, some 0, some 1] _ _ _ _ _ _ _ _ _ _ (by exact (show CompOk ["lines", "numbers", "number"] (defScope s_needed_alone) ["number", "lines", "numbers"] [none, some 0, some 1] _ from ⟨rfl, by decide +kernel, by decide +kernel, by decide +kernel, by decide +kernel, rfl, by decide +kernel⟩)) rfl (@pi_keys _ _ _ _ (@pv _ 1 _ _ (by rfl) (by walk_at "v") (by decide) (by decide))) (fun _ _ _ _ => (@pg_name _ _ 0 _ nd0 rfl (Or.inl rfl) (by walk_at "f"))) (fun _ _ _ _ => (@pf_nil _)) (fun _ _ _ _ => (@pe_def _ _ _ _ _ _ _ _ _ _ _ d_renumbered hr (by omega) rfl (@pa_cons _ _ _ _ _ (@pe_ix _ _ _ _ _ _ _ (@kix_seq _ K (by rfl)) (@pv _ 1 _ _ (by rfl) (by walk_at "v") (by decide) (by decide)) (@pv _ 0 _ _ (by rfl) (by walk_at "v") (by decide) (by decide)) (fun _ _ => rfl)) (@pa_cons _ _ _ _ _ (@pv _ 2 _ _ (by rfl) (by walk_at "v") (by decide) (by decide)) (@pa_nil _) (by rfl)) (by rfl)) (by decide) (by rfl) (by rfl))) (by intro _; rfl)) (@pa_nil _) (by rfl)) (by decide) (by decide) (by rfl) (by rfl)))))), ?_⟩
  refine fun nd hnd => ?_
  have n1 := same_new hnd (.dK [])
  refine ⟨_, rfl, lt, us, ls, T, LT, rfl, n1 _ _ hlt, Lns.tk (Tk.of n1) hls, hG, g2, hL, l1, l20, fun nl ns0 H2 s2 hnl clos => ?_⟩
  have nsl : ns0.length ≤ 20 := Nat.le_trans (Tn.nodup_len ls.length ns0 clos.nd clos.lt) l20
  have hnl' : H2 nl = some (.lst ((ns0.map fun (n : Nat) => (n : Int)).map V.int)) := by
    rw [List.map_map]
    exact hnl
  refine ⟨nl, _, rfl, SqL.of hnl', by rw [List.length_map]; omega, fun sl ms hsl pm pw => ?_⟩
  obtain ⟨ns, em, clo, ris, nsl2⟩ := sort_clos clos pm pw
  rw [em]
  have n3 := same_new hsl (.lst (ns.map nV))
  have S3 := n1.trans (s2.trans n3)
  have hul := Paired.length hls
  refine ⟨sl, rfl, ⟨_, SqL.of upd_same⟩, ?_⟩
  have slnd : sl ≠ nd := fun e => by
    have := s2 _ _ (@upd_same H nd (.dK []))
    rw [← e, hsl] at this
    cases this
  refine for_list (xs := ns.map nV) (fun i σ H' => (∃ x2, σ = [some (.ref lt), some (.ref nd), x2]) ∧ Same H H' ∧ H' sl = some (.lst (ns.map nV)) ∧ H' nd = some (.dK (nums (ns.take i)))) ⟨⟨_, rfl⟩, S3, upd_same, n3 _ _ (s2 _ _ upd_same)⟩ (fun i σ H' _ h => SqL.of h.2.2.1) ?_ ?_
  · rintro i x σ H4 hx ⟨⟨x2, rfl⟩, s4, hsl4, hnd4⟩
    rw [List.getElem?_map] at hx
    obtain ⟨n, hn, rfl⟩ := Option.map_eq_some_iff.mp hx
    have hi := (List.getElem?_eq_some_iff.mp hn).1
    refine ⟨_, rfl, nd, _, rfl, hnd4, _, rfl, _, rfl, nd, _, Sum.inl (n : Int), rfl, rfl, hnd4, by rw [nums_len, List.length_take]; exact small1000 (by omega), ?_⟩
    refine ⟨⟨_, rfl⟩, s4.put hnd, by rw [upd_ne slnd]; exact hsl4, ?_⟩
    rw [nums_put clo.nd hn]
    exact upd_same
  rintro σ H4 ⟨⟨x2, rfl⟩, s4, hsl4, hnd4⟩
  rw [List.length_map, List.take_length] at hnd4
  refine ⟨_, rfl, nd, nums ns, rfl, hnd4, fun o D hD => ?_⟩
  have s5 : Same H (upd H4 nd (.frz o (.dK (nums ns)))) := s4.put hnd
  have hf5 : (upd H4 nd (.frz o (.dK (nums ns)))) nd = some (.frz o (.dK (nums ns))) := upd_same
  generalize upd H4 nd (.frz o (.dK (nums ns))) = H5 at *
  refine comp_keys (kvs := nums ns) (ob := o) (fun i ys H' => Same H5 H' ∧ Lns H' ((ns.take i).map fun n => reN ns (ls.getD n (.inl ""))) ys ∧ ys.length = i) ⟨same_new hD _, .nil, rfl⟩ (fun i ys H' h _ => h.1 _ _ hf5) ?_ ?_
  · rintro i ys H6 p hp ⟨s6, hY, yl⟩ hD6
    obtain ⟨n, hn, rfl⟩ := nums_get hp
    have hi := (List.getElem?_eq_some_iff.mp hn).1
    have hnm := List.mem_of_getElem? hn
    have hnl := clo.lt n hnm
    have hli : ls[n]? = some (ls.getD n (.inl "")) := by simp [List.getD, hnl]
    have hui : us[n]? = some us[n] := List.getElem?_eq_getElem (by omega)
    generalize us[n] = u at hui
    have iu := Paired.at hls n _ _ hli hui
    have S6 := s5.trans s6
    have lp : (∀ m ∈ lnPs (ls.getD n (.inl "")), m ∈ ns) ∧ (lnPs (ls.getD n (.inl ""))).length ≤ 2 := by
      have gl := hG n _ hli
      cases e : ls.getD n (.inl "") with
      | inl x => exact ⟨(fun m hm => by cases hm), Nat.zero_le _⟩
      | inr z =>
        rw [e] at hli gl
        obtain ⟨_, c, hc, _, cp⟩ := gl
        exact ⟨fun m hm => clo.cl n hnm z hli m hm, by have := g2 c hc; show z.2.length ≤ 2; omega⟩
    refine yes ⟨_, rfl, _, rfl, .inl ⟨lt, _, _, _, rfl, rfl, SqL.of (S6 _ _ hlt), atI_nat hui, ?_⟩⟩
    refine ⟨_, rfl, u, nd, ls.getD n (.inl ""), ns, o, rfl, iu.tk (Tk.of S6), hG.ltr hL hli, s6 _ _ hf5, clo.nd, lp.1, lp.2, by omega, fun w H7 s7 hw => ?_⟩
    have hD7 := s7 _ _ hD6
    refine cyes (by rw [nums_len]; exact hi) rset1 hD7 (small1000 (by omega)) ⟨(s6.trans s7).put hD, ?_, by rw [List.length_append, yl]; rfl⟩
    rw [take_snoc hn, List.map_append]
    exact Lns.tk (Tk.put hD7) (Lns.snoc (Lns.tk (Tk.of s7) hY) hw)
  · rintro ys H6 ⟨s6, hY, yl⟩ hD6
    rw [nums_len, List.take_length] at hY
    refine ⟨D, _, rfl, .inl ⟨SqL.of hD6, fun t ht => ?_⟩⟩
    have n7 := same_new ht (.tup ys)
    exact q t ys ns _ (s5.trans (s6.trans n7)) upd_same clo ris (Lns.tk (Tk.of n7) hY)
abbrev s_keep : Stmt := top 15
theorem sc_keep : FnScope ["found", "column", "line"] ["found", "column", "line"] (defScope s_keep) := ⟨rfl, rfl, rfl, by decide +kernel, rfl, by decide +kernel, by decide +kernel⟩
theorem ok_keep {P : Program} {w : World} {K : PySem.W.Frag} {mg : Str → Option Value} {base : Heap} {f : Addr} {fd : FuncData} (F : Fun K "keep" "keep" s_keep f fd) (gb : Gb mg) : FnOk P w K mg base CX0 1 f fd ["found", "column", "line"] spKeep := by
  refine F.ok sc_keep (fun vs H Q E h => ?_) (fun cdv A outer s H vs Q E hr h => ?_)
  · obtain ⟨fd, c, col, kvs, lv, rfl, _⟩ := h
    rfl
  obtain ⟨fd, c, col, kvs, lv, rfl, hfd, hc, h81, q1, q0⟩ := h
  refine ⟨_, (@pss_one _ _ _ (@ps_if _ _ _ _ _ _ _ _ (@pt_cmpR _ _ _ _ _ _ _ _ (@op_tNotIn _ _ hr) (@pv _ 1 _ _ (by rfl) (by walk_at "v") (by decide) (by decide)) (@pv _ 0 _ _ (by rfl) (by walk_at "v") (by decide) (by decide)) (by with_unfolding_all rfl)) (@pss_cons _ _ _ _ _ (@ps_if _ _ _ _ _ _ _ _ (@pt_cmpR _ _ _ _ _ _ _ _ (@op_eq _) (@pe_callB _ _ _ _ _ _ _ _ _ (@call_lenDT _) rfl gb.len bt_len (@pa_cons _ _ _ _ _ (@pv _ 0 _ _ (by rfl) (by walk_at "v") (by decide) (by decide)) (@pa_nil _) (by rfl)) (by decide) (by decide) (by rfl) (by rfl)) (@pe_globR _ _ _ _ rfl gb.MOST_COLUMNS (by decide)) (@nomark _ _ (by decide) (by decide))) (@pss_one _ _ _ (@ps_never _ _)) (@pss_nil _)) (@pss_one _ _ _ (@ps_dput _ _ _ _ _ _ _ _ _ (@hu1 _ _ hr) (@pv _ 0 _ _ (by rfl) (by walk_at "v") (by decide) (by decide)) (@pv _ 1 _ _ (by rfl) (by walk_at "v") (by decide) (by decide)) (@pv _ 2 _ _ (by rfl) (by walk_at "v") (by decide) (by decide)) rfl))) (@pss_nil _))), ?_⟩
  refine ⟨_, rfl, _, rfl, fd, c, kvs, colK col, rfl, rfl, hfd, by rw [colK_V]; exact hc, ?_⟩
  cases hv : valV kvs (colK col) with
  | some x => exact ⟨_, rfl, iteF (q1 (by rw [hv]; rfl))⟩
  | none =>
    refine ⟨_, rfl, iteT ?_⟩
    refine ⟨_, rfl, fd, kvs, rfl, hfd, rfl, _, rfl, iteN (decide_eq_false fun z => ?_) ?_⟩
    · have := V.int.inj z
      omega
    · refine ⟨_, rfl, _, rfl, _, rfl, fd, _, rfl, .t (k := colK col) hfd (by rw [colK_V]; exact hc) (small1000 (by omega)), ?_⟩
      rw [putK_new _ hv]
      exact q0 hv
abbrev s_lines_without_parts : Stmt := top 17
theorem sc_lines_without_parts : FnScope ["T"] ["T"] (defScope s_lines_without_parts) := ⟨rfl, rfl, rfl, by decide +kernel, rfl, by decide +kernel, by decide +kernel⟩
theorem ok_lines_without_parts {P : Program} {w : World} {K : PySem.W.Frag} {mg : Str → Option Value} {base : Heap} {f : Addr} {fd : FuncData} (F : Fun K "lines_without_parts" "lines_without_parts" s_lines_without_parts f fd) (gb : Gb mg) : FnOk P w K mg base CX0 1 f fd ["T"] spLines0 := by
  refine F.ok sc_lines_without_parts (fun vs H Q E h => ?_) (fun cdv A outer s H vs Q E hr h => ?_)
  · obtain ⟨v, T, rfl, _⟩ := h
    rfl
  obtain ⟨v, T, rfl, ia, gT, q⟩ := h
  have nd0 : (["name", "places", "cells"] : List Str).Nodup := by decide +kernel
  refine ⟨_, (@pss_one _ _ _ (@ps_ret _ _ _ _ (@pe_comp _ ["name", "places", "cells"] [none, none, none] _ _ _ _ _ _ _ _ _ _ (by exact (show CompOk ["T"] (defScope s_lines_without_parts) ["name", "places", "cells"] [none, none, none] _ from ⟨rfl, by decide +kernel, by decide +kernel, by decide +kernel, by decide +kernel, rfl, by decide +kernel⟩)) rfl (@kpi_tup _ K _ _ _ (@pe_ix _ _ _ _ _ _ _ (@kix_seq _ K (by rfl)) (@pv _ 0 _ _ (by rfl) (by walk_at "v") (by decide) (by decide)) (@pe_int _ _ _ _) (fun _ _ => rfl)) (by rfl)) (fun _ _ _ _ => (@kpg_tup _ K _ _ _ _ 3 rfl (@pgs_cons _ _ _ _ _ (@pg_name _ _ 0 _ nd0 rfl (Or.inl rfl) (by walk_at "f")) (@pgs_cons _ _ _ _ _ (@pg_name _ _ 1 _ nd0 rfl (Or.inl rfl) (by walk_at "f")) (@pgs_cons _ _ _ _ _ (@pg_name _ _ 2 _ nd0 rfl (Or.inl rfl) (by walk_at "f")) (@pgs_nil _) (by rfl)) (by rfl)) (by rfl)) (by rfl) (by rfl) (by rfl))) (fun _ _ _ _ => (@pf_one _ _ _ (@pt_cmpR _ _ _ _ _ _ _ _ (@op_eq _) (@pv _ 1 _ _ (by rfl) (by walk_at "v") (by decide) (by decide)) (@pe_int _ _ _ _) (@nomark _ _ (by decide) (by decide))))) (fun _ _ _ _ => (@pe_tup _ _ _ _ _ (@pa_cons _ _ _ _ _ (@pv _ 0 _ _ (by rfl) (by walk_at "v") (by decide) (by decide)) (@pa_nil _) (by rfl)))) (by intro _; rfl)))), ?_⟩
  obtain ⟨a, w0, c0, vs, rfl, h1, h2, h3, h4⟩ := id ia
  have gcl := gT.cl
  have gx : ∀ i, ∃ t u : Addr, i < T.cs.length → vs[i]? = some (.ref t) ∧ H t = some (.tup [.str (T.cs.getD i d0).nm, nV (T.cs.getD i d0).pl, .ref u]) ∧ H u = some (.tup ((T.cs.getD i d0).cs.map nV)) := fun i => by
    by_cases hi : i < T.cs.length
    · have hc : T.cs[i]? = some (T.cs.getD i d0) := by simp [List.getD, hi]
      obtain ⟨t, u, h⟩ := h4.get hc
      exact ⟨t, u, fun _ => h⟩
    · exact ⟨0, 0, fun h => absurd h hi⟩
  obtain ⟨ad, gx⟩ := Classical.axiomOfChoice gx
  obtain ⟨au, gx⟩ := Classical.axiomOfChoice gx
  have ge : ∀ i, i < T.cs.length → T.cs[i]? = some (T.cs.getD i d0) := fun i hi => by simp [List.getD, hi]
  refine ⟨_, rfl, .inr (.inl ⟨a, _, 2, _, rfl, rfl, SqT.of h1, rfl, c0, rfl, ⟨_, SqT.of h3⟩, fun D hD => ?_⟩)⟩
  refine comp_tt3m (n := T.cs.length) (ad := ad) (v1 := fun i => .str (T.cs.getD i d0).nm) (v2 := fun i => nV (T.cs.getD i d0).pl) (v3 := fun i => .ref (au i)) (more := []) (fun i ys H' => Same H H' ∧ ys.length ≤ i ∧ Lzs H' (l0 (T.cs.take i)) ys) ⟨same_new hD _, Nat.le_refl _, .nil⟩ h4.len.symm (fun i hi => (gx i hi).1) (fun i ys H' h _ => SqT.of (h.1 _ _ h3)) (fun i ys H' hi h => SqT.of (h.1 _ _ (gx i hi).2.1)) ?_ ?_
  · rintro i ys H1 hi ⟨s1, yl, hP⟩ hD1
    refine ⟨_, rfl, rfl, _, rfl, ?_⟩
    have et := take_snoc (ge i hi)
    by_cases e : (T.cs.getD i d0).pl = 0
    · refine iteP (decide_eq_true (by rw [e]; rfl)) ⟨_, rfl, small9 (by show 1 ≤ 1000; decide), fun t1 ht1 => ?_⟩
      have n1 := same_new ht1 (.tup [.str (T.cs.getD i d0).nm])
      have hD2 := n1 _ _ hD1
      refine cyes hi ⟨_, _, _, rfl⟩ hD2 (small1000 (by omega)) ⟨(s1.trans n1).put hD, by rw [List.length_append]; show ys.length + 1 ≤ i + 1; omega, ?_⟩
      have e2 : l0 (T.cs.take (i + 1)) = l0 (T.cs.take i) ++ [((T.cs.getD i d0).nm, [])] := by rw [et, l0_yes _ e]
      rw [e2]
      unfold Lzs
      rw [List.map_append]
      exact Lns.snoc (Lns.tk (Tk.put hD2) (Lns.tk (Tk.of n1) hP)) ⟨t1, rfl, Tk.put hD2 _ _ upd_same⟩
    · refine iteN (decide_eq_false fun z => e ?_) (cno hi ⟨_, _, _, rfl⟩ hD1 ⟨s1, by omega, ?_⟩)
      · have := V.int.inj z
        omega
      · have e2 : l0 (T.cs.take (i + 1)) = l0 (T.cs.take i) := by rw [et, l0_no _ e]
        rw [e2]
        exact hP
  · rintro ys H1 ⟨s1, yl, hP⟩ hD1
    rw [List.take_length] at hP
    exact q D ys H1 s1 hD1 hP
abbrev s_lines_with : Stmt := top 18
theorem sc_lines_with : FnScope ["T", "number", "lines", "name", "places", "cells"] ["T", "number"] (defScope s_lines_with) := ⟨rfl, rfl, rfl, by decide +kernel, rfl, by decide +kernel, by decide +kernel⟩
theorem ok_lines_with {P : Program} {w : World} {K : PySem.W.Frag} {mg : Str → Option Value} {base : Heap} {f : Addr} {fd : FuncData} (F : Fun K "lines_with" "lines_with" s_lines_with f fd) (gb : Gb mg) : FnOk P w K mg base CX0 1 f fd ["T", "number"] spLinesW := by
  refine F.ok sc_lines_with (fun vs H Q E h => ?_) (fun cdv A outer s H vs Q E hr h => ?_)
  · obtain ⟨v, T, k, rfl, _⟩ := h
    rfl
  obtain ⟨v, T, k, rfl, ia, gT, k20, q⟩ := h
  have nd0 : (["other", "name", "number"] : List Str).Nodup := by decide +kernel
  have nd1 : (["other", "name", "number"] : List Str).Nodup := by decide +kernel
  refine ⟨_, (@pss_cons _ _ _ _ _ (@ps_set _ _ 2 _ _ _ _ sc_lines_with.nd rfl (Or.inl rfl) (@pe_lst _ _ _ _ (@pa_nil _)) (by rfl) (by walk_at "f")) (@pss_cons _ _ _ _ _ (@ps_for _ _ _ _ _ _ _ _ PassesOwn.never rfl (@kpi_tup _ K _ _ _ (@pe_ix _ _ _ _ _ _ _ (@kix_seq _ K (by rfl)) (@pv _ 0 _ _ (by rfl) (by walk_at "v") (by decide) (by decide)) (@pe_int _ _ _ _) (fun _ _ => rfl)) (by rfl)) (@kpg_tup _ K _ _ _ _ 3 rfl (@pgs_cons _ _ _ _ _ (@pg_name _ _ 3 _ sc_lines_with.nd rfl (Or.inr rfl) (by walk_at "f")) (@pgs_cons _ _ _ _ _ (@pg_name _ _ 4 _ sc_lines_with.nd rfl (Or.inl rfl) (by walk_at "f")) (@pgs_cons _ _ _ _ _ (@pg_name _ _ 5 _ sc_lines_with.nd rfl (Or.inl rfl) (by walk_at "f")) (@pgs_nil _) (by rfl)) (by rfl)) (by rfl)) (by rfl) (by rfl) (by rfl)) (@pss_cons _ _ _ _ _ (@ps_if _ _ _ _ _ _ _ _ (@pt_cmpR _ _ _ _ _ _ _ _ (@op_eq _) (@pv _ 4 _ _ (by rfl) (by walk_at "v") (by decide) (by decide)) (@pe_int _ _ _ _) (@nomark _ _ (by decide) (by decide))) (@pss_one _ _ _ (@ps_expr _ _ _ _ (@kpe_bm _ K _ _ _ _ _ _ _ _ _ _ _ PySem.F.plainAttrs_list PySem.F.slot_list_append PySem.F.type_list_append (@mt_append _) (@pv _ 2 _ _ (by rfl) (by walk_at "v") (by decide) (by decide)) (@pa_cons _ _ _ _ _ (@pe_tup _ _ _ _ _ (@pa_cons _ _ _ _ _ (@pv _ 3 _ _ (by rfl) (by walk_at "v") (by decide) (by decide)) (@pa_cons _ _ _ _ _ (@pv _ 1 _ _ (by rfl) (by walk_at "v") (by decide) (by decide)) (@pa_nil _) (by rfl)) (by rfl))) (@pa_nil _) (by rfl)) (by rfl) (by rfl) (by rfl) (by rfl) (by rfl) (by rfl)) (by rfl))) (@pss_nil _)) (@pss_one _ _ _ (@ps_if _ _ _ _ _ _ _ _ (@pt_cmpR _ _ _ _ _ _ _ _ (@op_eq _) (@pv _ 4 _ _ (by rfl) (by walk_at "v") (by decide) (by decide)) (@pe_int _ _ _ _) (@nomark _ _ (by decide) (by decide))) (@pss_cons _ _ _ _ _ (@ps_expr _ _ _ _ (@kpe_bm _ K _ _ _ _ _ _ _ _ _ _ _ PySem.F.plainAttrs_list PySem.F.slot_list_extend PySem.F.type_list_extend (@mt_extend _) (@pv _ 2 _ _ (by rfl) (by walk_at "v") (by decide) (by decide)) (@pa_cons _ _ _ _ _ (@pe_comp _ ["other", "name", "number"] [none, some 3, some 1] _ _ _ _ _ _ _ _ _ _ (by exact (show CompOk ["T", "number", "lines", "name", "places", "cells"] (defScope s_lines_with) ["other", "name", "number"] [none, some 3, some 1] _ from ⟨rfl, by decide +kernel, by decide +kernel, by decide +kernel, by decide +kernel, rfl, by decide +kernel⟩)) rfl (@pi_range1 _ _ _ _ _ _ rfl gb.range (@pa_cons _ _ _ _ _ (@pe_op _ _ _ _ _ _ _ _ (@op_add _) (@pv _ 1 _ _ (by rfl) (by walk_at "v") (by decide) (by decide)) (@pe_int _ _ _ _)) (@pa_nil _) (by rfl)) (by rfl)) (fun _ _ _ _ => (@pg_name _ _ 0 _ nd0 rfl (Or.inl rfl) (by walk_at "f"))) (fun _ _ _ _ => (@pf_nil _)) (fun _ _ _ _ => (@pe_tup _ _ _ _ _ (@pa_cons _ _ _ _ _ (@pv _ 1 _ _ (by rfl) (by walk_at "v") (by decide) (by decide)) (@pa_cons _ _ _ _ _ (@pv _ 2 _ _ (by rfl) (by walk_at "v") (by decide) (by decide)) (@pa_cons _ _ _ _ _ (@pv _ 0 _ _ (by rfl) (by walk_at "v") (by decide) (by decide)) (@pa_nil _) (by rfl)) (by rfl)) (by rfl)))) (by intro _; rfl)) (@pa_nil _) (by rfl)) (by rfl) (by rfl) (by rfl) (by rfl) (by rfl) (by rfl)) (by rfl)) (@pss_one _ _ _ (@ps_expr _ _ _ _ (@kpe_bm _ K _ _ _ _ _ _ _ _ _ _ _ PySem.F.plainAttrs_list PySem.F.slot_list_extend PySem.F.type_list_extend (@mt_extend _) (@pv _ 2 _ _ (by rfl) (by walk_at "v") (by decide) (by decide)) (@pa_cons _ _ _ _ _ (@pe_comp _ ["other", "name", "number"] [none, some 3, some 1] _ _ _ _ _ _ _ _ _ _ (by exact (show CompOk ["T", "number", "lines", "name", "places", "cells"] (defScope s_lines_with) ["other", "name", "number"] [none, some 3, some 1] _ from ⟨rfl, by decide +kernel, by decide +kernel, by decide +kernel, by decide +kernel, rfl, by decide +kernel⟩)) rfl (@pi_range1 _ _ _ _ _ _ rfl gb.range (@pa_cons _ _ _ _ _ (@pv _ 1 _ _ (by rfl) (by walk_at "v") (by decide) (by decide)) (@pa_nil _) (by rfl)) (by rfl)) (fun _ _ _ _ => (@pg_name _ _ 0 _ nd1 rfl (Or.inl rfl) (by walk_at "f"))) (fun _ _ _ _ => (@pf_nil _)) (fun _ _ _ _ => (@pe_tup _ _ _ _ _ (@pa_cons _ _ _ _ _ (@pv _ 1 _ _ (by rfl) (by walk_at "v") (by decide) (by decide)) (@pa_cons _ _ _ _ _ (@pv _ 0 _ _ (by rfl) (by walk_at "v") (by decide) (by decide)) (@pa_cons _ _ _ _ _ (@pv _ 2 _ _ (by rfl) (by walk_at "v") (by decide) (by decide)) (@pa_nil _) (by rfl)) (by rfl)) (by rfl)))) (by intro _; rfl)) (@pa_nil _) (by rfl)) (by rfl) (by rfl) (by rfl) (by rfl) (by rfl) (by rfl)) (by rfl)))) (@pss_nil _)))) (by intro _; rfl)) (@pss_one _ _ _ (@ps_ret _ _ _ _ (@pv _ 2 _ _ (by rfl) (by walk_at "v") (by decide) (by decide)))))), ?_⟩
  obtain ⟨a, w0, c0, vs, rfl, h1, h2, h3, h4⟩ := id ia
  have gcl := gT.cl
  refine ⟨small9 (by show 0 ≤ 1000; decide), fun sl hsl => ?_⟩
  have n0 := same_new hsl (.lst [])
  refine ⟨_, rfl, .inr (.inl ⟨a, _, 2, _, rfl, rfl, SqT.of (n0 _ _ h1), rfl, c0, rfl, ⟨_, SqT.of (n0 _ _ h3)⟩, ?_⟩)⟩
  refine for_tup (xs := vs) (fun i σ H' => (∃ x2 x3 x4, σ = [some (.ref a), some (nV k), some (.ref sl), x2, x3, x4]) ∧ Same H H' ∧ ∃ xs, H' sl = some (.lst xs) ∧ Lzs H' (lw k (T.cs.take i)) xs) ⟨⟨_, _, _, rfl⟩, n0, [], upd_same, .nil⟩ (fun i σ H' _ h => SqT.of (h.2.1 _ _ h3)) ?_ ?_
  · rintro i x σ H1 hx ⟨⟨x2, x3, x4, rfl⟩, s1, xs, hs, hS⟩
    have hi : i < T.cs.length := by
      rw [h4.len]
      exact (List.getElem?_eq_some_iff.mp hx).1
    have hcc : T.cs[i]? = some T.cs[i] := List.getElem?_eq_getElem hi
    generalize T.cs[i] = cc at hcc
    obtain ⟨nl, p2, cs3⟩ := gT.cn cc (List.mem_of_getElem? hcc)
    obtain ⟨t, u, e1, k1, k2⟩ := h4.get hcc
    rw [hx] at e1
    cases e1
    have xl : xs.length ≤ 42 * i := by
      have l1 := Paired.length hS
      have l2 := lw_len k20 (T.cs.take i)
      rw [List.length_take] at l2
      rw [List.length_map] at l1
      omega
    have ew : lw k (T.cs.take (i + 1)) = lw k (T.cs.take i) ++ lwC k cc := by
      rw [take_snoc hcc]
      unfold lw
      rw [List.flatMap_append, List.flatMap_singleton]
    refine ⟨t, _, rfl, SqT.of (s1 _ _ k1), rfl, _, _, rfl, _, _, rfl, _, _, rfl, rfl, ?_⟩
    refine ⟨_, rfl, rfl, _, rfl, ?_⟩
    by_cases p1 : cc.pl = 1
    · refine iteP (decide_eq_true (by rw [p1]; rfl)) ?_
      refine ⟨_, rfl, .inl ⟨rfl, _, SqL.of hs⟩, _, rfl, _, rfl, small9 (by show 2 ≤ 1000; decide), fun t1 ht1 => ?_⟩
      have n1 := same_new ht1 (.tup [.str cc.nm, nV k])
      have hs1 := n1 _ _ hs
      refine ⟨sl, _, _, rfl, rfl, hs1, small1000 (by omega), ?_⟩
      refine ⟨_, rfl, rfl, _, rfl, ?_⟩
      refine iteN (decide_eq_false fun z => ?_) ?_
      · have := V.int.inj z
        omega
      refine ⟨⟨_, _, _, rfl⟩, (s1.trans n1).put hsl, _, upd_same, ?_⟩
      rw [ew]
      have e : lwC k cc = [(cc.nm, [k])] := by
        unfold lwC
        rw [if_pos p1, if_neg (by omega), List.append_nil]
      rw [e]
      exact Lzs.app (Lns.tk ((Tk.of n1).trans (Tk.put hs1)) hS) (.cons ⟨t1, rfl, Tk.put hs1 _ _ upd_same⟩ .nil)
    refine iteN (decide_eq_false fun z => p1 ?_) ?_
    · have := V.int.inj z
      omega
    refine ⟨_, rfl, rfl, _, rfl, ?_⟩
    by_cases p2' : cc.pl = 2
    · refine iteP (decide_eq_true (by rw [p2']; rfl)) ?_
      have half : ∀ (f : Nat → List Nat) (tt : TA) (n : Nat) (H2 : Hp) (D : Addr) (Q : VK), (∀ o H' Q', Q' (.str cc.nm :: (f o).map nV) H' → tt [some (nV o), some (.str cc.nm), some (nV k)] H' Q') → (∀ o, (f o).length = 2) → n ≤ 21 → H2 D = none → (∀ ys H3, Same H2 H3 → H3 D = some (.lst ys) → ys.length = n → Lzs H3 ((List.range n).map fun o => (cc.nm, f o)) ys → Q (.ref D) H3) →
          CompGo (Itr 0 n) (gName 0) tYes (tTup tt) [none, some (.str cc.nm), some (nV k)] H2 Q D := fun f tt n H2 D Q ht hf hn hD q2 => by
        refine comp_range (fun j ys H' => Same H2 H' ∧ ys.length = j ∧ Lzs H' ((List.range j).map fun o => (cc.nm, f o)) ys) ⟨same_new hD _, rfl, .nil⟩ ?_ ?_
        · rintro j ys H3 hj ⟨s3, yl, hY⟩ hD3
          have ej : V.int (0 + (j : Int)) = nV j := by show V.int _ = V.int _; rw [Int.zero_add]
          rw [ej]
          refine yes (ht j H3 _ ⟨small9 (by rw [List.length_cons, List.length_map, hf]; decide), fun t1 ht1 => ?_⟩)
          have n1 := same_new ht1 (.tup (.str cc.nm :: (f j).map nV))
          have hD4 := n1 _ _ hD3
          refine cyes hj rset1 hD4 (small1000 (by omega)) ⟨(s3.trans n1).put hD, by rw [List.length_append, yl]; rfl, ?_⟩
          rw [List.range_succ, List.map_append]
          exact Lzs.app (Lns.tk ((Tk.of n1).trans (Tk.put hD4)) hY) (.cons ⟨t1, rfl, Tk.put hD4 _ _ upd_same⟩ .nil)
        · rintro ys H3 ⟨s3, yl, hY⟩ hD3
          exact q2 ys H3 s3 hD3 yl hY
      refine ⟨_, rfl, .inl ⟨rfl, _, SqL.of hs⟩, ?_⟩
      refine ⟨_, rfl, _, _, rfl, rfl, (k : Int) + 1, rfl, by omega, by omega, fun D hD => ?_⟩
      rw [show ((k : Int) + 1).toNat = k + 1 by omega]
      refine half (fun o => [k, o]) _ (k + 1) H1 D _ (fun o H' Q' h => ⟨_, rfl, _, rfl, _, rfl, h⟩) (fun o => rfl) (by omega) hD fun ys H2 s2 hD2 yl hY => ?_
      have hs2 := s2 _ _ hs
      refine ⟨sl, D, _, _, rfl, rfl, hs2, hD2, small9 (by omega), ?_⟩
      have s02 : Same H (upd H2 sl (.lst (xs ++ ys))) := (s1.trans s2).put hsl
      have hs2' : (upd H2 sl (.lst (xs ++ ys))) sl = some (.lst (xs ++ ys)) := upd_same
      have hS2 : Lzs (upd H2 sl (.lst (xs ++ ys))) (lw k (T.cs.take i) ++ (List.range (k + 1)).map fun o => (cc.nm, [k, o])) (xs ++ ys) := Lns.tk (Tk.put hs2) (Lzs.app (Lns.tk (Tk.of s2) hS) hY)
      generalize upd H2 sl (.lst (xs ++ ys)) = H3 at *
      refine ⟨_, rfl, .inl ⟨rfl, _, SqL.of hs2'⟩, ?_⟩
      refine ⟨_, rfl, (k : Int), rfl, by omega, by omega, fun D3 hD3 => ?_⟩
      rw [Int.toNat_natCast]
      refine half (fun o => [o, k]) _ k H3 D3 _ (fun o H' Q' h => ⟨_, rfl, _, rfl, _, rfl, h⟩) (fun o => rfl) (by omega) hD3 fun zs H4 s4 hD4 zl hZ => ?_
      have hs4 := s4 _ _ hs2'
      refine ⟨sl, D3, _, _, rfl, rfl, hs4, hD4, small9 (by rw [List.length_append]; omega), ?_⟩
      refine ⟨⟨_, _, _, rfl⟩, (s02.trans s4).put hsl, _, upd_same, ?_⟩
      have e : lwC k cc = ((List.range (k + 1)).map fun o => (cc.nm, [k, o])) ++ (List.range k).map fun o => (cc.nm, [o, k]) := by
        unfold lwC
        rw [if_neg p1, if_pos p2', List.nil_append]
      rw [ew, e, ← List.append_assoc]
      exact Lns.tk (Tk.put hs4) (Lzs.app (Lns.tk (Tk.of s4) hS2) hZ)
    · refine iteN (decide_eq_false fun z => p2' ?_) ?_
      · have := V.int.inj z
        omega
      refine ⟨⟨_, _, _, rfl⟩, s1, xs, hs, ?_⟩
      have e : lwC k cc = [] := by
        unfold lwC
        rw [if_neg p1, if_neg p2']
        rfl
      rw [ew, e, List.append_nil]
      exact hS
  · rintro σ H1 ⟨⟨x2, x3, x4, rfl⟩, s1, xs, hs, hS⟩
    rw [← h4.len, List.take_length] at hS
    exact ⟨_, rfl, q sl xs H1 s1 hs hS⟩
abbrev s_all_sayable : Stmt := top 14
theorem sc_all_sayable : FnScope ["T", "columns", "length", "cells", "found", "letter", "column", "line", "number", "ahead"] ["T", "columns", "length"] (defScope s_all_sayable) := ⟨rfl, rfl, rfl, by decide +kernel, rfl, by decide +kernel, by decide +kernel⟩
theorem ok_all_sayable {P : Program} {w : World} {K : PySem.W.Frag} {mg : Str → Option Value} {base : Heap} {f : Addr} {fd : FuncData} (F : Fun K "all_sayable" "all_sayable" s_all_sayable f fd) (gb : Gb mg) (d_cells_by_name : Def P w K mg base 1 "cells_by_name" ["H"] spCbn) (d_keep : Def P w K mg base 1 "keep" ["found", "column", "line"] spKeep) (d_line_column : Def P w K mg base 2 "line_column" ["T", "cells", "ahead", "line", "length"] spLineC) (d_lines_without_parts : Def P w K mg base 1 "lines_without_parts" ["T"] spLines0) (d_lines_with : Def P w K mg base 1 "lines_with" ["T", "number"] spLinesW) : FnOk P w K mg base CX0 4 f fd ["T", "columns", "length"] spAllSay := by
  refine F.ok sc_all_sayable (fun vs H Q E h => ?_) (fun cdv A outer s H vs Q E hr h => ?_)
  · obtain ⟨v, ct, T, cps, cvs, len, rfl, _⟩ := h
    rfl
  obtain ⟨v, ct, T, cps, cvs, len, rfl, ia, gT, nT, hct, hpc, hgc, n9, p16, q⟩ := h
  refine ⟨_, (@pss_cons _ _ _ _ _ (@ps_set _ _ 3 _ _ _ _ sc_all_sayable.nd rfl (Or.inl rfl) (@pe_def _ _ _ _ _ _ _ _ _ _ _ d_cells_by_name hr (by omega) rfl (@pa_cons _ _ _ _ _ (@pv _ 0 _ _ (by rfl) (by walk_at "v") (by decide) (by decide)) (@pa_nil _) (by rfl)) (by decide) (by rfl) (by rfl)) (by rfl) (by walk_at "f")) (@pss_cons _ _ _ _ _ (@ps_set _ _ 4 _ _ _ _ sc_all_sayable.nd rfl (Or.inl rfl) pe_dnewT (by rfl) (by walk_at "f")) (@pss_cons _ _ _ _ _ (@ps_for _ _ _ _ _ _ _ _ PassesOwn.never rfl (@kpi_tup _ K _ _ _ (@pv _ 1 _ _ (by rfl) (by walk_at "v") (by decide) (by decide)) (by rfl)) (@kpg_tup _ K _ _ _ _ 2 rfl (@pgs_cons _ _ _ _ _ (@pg_name _ _ 5 _ sc_all_sayable.nd rfl (Or.inl rfl) (by walk_at "f")) (@pgs_cons _ _ _ _ _ (@pg_name _ _ 6 _ sc_all_sayable.nd rfl (Or.inl rfl) (by walk_at "f")) (@pgs_nil _) (by rfl)) (by rfl)) (by rfl) (by rfl) (by rfl)) (@pss_one _ _ _ (@ps_expr _ _ _ _ (@pe_def _ _ _ _ _ _ _ _ _ _ _ d_keep hr (by omega) rfl (@pa_cons _ _ _ _ _ (@pv _ 4 _ _ (by rfl) (by walk_at "v") (by decide) (by decide)) (@pa_cons _ _ _ _ _ (@pe_callTy _ _ _ _ _ _ _ _ _ (@kcall_tuple_of _ K (by rfl)) rfl gb.tuple bt_tuple (@pa_cons _ _ _ _ _ (@pe_callTy _ _ _ _ _ _ _ _ _ (@kcall_list_of _ K (by rfl)) rfl gb.list bt_list (@pa_cons _ _ _ _ _ (@pv _ 6 _ _ (by rfl) (by walk_at "v") (by decide) (by decide)) (@pa_nil _) (by rfl)) (by decide) (by decide) (by rfl) (by rfl)) (@pa_nil _) (by rfl)) (by decide) (by decide) (by rfl) (by rfl)) (@pa_cons _ _ _ _ _ (@pv _ 5 _ _ (by rfl) (by walk_at "v") (by decide) (by decide)) (@pa_nil _) (by rfl)) (by rfl)) (by rfl)) (by decide) (by rfl) (by rfl)) (by rfl))) (by intro _; rfl)) (@pss_cons _ _ _ _ _ (@ps_for _ _ _ _ _ _ _ _ PassesOwn.never rfl (@kpi_list _ K _ _ _ (@pe_def _ _ _ _ _ _ _ _ _ _ _ d_lines_without_parts hr (by omega) rfl (@pa_cons _ _ _ _ _ (@pv _ 0 _ _ (by rfl) (by walk_at "v") (by decide) (by decide)) (@pa_nil _) (by rfl)) (by decide) (by rfl) (by rfl)) (by rfl)) (@pg_name _ _ 7 _ sc_all_sayable.nd rfl (Or.inl rfl) (by walk_at "f")) (@pss_one _ _ _ (@ps_expr _ _ _ _ (@pe_def _ _ _ _ _ _ _ _ _ _ _ d_keep hr (by omega) rfl (@pa_cons _ _ _ _ _ (@pv _ 4 _ _ (by rfl) (by walk_at "v") (by decide) (by decide)) (@pa_cons _ _ _ _ _ (@pe_def _ _ _ _ _ _ _ _ _ _ _ d_line_column hr (by omega) rfl (@pa_cons _ _ _ _ _ (@pv _ 0 _ _ (by rfl) (by walk_at "v") (by decide) (by decide)) (@pa_cons _ _ _ _ _ (@pv _ 3 _ _ (by rfl) (by walk_at "v") (by decide) (by decide)) (@pa_cons _ _ _ _ _ (@pe_lst _ _ _ _ (@pa_nil _)) (@pa_cons _ _ _ _ _ (@pv _ 7 _ _ (by rfl) (by walk_at "v") (by decide) (by decide)) (@pa_cons _ _ _ _ _ (@pv _ 2 _ _ (by rfl) (by walk_at "v") (by decide) (by decide)) (@pa_nil _) (by rfl)) (by rfl)) (by rfl)) (by rfl)) (by rfl)) (by decide) (by rfl) (by rfl)) (@pa_cons _ _ _ _ _ (@pv _ 7 _ _ (by rfl) (by walk_at "v") (by decide) (by decide)) (@pa_nil _) (by rfl)) (by rfl)) (by rfl)) (by decide) (by rfl) (by rfl)) (by rfl))) (by intro _; rfl)) (@pss_cons _ _ _ _ _ (@ps_set _ _ 8 _ _ _ _ sc_all_sayable.nd rfl (Or.inl rfl) (@pe_int _ _ _ _) (by rfl) (by walk_at "f")) (@pss_cons _ _ _ _ _ (@ps_while _ _ _ _ _ _ PassesOwn.never (@pt_cmpR _ _ _ _ _ _ _ _ (@op_lt _) (@pv _ 8 _ _ (by rfl) (by walk_at "v") (by decide) (by decide)) (@pe_callB _ _ _ _ _ _ _ _ _ (@call_lenDT _) rfl gb.len bt_len (@pa_cons _ _ _ _ _ (@pv _ 4 _ _ (by rfl) (by walk_at "v") (by decide) (by decide)) (@pa_nil _) (by rfl)) (by decide) (by decide) (by rfl) (by rfl)) (@nomark _ _ (by decide) (by decide))) (@pss_cons _ _ _ _ _ (@ps_set _ _ 9 _ _ _ _ sc_all_sayable.nd rfl (Or.inl rfl) (@pe_callTy _ _ _ _ _ _ _ _ _ (@call_listDT _ rfl) rfl gb.list bt_list (@pa_cons _ _ _ _ _ (@pv _ 4 _ _ (by rfl) (by walk_at "v") (by decide) (by decide)) (@pa_nil _) (by rfl)) (by decide) (by decide) (by rfl) (by rfl)) (by rfl) (by walk_at "f")) (@pss_cons _ _ _ _ _ (@ps_for _ _ _ _ _ _ _ _ PassesOwn.never rfl (@kpi_list _ K _ _ _ (@pe_def _ _ _ _ _ _ _ _ _ _ _ d_lines_with hr (by omega) rfl (@pa_cons _ _ _ _ _ (@pv _ 0 _ _ (by rfl) (by walk_at "v") (by decide) (by decide)) (@pa_cons _ _ _ _ _ (@pv _ 8 _ _ (by rfl) (by walk_at "v") (by decide) (by decide)) (@pa_nil _) (by rfl)) (by rfl)) (by decide) (by rfl) (by rfl)) (by rfl)) (@pg_name _ _ 7 _ sc_all_sayable.nd rfl (Or.inl rfl) (by walk_at "f")) (@pss_one _ _ _ (@ps_expr _ _ _ _ (@pe_def _ _ _ _ _ _ _ _ _ _ _ d_keep hr (by omega) rfl (@pa_cons _ _ _ _ _ (@pv _ 4 _ _ (by rfl) (by walk_at "v") (by decide) (by decide)) (@pa_cons _ _ _ _ _ (@pe_def _ _ _ _ _ _ _ _ _ _ _ d_line_column hr (by omega) rfl (@pa_cons _ _ _ _ _ (@pv _ 0 _ _ (by rfl) (by walk_at "v") (by decide) (by decide)) (@pa_cons _ _ _ _ _ (@pv _ 3 _ _ (by rfl) (by walk_at "v") (by decide) (by decide)) (@pa_cons _ _ _ _ _ (@pv _ 9 _ _ (by rfl) (by walk_at "v") (by decide) (by decide)) (@pa_cons _ _ _ _ _ (@pv _ 7 _ _ (by rfl) (by walk_at "v") (by decide) (by decide)) (@pa_cons _ _ _ _ _ (@pv _ 2 _ _ (by rfl) (by walk_at "v") (by decide) (by decide)) (@pa_nil _) (by rfl)) (by rfl)) (by rfl)) (by rfl)) (by rfl)) (by decide) (by rfl) (by rfl)) (@pa_cons _ _ _ _ _ (@pv _ 7 _ _ (by rfl) (by walk_at "v") (by decide) (by decide)) (@pa_nil _) (by rfl)) (by rfl)) (by rfl)) (by decide) (by rfl) (by rfl)) (by rfl))) (by intro _; rfl)) (@pss_one _ _ _ (@ps_set _ _ 8 _ _ _ _ sc_all_sayable.nd rfl (Or.inl rfl) (@pe_op _ _ _ _ _ _ _ _ (@op_add _) (@pv _ 8 _ _ (by rfl) (by walk_at "v") (by decide) (by decide)) (@pe_int _ _ _ _)) (by rfl) (by walk_at "f")))))) (@pss_one _ _ _ (@ps_ret _ _ _ _ (@pv _ 4 _ _ (by rfl) (by walk_at "v") (by decide) (by decide)))))))))), ?_⟩
  have p2 : ∀ c ∈ T.cs, c.pl ≤ 2 := fun c hc => (gT.cn c hc).2.1
  have few : ∀ {cols ls}, FdM T (cps.map Prod.fst) len (cps.map Prod.snd) cols ls → cols.length ≤ 16 := fun m => Nat.le_trans (cols_few m.nd m.gc) p16
  refine ⟨_, rfl, v, T, rfl, ia, gT, nT, fun e H1 s1 hcd => ?_⟩
  refine fun fd hfd => ?_
  have fdH := s1.free hfd
  have n1 := same_new hfd (.dT [])
  have cpl := Paired.length hpc
  refine ⟨_, rfl, ct, rfl, ⟨_, SqT.of (n1 _ _ (s1 _ _ hct))⟩, ?_⟩
  refine for_tup (xs := cvs) (fun i σ H' => (∃ x5 x6 x7 x8 x9, σ = [some v, some (.ref ct), some (nV len), some (.ref e), some (.ref fd), x5, x6, x7, x8, x9]) ∧ Same H1 H' ∧ ∃ cols ls, FdH H' fd cols ls ∧ FdM T (cps.map Prod.fst) len (cps.map Prod.snd) cols ls ∧ ∀ p ∈ cps.take i, p.2 ∈ cols) ⟨⟨_, _, _, _, _, rfl⟩, n1, [], [], ⟨[], upd_same, rfl, .nil⟩, ⟨.nil, (fun c h => by cases h), (fun c h => by cases h), (fun i l h => by simp at h), rfl⟩, fun p h => by simp at h⟩ (fun i σ H' _ h => SqT.of ((s1.trans h.2.1) _ _ hct)) ?_ ?_
  · rintro i x σ H2 hx ⟨⟨x5, x6, x7, x8, x9, rfl⟩, s2, cols, ls, hF, hM, hB⟩
    have hi : i < cps.length := by
      rw [cpl]
      exact (List.getElem?_eq_some_iff.mp hx).1
    have hp : cps[i]? = some cps[i] := List.getElem?_eq_getElem hi
    generalize cps[i] = p at hp
    have pm := List.mem_of_getElem? hp
    obtain ⟨lp, gp⟩ := hgc p pm
    obtain ⟨t, u, rfl, ht, hu⟩ := Paired.at hpc i _ _ hp hx
    have S2 := s1.trans s2
    refine ⟨t, _, rfl, SqT.of (S2 _ _ ht), rfl, _, _, rfl, _, _, rfl, rfl, ?_⟩
    refine ⟨_, rfl, _, rfl, u, _, rfl, .inr (SqT.of (S2 _ _ hu)), fun l1 hl1 => ?_⟩
    have n3 := same_new hl1 (.lst (p.2.map nV))
    refine ⟨l1, _, rfl, .inl ⟨SqL.of upd_same, fun c hc => ⟨_, rfl, ?_⟩⟩⟩
    have n4 := same_new hc (.tup (p.2.map nV))
    dsimp only [tNil]
    refine keep_ok (l := .inl p.1) (hF.same (n3.trans n4)) hM upd_same gp (.base (List.mem_map.mpr ⟨p, pm, rfl⟩)) (List.mem_map.mpr ⟨p, pm, rfl⟩) rfl (by have := few hM; omega) fun H5 cols' ls' o5 k5 hF5 hM5 hmo hin => ?_
    obtain ⟨more, rfl⟩ := hmo
    refine ⟨⟨_, _, _, _, _, rfl⟩, same_off (s2.trans (n3.trans n4)) hfd o5, _, _, hF5, hM5, fun p' hp' => ?_⟩
    rw [take_snoc hp] at hp'
    rcases List.mem_append.mp hp' with h | h
    · exact List.mem_append_left _ (hB p' h)
    · rw [List.mem_singleton.mp h]
      exact hin
  rintro σ H2 ⟨⟨x5, x6, x7, x8, x9, rfl⟩, s2, cols, ls, hF, hM, hB0⟩
  rw [← cpl, List.take_length] at hB0
  have hB : ∀ b ∈ cps.map Prod.snd, b ∈ cols := fun b hb => by
    obtain ⟨p, hp, rfl⟩ := List.mem_map.mp hb
    exact hB0 p hp
  refine ⟨_, rfl, v, T, rfl, ia.same (s1.trans s2), gT, fun l us H3 s3 hl hus => ⟨l, rfl, ⟨_, SqL.of hl⟩, ?_⟩⟩
  have lfd : l ≠ fd := fun z => by
    obtain ⟨kvs, h, _⟩ := hF.same s3
    rw [← z, hl] at h
    cases h
  have ul := Paired.length hus
  rw [List.length_map] at ul
  refine for_list (xs := us) (fun j σ H' => (∃ x5 x6 x7 x8 x9, σ = [some v, some (.ref ct), some (nV len), some (.ref e), some (.ref fd), x5, x6, x7, x8, x9]) ∧ Same H1 H' ∧ H' l = some (.lst us) ∧ Lzs H' (l0 T.cs) us ∧ ∃ cols ls, FdH H' fd cols ls ∧ FdM T (cps.map Prod.fst) len (cps.map Prod.snd) cols ls ∧ (∀ b ∈ cps.map Prod.snd, b ∈ cols) ∧ ∀ z ∈ (l0 T.cs).take j, lineV T len cols z ∈ cols) ⟨⟨_, _, _, _, _, rfl⟩, s2.trans s3, hl, hus, cols, ls, hF.same s3, hM, hB, fun z h => by simp at h⟩ (fun j σ H' _ h => SqL.of h.2.2.1) ?_ ?_
  · rintro j x σ H4 hx ⟨⟨x5, x6, x7, x8, x9, rfl⟩, s4, hl4, hus4, cols, ls, hF, hM, hB, hZ⟩
    have hj : j < (l0 T.cs).length := by
      rw [ul]
      exact (List.getElem?_eq_some_iff.mp hx).1
    have hz : (l0 T.cs)[j]? = some (l0 T.cs)[j] := List.getElem?_eq_getElem hj
    generalize (l0 T.cs)[j] = z at hz
    obtain ⟨z0, zc⟩ := l0_mem (List.mem_of_getElem? hz)
    obtain ⟨t, rfl, ht⟩ := Paired.at hus4 j (Sum.inr z) _ (by rw [List.getElem?_map, hz]; rfl) hx
    have zn : ∀ n ∈ z.2, n < ([] : List (List Nat)).length := fun n hn => by rw [z0] at hn; cases hn
    have zn' : ∀ n ∈ z.2, n < cols.length := fun n hn => by rw [z0] at hn; cases hn
    refine ⟨_, rfl, _, rfl, _, rfl, small9 (by show 0 ≤ 1000; decide), fun nl hnl => ?_⟩
    have n5 := same_new hnl (.lst [])
    have S5 := s1.trans (s4.trans n5)
    refine ⟨_, rfl, _, rfl, v, e, nl, t, T, z, [], [], len, rfl, ia.same S5, gT, nT, hcd.same (s4.trans n5), upd_same, .nil, (fun _ h => by cases h), n5 _ _ ht, zn, zc, n9, fun t' H6 s6 ht' => ⟨_, rfl, ?_⟩⟩
    have el : lineV T len [] z = lineV T len cols z := by
      have := line_pre T len cols zn
      rw [List.nil_append] at this
      exact this.symm
    have ht' : H6 t' = some (.tup ((lineV T len cols z).map nV)) := by rw [← el]; exact ht'
    dsimp only [tNil]
    refine keep_ok (l := .inr z) (hF.same (n5.trans s6)) hM ht' (good_line gT nT hM.gc zn' zc) (sd_line hM zn' zc) ⟨zn', zc⟩ ⟨t, rfl, (n5.trans s6) _ _ ht⟩ (by have := few hM; omega) fun H7 cols' ls' o7 k7 hF7 hM7 hmo hin => ?_
    obtain ⟨more, rfl⟩ := hmo
    refine ⟨⟨_, _, _, _, _, rfl⟩, same_off (s4.trans (n5.trans s6)) hfd o7, o7 _ _ lfd ((n5.trans s6) _ _ hl4), Lns.tk k7 (Lns.tk (Tk.of (n5.trans s6)) hus4), _, _, hF7, hM7, (fun b hb => List.mem_append_left _ (hB b hb)), fun z' hz' => ?_⟩
    have z'0 : z'.2 = [] := (l0_mem (List.mem_of_mem_take hz')).1
    rw [line_pre T len more (fun n hn => by rw [z'0] at hn; cases hn)]
    rw [take_snoc hz] at hz'
    rcases List.mem_append.mp hz' with h | h
    · exact List.mem_append_left _ (hZ z' h)
    · rw [List.mem_singleton.mp h]
      exact hin
  rintro σ H4 ⟨⟨x5, x6, x7, x8, x9, rfl⟩, s4, hl4, hus4, cols, ls, hF, hM, hB, hZ⟩
  rw [← ul, List.take_length] at hZ
  refine ⟨fun m σ' H' => (∃ k x5 x6 x7 x9, σ' = [some v, some (.ref ct), some (nV len), some (.ref e), some (.ref fd), x5, x6, x7, some (nV k), x9] ∧ Same H1 H' ∧ ∃ cols ls, FdH H' fd cols ls ∧ FdM T (cps.map Prod.fst) len (cps.map Prod.snd) cols ls ∧ (∀ b ∈ cps.map Prod.snd, b ∈ cols) ∧ (∀ z ∈ l0 T.cs, lineV T len cols z ∈ cols) ∧ (∀ k', k' < k → ∀ z ∈ lw k' T.cs, lineV T len cols z ∈ cols) ∧ k ≤ cols.length ∧ m + k = 17), ⟨17, 0, _, _, _, _, rfl, s4, cols, ls, hF, hM, hB, hZ, (fun k' h => absurd h (by omega)), Nat.zero_le _, rfl⟩, ?_⟩
  rintro m σ H5 ⟨k, x5, x6, x7, x9, rfl, s5, cols, ls, hF, hM, hB, hZ, hW, hk, hm⟩
  obtain ⟨kvs, hkvs, ek, hln⟩ := id hF
  have kl : kvs.length = cols.length := by
    have := congrArg List.length ek
    rw [List.length_map, List.length_map] at this
    exact this
  have c16 := few hM
  refine ⟨_, rfl, _, rfl, fd, kvs, rfl, hkvs, _, _, rfl, rfl, _, rfl, ?_⟩
  by_cases hlt : k < cols.length
  · refine iteDT (decide_eq_true (by omega)) ?_
    refine ⟨fun σ' H' => ∃ m', m' < m ∧ (∃ k x5 x6 x7 x9, σ' = [some v, some (.ref ct), some (nV len), some (.ref e), some (.ref fd), x5, x6, x7, some (nV k), x9] ∧ Same H1 H' ∧ ∃ cols ls, FdH H' fd cols ls ∧ FdM T (cps.map Prod.fst) len (cps.map Prod.snd) cols ls ∧ (∀ b ∈ cps.map Prod.snd, b ∈ cols) ∧ (∀ z ∈ l0 T.cs, lineV T len cols z ∈ cols) ∧ (∀ k', k' < k → ∀ z ∈ lw k' T.cs, lineV T len cols z ∈ cols) ∧ k ≤ cols.length ∧ m' + k = 17), fun σ' H' h => h, ?_⟩
    refine ⟨_, rfl, fd, kvs, cols, rfl, hkvs, ek, fun al avs hal hcol => ?_⟩
    have n6 := same_new hal (.lst avs)
    refine ⟨_, rfl, _, rfl, v, T, k, rfl, ia.same (s1.trans (s5.trans n6)), gT, (by omega), fun l us H6 s6 hl hus => ⟨l, rfl, ⟨_, SqL.of hl⟩, ?_⟩⟩
    have lfd : l ≠ fd := fun z => by
      have h := s6 _ _ (n6 _ _ hkvs)
      rw [← z, hl] at h
      cases h
    have afd : al ≠ fd := ne_of_none' hkvs hal
    have ul := Paired.length hus
    rw [List.length_map] at ul
    have hcol6 : Cols H6 cols avs := Cols.tk (Tk.of (n6.trans s6)) hcol
    refine for_list (xs := us) (fun j σ H' => (∃ x5 x6 x7, σ = [some v, some (.ref ct), some (nV len), some (.ref e), some (.ref fd), x5, x6, x7, some (nV k), some (.ref al)]) ∧ Same H1 H' ∧ H' l = some (.lst us) ∧ Lzs H' (lw k T.cs) us ∧ H' al = some (.lst avs) ∧ Cols H' cols avs ∧ ∃ more ls, FdH H' fd (cols ++ more) ls ∧ FdM T (cps.map Prod.fst) len (cps.map Prod.snd) (cols ++ more) ls ∧ ∀ z ∈ (lw k T.cs).take j, lineV T len cols z ∈ cols ++ more) ⟨⟨_, _, _, rfl⟩, s5.trans (n6.trans s6), hl, hus, s6 _ _ upd_same, hcol6, [], ls, by rw [List.append_nil]; exact hF.same (n6.trans s6), by rw [List.append_nil]; exact hM, fun z h => by simp at h⟩ (fun j σ H' _ h => SqL.of h.2.2.1) ?_ ?_
    · rintro j x σ H7 hx ⟨⟨x5, x6, x7, rfl⟩, s7, hl7, hus7, hal7, hcol7, more, ls', hF7, hM7, hZ7⟩
      have hj : j < (lw k T.cs).length := by
        rw [ul]
        exact (List.getElem?_eq_some_iff.mp hx).1
      have hz : (lw k T.cs)[j]? = some (lw k T.cs)[j] := List.getElem?_eq_getElem hj
      generalize (lw k T.cs)[j] = z at hz
      obtain ⟨zk, zc⟩ := lw_mem (List.mem_of_getElem? hz) p2
      have zn : ∀ n ∈ z.2, n < cols.length := fun n hn => Nat.lt_of_le_of_lt (zk n hn) hlt
      have zn' : ∀ n ∈ z.2, n < (cols ++ more).length := fun n hn => by rw [List.length_append]; exact Nat.lt_of_lt_of_le (zn n hn) (Nat.le_add_right _ _)
      obtain ⟨t, rfl, ht⟩ := Paired.at hus7 j (Sum.inr z) _ (by rw [List.getElem?_map, hz]; rfl) hx
      have S7 := s1.trans s7
      refine ⟨_, rfl, _, rfl, _, rfl, _, rfl, _, rfl, _, rfl, v, e, al, t, T, z, cols, avs, len, rfl, ia.same S7, gT, nT, hcd.same s7, hal7, hcol7, hM.gc, ht, zn, zc, n9, fun t' H8 s8 ht' => ⟨_, rfl, ?_⟩⟩
      have el := line_pre T len more zn
      have ht' : H8 t' = some (.tup ((lineV T len (cols ++ more) z).map nV)) := by rw [el]; exact ht'
      dsimp only [tNil]
      refine keep_ok (l := .inr z) (hF7.same s8) hM7 ht' (good_line gT nT hM7.gc zn' zc) (sd_line hM7 zn' zc) ⟨zn', zc⟩ ⟨t, rfl, s8 _ _ ht⟩ (by have := few hM7; omega) fun H9 cols' ls9 o9 k9 hF9 hM9 hmo hin => ?_
      obtain ⟨more', rfl⟩ := hmo
      rw [List.append_assoc] at hF9 hM9 hin
      refine ⟨⟨_, _, _, rfl⟩, same_off (s7.trans s8) hfd o9, o9 _ _ lfd (s8 _ _ hl7), Lns.tk k9 (Lns.tk (Tk.of s8) hus7), o9 _ _ afd (s8 _ _ hal7), Cols.tk k9 (Cols.tk (Tk.of s8) hcol7), more ++ more', ls9, hF9, hM9, fun z' hz' => ?_⟩
      rw [take_snoc hz] at hz'
      rcases List.mem_append.mp hz' with h | h
      · rw [← List.append_assoc]
        exact List.mem_append_left _ (hZ7 z' h)
      · rw [List.mem_singleton.mp h, ← el]
        exact hin
    · rintro σ H7 ⟨⟨x5, x6, x7, rfl⟩, s7, hl7, hus7, hal7, hcol7, more, ls', hF7, hM7, hZ7⟩
      rw [← ul, List.take_length] at hZ7
      refine ⟨_, rfl, _, _, rfl, rfl, ?_⟩
      have l7 : (cols ++ more).length = cols.length + more.length := List.length_append
      refine ⟨m - 1, by omega, k + 1, _, _, _, _, rfl, s7, cols ++ more, ls', hF7, hM7, (fun b hb => List.mem_append_left _ (hB b hb)), (fun z hz => ?_), (fun k' hk' z hz => ?_), by omega, by omega⟩
      · rw [line_pre T len more (fun n hn => by rw [(l0_mem hz).1] at hn; cases hn)]
        exact List.mem_append_left _ (hZ z hz)
      · rw [line_pre T len more (fun n hn => by have := (lw_mem hz p2).1 n hn; omega)]
        by_cases e : k' = k
        · rw [e] at hz
          exact hZ7 z hz
        · exact List.mem_append_left _ (hW k' (by omega) z hz)
  · refine iteDF (decide_eq_false (by omega)) ?_
    exact ⟨_, rfl, q fd cols ls H5 (s1.trans s5) fdH hF hM fun col h => sd_in gT hB hZ (fun k' h' => hW k' (by omega)) h⟩
abbrev s_sayable : Stmt := top 13
theorem sc_sayable : FnScope ["T", "columns", "wish", "found", "last"] ["T", "columns", "wish"] (defScope s_sayable) := ⟨rfl, rfl, rfl, by decide +kernel, rfl, by decide +kernel, by decide +kernel⟩
theorem ok_sayable {P : Program} {w : World} {K : PySem.W.Frag} {mg : Str → Option Value} {base : Heap} {f : Addr} {fd : FuncData} (F : Fun K "sayable" "sayable" s_sayable f fd) (gb : Gb mg) (d_all_sayable : Def P w K mg base 4 "all_sayable" ["T", "columns", "length"] spAllSay) (d_needed_alone : Def P w K mg base 4 "needed_alone" ["lines"] spAlone) : FnOk P w K mg base CX0 5 f fd ["T", "columns", "wish"] spSay := by
  refine F.ok sc_sayable (fun vs H Q E h => ?_) (fun cdv A outer s H vs Q E hr h => ?_)
  · obtain ⟨v, ct, wt, T, cps, cvs, wish, rfl, _⟩ := h
    rfl
  obtain ⟨v, ct, wt, T, cps, cvs, wish, rfl, ia, gT, nT, hct, hpc, hgc, hwt, w1, w9, p16, q1, q0⟩ := h
  refine ⟨_, (@pss_cons _ _ _ _ _ (@ps_set _ _ 3 _ _ _ _ sc_sayable.nd rfl (Or.inl rfl) (@pe_def _ _ _ _ _ _ _ _ _ _ _ d_all_sayable hr (by omega) rfl (@pa_cons _ _ _ _ _ (@pv _ 0 _ _ (by rfl) (by walk_at "v") (by decide) (by decide)) (@pa_cons _ _ _ _ _ (@pv _ 1 _ _ (by rfl) (by walk_at "v") (by decide) (by decide)) (@pa_cons _ _ _ _ _ (@pe_callB _ _ _ _ _ _ _ _ _ (@kcall_len _ K (by rfl)) rfl gb.len bt_len (@pa_cons _ _ _ _ _ (@pv _ 2 _ _ (by rfl) (by walk_at "v") (by decide) (by decide)) (@pa_nil _) (by rfl)) (by decide) (by decide) (by rfl) (by rfl)) (@pa_nil _) (by rfl)) (by rfl)) (by rfl)) (by decide) (by rfl) (by rfl)) (by rfl) (by walk_at "f")) (@pss_cons _ _ _ _ _ (@ps_if _ _ _ _ _ _ _ _ (@pt_cmpR _ _ _ _ _ _ _ _ (@op_tNotIn _ _ hr) (@pv _ 2 _ _ (by rfl) (by walk_at "v") (by decide) (by decide)) (@pv _ 3 _ _ (by rfl) (by walk_at "v") (by decide) (by decide)) (by with_unfolding_all rfl)) (@pss_one _ _ _ (@ps_ret _ _ _ _ (@pe_tup _ _ _ _ _ (@pa_cons _ _ _ _ _ (@pe_str _ _ _ _) (@pa_cons _ _ _ _ _ (@pe_callTy _ _ _ _ _ _ _ _ _ (@kcall_tuple_of _ K (by rfl)) rfl gb.tuple bt_tuple (@pa_cons _ _ _ _ _ (@pe_callB _ _ _ _ _ _ _ _ _ (@kcall_sortedTd _ rfl) rfl gb.sorted bt_sorted (@pa_cons _ _ _ _ _ (@pv _ 3 _ _ (by rfl) (by walk_at "v") (by decide) (by decide)) (@pa_nil _) (by rfl)) (by decide) (by decide) (by rfl) (by rfl)) (@pa_nil _) (by rfl)) (by decide) (by decide) (by rfl) (by rfl)) (@pa_nil _) (by rfl)) (by rfl))))) (@pss_nil _)) (@pss_cons _ _ _ _ _ (@ps_set _ _ 4 _ _ _ _ sc_sayable.nd rfl (Or.inl rfl) (@kpe_bm _ K _ _ _ _ _ _ _ _ _ _ _ PySem.F.plainAttrs_list PySem.F.slot_list_index PySem.F.type_list_index (@mt_indexC _ _ hr) (@pe_callTy _ _ _ _ _ _ _ _ _ (@call_listDT _ rfl) rfl gb.list bt_list (@pa_cons _ _ _ _ _ (@pv _ 3 _ _ (by rfl) (by walk_at "v") (by decide) (by decide)) (@pa_nil _) (by rfl)) (by decide) (by decide) (by rfl) (by rfl)) (@pa_cons _ _ _ _ _ (@pv _ 2 _ _ (by rfl) (by walk_at "v") (by decide) (by decide)) (@pa_nil _) (by rfl)) (by rfl) (by rfl) (by rfl) (by rfl) (by rfl) (by rfl)) (by rfl) (by walk_at "f")) (@pss_one _ _ _ (@ps_ret _ _ _ _ (@pe_tup _ _ _ _ _ (@pa_cons _ _ _ _ _ (@pe_str _ _ _ _) (@pa_cons _ _ _ _ _ (@pe_def _ _ _ _ _ _ _ _ _ _ _ d_needed_alone hr (by omega) rfl (@pa_cons _ _ _ _ _ (@pe_slice _ _ _ _ _ _ _ _ _ _ (@ksl_any _ K (by rfl)) (@pe_callTy _ _ _ _ _ _ _ _ _ (@call_listV _ rfl) rfl gb.list bt_list (@pa_cons _ _ _ _ _ (@pe_dvals _ _ _ _ _ (@pv _ 3 _ _ (by rfl) (by walk_at "v") (by decide) (by decide)) (by rfl) (by rfl)) (@pa_nil _) (by rfl)) (by decide) (by decide) (by rfl) (by rfl)) (@po_none _) (@po_some _ _ _ (@pe_op _ _ _ _ _ _ _ _ (@op_add _) (@pv _ 4 _ _ (by rfl) (by walk_at "v") (by decide) (by decide)) (@pe_int _ _ _ _)))) (@pa_nil _) (by rfl)) (by decide) (by rfl) (by rfl)) (@pa_nil _) (by rfl)) (by rfl)))))))), ?_⟩
  refine ⟨_, rfl, _, rfl, _, rfl, _, _, rfl, .inr ⟨_, SqT.of hwt, rfl⟩, v, ct, T, cps, cvs, wish.length, by rw [List.length_map]; rfl, ia, gT, nT, hct, hpc, hgc, w9, p16, fun fd cols ls H1 s1 hfd hF hM hin => ?_⟩
  obtain ⟨kvs, hkvs, ek, hln⟩ := id hF
  have few : cols.length ≤ 16 := Nat.le_trans (cols_few hM.nd hM.gc) p16
  have sdi : ∀ col, col ∈ cols ↔ Sd T wish.length (cps.map Prod.snd) col := fun col => ⟨hM.sd col, hin col⟩
  have hwt1 := s1 _ _ hwt
  refine ⟨_, rfl, _, rfl, fd, wt, kvs, colK wish, rfl, rfl, hkvs, by rw [colK_V]; exact hwt1, _, rfl, ?_⟩
  by_cases hw : wish ∈ cols
  · rw [(valT_iff ek wish).mpr hw]
    refine iteF ?_
    refine ⟨_, rfl, fd, kvs, cols, rfl, hkvs, ek, fun al avs hal hcol => ?_⟩
    have n2 := same_new hal (.lst avs)
    obtain ⟨j, hj⟩ := List.mem_iff_getElem?.mp hw
    have jl := (List.getElem?_eq_some_iff.mp hj).1
    have hno : ∀ m, m < j → cols[m]? ≠ some wish := fun m hm e => by
      have := (List.getElem?_inj (by omega) hM.nd).mp (e.trans hj.symm)
      omega
    refine ⟨.inl ⟨rfl, _, SqL.of upd_same⟩, _, rfl, al, wt, avs, cols, wish, j, rfl, rfl, upd_same, ColVs.tk (Tk.of n2) hcol, (fun k hk => (hM.gc k hk).1), n2 _ _ hwt1, hj, hno, ?_⟩
    have hk2 := n2 _ _ hkvs
    refine ⟨_, rfl, fd, kvs, rfl, hk2, fun r hr' => ?_⟩
    have n3 := same_new hr' (ViewO r fd)
    have rfd : r ≠ fd := ne_of_none' hk2 hr'
    refine ⟨r, fd, kvs, rfl, upd_same, rfd, n3 _ _ hk2, fun l hl => ?_⟩
    have n4 := same_new hl (.lst (kvs.map Prod.snd))
    refine ⟨_, rfl, _, _, rfl, rfl, _, rfl, .inl ⟨l, _, rfl, SqL.of upd_same, fun y hy => ?_⟩⟩
    rw [show some ((j : Int) + 1) = some (((j + 1 : Nat) : Nat) : Int) from rfl, cut_to]
    have n5 := same_new hy (.lst ((kvs.map Prod.snd).take (j + 1)))
    have S5 := n2.trans (n3.trans (n4.trans n5))
    have kl : kvs.length = cols.length := by
      have := congrArg List.length ek
      rw [List.length_map, List.length_map] at this
      exact this
    have ll := hM.ll
    refine ⟨y, _, ls.take (j + 1), T, cps.map Prod.fst, rfl, upd_same, lns_take _ (Lns.tk (Tk.of S5) hln), good_take hM.gl _, (fun c hc => (gT.cn c hc).2.1), (fun x hx => ?_), by rw [List.length_take]; omega, by rw [List.length_take]; omega, fun t us' ns H6 s6 ht clos ris hln' => ?_⟩
    · obtain ⟨p, hp, rfl⟩ := List.mem_map.mp hx
      exact (hgc p hp).1
    refine ⟨small9 (by show 2 ≤ 1000; decide), fun t2 ht2 => ?_⟩
    have n7 := same_new ht2 (.tup [.str "said", .ref t])
    refine q1 ((sdi wish).mp hw) t2 t us' _ (s1.trans (S5.trans (s6.trans n7))) upd_same (n7 _ _ ht) fun z => ?_
    have nl := Paired.length hln'
    rw [z, List.length_map] at nl
    have := clos.last
    rw [List.length_eq_zero_iff.mp nl] at this
    cases this
  · have hv : (valV kvs (colK wish)).isSome = false := by
      cases h : (valV kvs (colK wish)).isSome with
      | false => rfl
      | true => exact absurd ((valT_iff ek wish).mp h) hw
    rw [hv]
    refine iteT ?_
    refine ⟨_, rfl, fd, kvs, cols, wish.length, rfl, hkvs, ek, (fun k hk => (hM.gc k hk).1), w1, hM.nd, by omega, fun l bs ks hl hP per asc => ?_⟩
    have n2 := same_new hl (.lst bs)
    refine ⟨l, _, rfl, .inl ⟨SqL.of upd_same, fun ut hut => ?_⟩⟩
    have n3 := same_new hut (.tup bs)
    refine ⟨small9 (by show 2 ≤ 1000; decide), fun t ht => ?_⟩
    have n4 := same_new ht (.tup [.str "unsaid", .ref ut])
    exact q0 (fun h => hw ((sdi wish).mpr h)) t ut bs ks _ (s1.trans (n2.trans (n3.trans n4))) upd_same (n4 _ _ upd_same) (ColVs.tk (Tk.of (n2.trans (n3.trans n4))) hP) asc (fun col => by rw [per.mem_iff, sdi]) (by rw [per.length_eq]; exact few)
abbrev s_law_well : Stmt := top 22
theorem sc_law_well : FnScope ["_law_script", "_law_place", "_law_cell", "_law_one"] ["_law_script", "_law_place"] (defScope s_law_well) := ⟨rfl, rfl, rfl, by decide +kernel, rfl, by decide +kernel, by decide +kernel⟩
theorem ok_law_well {P : Program} {w : World} {K : PySem.W.Frag} {mg : Str → Option Value} {base : Heap} {f : Addr} {fd : FuncData} (F : Fun K "_law_well" "_law_well" s_law_well f fd) (gb : Gb mg) : FnOk P w K mg base CX0 1 f fd ["_law_script", "_law_place"] (spWell K) := by
  refine F.ok sc_law_well (fun vs H Q E h => ?_) (fun cdv A outer s H vs Q E hr h => ?_)
  · obtain ⟨a, ns, pl, rfl, _⟩ := h
    rfl
  obtain ⟨a, ns, pl, rfl, hS, hn, q⟩ := h
  refine ⟨_, (@pss_cons _ _ _ _ _ (@ps_set _ _ 2 _ _ _ _ sc_law_well.nd rfl (Or.inl rfl) (@pe_int _ _ _ _) (by rfl) (by walk_at "f")) (@pss_cons _ _ _ _ _ (@ps_for _ _ _ _ _ _ _ _ PassesOwn.never rfl (@kpi_list _ K _ _ _ (@pe_slice _ _ _ _ _ _ _ _ _ _ (@ksl_any _ K (by rfl)) (@pv _ 0 _ _ (by rfl) (by walk_at "v") (by decide) (by decide)) (@po_some _ _ _ (@pv _ 1 _ _ (by rfl) (by walk_at "v") (by decide) (by decide))) (@po_some _ _ _ (@pe_op _ _ _ _ _ _ _ _ (@op_add _) (@pv _ 1 _ _ (by rfl) (by walk_at "v") (by decide) (by decide)) (@pe_int _ _ _ _)))) (by rfl)) (@pg_name _ _ 3 _ sc_law_well.nd rfl (Or.inl rfl) (by walk_at "f")) (@pss_one _ _ _ (@ps_set _ _ 2 _ _ _ _ sc_law_well.nd rfl (Or.inl rfl) (@pv _ 3 _ _ (by rfl) (by walk_at "v") (by decide) (by decide)) (by rfl) (by walk_at "f"))) (by intro _; rfl)) (@pss_cons _ _ _ _ _ (@ps_if _ _ _ _ _ _ _ _ (@PW.pt _ _ _ (@pw_or _ _ _ _ _ _ _ (@pt_cmpR _ _ _ _ _ _ _ _ (@op_lt _) (@pv _ 2 _ _ (by rfl) (by walk_at "v") (by decide) (by decide)) (@pe_int _ _ _ _) (@nomark _ _ (by decide) (by decide))) (@pw_or1 _ _ _ _ (@pt_cmpR _ _ _ _ _ _ _ _ (@op_ge _) (@pv _ 2 _ _ (by rfl) (by walk_at "v") (by decide) (by decide)) (@pe_op _ _ _ _ _ _ _ _ (@op_pow _) (@pe_int _ _ _ _) (@pe_int _ _ _ _)) (@nomark _ _ (by decide) (by decide)))))) (@pss_one _ _ _ (@ps_ret _ _ _ _ (@pe_lst _ _ _ _ (@pa_cons _ _ _ _ _ (@pe_int _ _ _ _) (@pa_cons _ _ _ _ _ (@pe_callB _ _ _ _ _ _ _ _ _ (@call_abs _) rfl gb.abs bt_abs (@pa_cons _ _ _ _ _ (@pv _ 2 _ _ (by rfl) (by walk_at "v") (by decide) (by decide)) (@pa_nil _) (by rfl)) (by decide) (by decide) (by rfl) (by rfl)) (@pa_nil _) (by rfl)) (by rfl))))) (@pss_nil _)) (@pss_one _ _ _ (@ps_ret _ _ _ _ (@pe_lst _ _ _ _ (@pa_cons _ _ _ _ _ (@pe_int _ _ _ _) (@pa_cons _ _ _ _ _ (@pe_op _ _ _ _ _ _ _ _ (@op_add _) (@pe_op _ _ _ _ _ _ _ _ (@op_mod _) (@pe_op _ _ _ _ _ _ _ _ (@op_add _) (@pe_op _ _ _ _ _ _ _ _ (@op_mod _) (@pv _ 2 _ _ (by rfl) (by walk_at "v") (by decide) (by decide)) (@pe_int _ _ _ _)) (@pe_op _ _ _ _ _ _ _ _ (@op_mul _) (@pe_int _ _ _ _) (@pv _ 1 _ _ (by rfl) (by walk_at "v") (by decide) (by decide)))) (@pe_int _ _ _ _)) (@pe_int _ _ _ _)) (@pa_nil _) (by rfl)) (by rfl)))))))), ?_⟩
  refine ⟨_, rfl, _, rfl, _, rfl, _, rfl, _, _, rfl, rfl, _, rfl, .inl ⟨a, _, rfl, hS, fun y hy => ?_⟩⟩
  obtain ⟨ms, em⟩ := cut_ints ns (some pl) (some (pl + 1))
  rw [em] at *
  refine ⟨y, rfl, ⟨_, SqL.of upd_same⟩, ?_⟩
  refine for_list (xs := ms.map V.int) (fun _ σ H' => (∃ (c : Int) (x : Option V), σ = [some (.ref a), some (.int pl), some (.int c), x]) ∧ Same H H' ∧ H' y = some (.lst (ms.map V.int))) ⟨⟨_, _, rfl⟩, same_new hy _, upd_same⟩ (fun i σ H' _ h => SqL.of h.2.2) ?_ ?_
  · rintro i x σ H1 hx ⟨⟨c, x', rfl⟩, s1, h1⟩
    rw [List.getElem?_map] at hx
    obtain ⟨cv, _, rfl⟩ := Option.map_eq_some_iff.mp hx
    exact ⟨_, rfl, ⟨_, _, rfl⟩, s1, h1⟩
  · rintro σ H1 ⟨⟨c, x', rfl⟩, s1, h1⟩
    walk_at "rd"
    refine ite2 (fun c1 => ?_) (fun c1 => ?_)
    · walk_at "rd"
      exact ⟨small9 (by show 2 ≤ 1000; decide), fun p hp => q p _ (s1.free hp) (s1.trans (same_new hp _)) Wel.put⟩
    · walk_at "rd"
      refine ite2 (fun c2 => ?_) (fun c2 => ?_)
      · walk_at "rd"
        exact ⟨small9 (by show 2 ≤ 1000; decide), fun p hp => q p _ (s1.free hp) (s1.trans (same_new hp _)) Wel.put⟩
      · walk_at "rd"
        exact ⟨small9 (by show 2 ≤ 1000; decide), fun p hp => q p _ (s1.free hp) (s1.trans (same_new hp _)) Wel.put⟩
abbrev s_law_draw : Stmt := top 23
theorem sc_law_draw : FnScope ["_law_well_here", "_law_many", "_law_found", "_law_turn", "_law_upper", "_law_lower"] ["_law_well_here", "_law_many"] (defScope s_law_draw) := ⟨rfl, rfl, rfl, by decide +kernel, rfl, by decide +kernel, by decide +kernel⟩
theorem ok_law_draw {P : Program} {w : World} {K : PySem.W.Frag} {mg : Str → Option Value} {base : Heap} {f : Addr} {fd : FuncData} (F : Fun K "_law_draw" "_law_draw" s_law_draw f fd) (gb : Gb mg) : FnOk P w K mg base CX0 1 f fd ["_law_well_here", "_law_many"] spDrawW := by
  refine F.ok sc_law_draw (fun vs H Q E h => ?_) (fun cdv A outer s H vs Q E hr h => ?_)
  · obtain ⟨p, m, rfl, _⟩ := h
    rfl
  obtain ⟨p, m, rfl, w, m0, m1, q⟩ := h
  refine ⟨_, (@pss_cons _ _ _ _ _ (@ps_if _ _ _ _ _ _ _ _ (@pt_cmpR _ _ _ _ _ _ _ _ (@op_eq _) (@pe_ix _ _ _ _ _ _ _ (@kix_seq _ K (by rfl)) (@pv _ 0 _ _ (by rfl) (by walk_at "v") (by decide) (by decide)) (@pe_int _ _ _ _) (fun _ _ => rfl)) (@pe_int _ _ _ _) (@nomark _ _ (by decide) (by decide))) (@pss_cons _ _ _ _ _ (@ps_set _ _ 2 _ _ _ _ sc_law_draw.nd rfl (Or.inl rfl) (@pe_op _ _ _ _ _ _ _ _ (@op_mod _) (@pe_ix _ _ _ _ _ _ _ (@kix_seq _ K (by rfl)) (@pv _ 0 _ _ (by rfl) (by walk_at "v") (by decide) (by decide)) (@pe_int _ _ _ _) (fun _ _ => rfl)) (@pv _ 1 _ _ (by rfl) (by walk_at "v") (by decide) (by decide))) (by rfl) (by walk_at "f")) (@pss_cons _ _ _ _ _ (@ps_asg _ _ _ _ _ _ (@pe_op _ _ _ _ _ _ _ _ (@op_fdiv _) (@pe_ix _ _ _ _ _ _ _ (@kix_seq _ K (by rfl)) (@pv _ 0 _ _ (by rfl) (by walk_at "v") (by decide) (by decide)) (@pe_int _ _ _ _) (fun _ _ => rfl)) (@pv _ 1 _ _ (by rfl) (by walk_at "v") (by decide) (by decide))) (@pg_sub _ _ _ _ _ _ _ (@pv _ 0 _ _ (by rfl) (by walk_at "v") (by decide) (by decide)) (@pe_int _ _ _ _) (@set_list _) (by intro _; rfl)) (by rfl) (by rfl) (by rfl)) (@pss_one _ _ _ (@ps_ret _ _ _ _ (@pv _ 2 _ _ (by rfl) (by walk_at "v") (by decide) (by decide)))))) (@pss_nil _)) (@pss_cons _ _ _ _ _ (@ps_for _ _ _ _ _ _ _ _ PassesOwn.never rfl (@pi_range1 _ _ _ _ _ _ rfl gb.range (@pa_cons _ _ _ _ _ (@pe_int _ _ _ _) (@pa_nil _) (by rfl)) (by rfl)) (@pg_name _ _ 3 _ sc_law_draw.nd rfl (Or.inl rfl) (by walk_at "f")) (@pss_cons _ _ _ _ _ (@ps_asg _ _ _ _ _ _ (@pe_callB _ _ _ _ _ _ _ _ _ (@call_divmod _) rfl gb.divmod bt_divmod (@pa_cons _ _ _ _ _ (@pe_ix _ _ _ _ _ _ _ (@kix_seq _ K (by rfl)) (@pv _ 0 _ _ (by rfl) (by walk_at "v") (by decide) (by decide)) (@pe_int _ _ _ _) (fun _ _ => rfl)) (@pa_cons _ _ _ _ _ (@pe_int _ _ _ _) (@pa_nil _) (by rfl)) (by rfl)) (by decide) (by decide) (by rfl) (by rfl)) (@kpg_tup _ K _ _ _ _ 2 rfl (@pgs_cons _ _ _ _ _ (@pg_name _ _ 4 _ sc_law_draw.nd rfl (Or.inl rfl) (by walk_at "f")) (@pgs_cons _ _ _ _ _ (@pg_name _ _ 5 _ sc_law_draw.nd rfl (Or.inl rfl) (by walk_at "f")) (@pgs_nil _) (by rfl)) (by rfl)) (by rfl) (by rfl) (by rfl)) (by rfl) (by rfl) (by rfl)) (@pss_one _ _ _ (@ps_asg _ _ _ _ _ _ (@pe_op _ _ _ _ _ _ _ _ (@op_mod _) (@pe_op _ _ _ _ _ _ _ _ (@op_add _) (@pe_op _ _ _ _ _ _ _ _ (@op_add _) (@pe_op _ _ _ _ _ _ _ _ (@op_mul _) (@pv _ 5 _ _ (by rfl) (by walk_at "v") (by decide) (by decide)) (@pe_int _ _ _ _)) (@pe_op _ _ _ _ _ _ _ _ (@op_mul _) (@pv _ 4 _ _ (by rfl) (by walk_at "v") (by decide) (by decide)) (@pe_int _ _ _ _))) (@pe_int _ _ _ _)) (@pe_int _ _ _ _)) (@pg_sub _ _ _ _ _ _ _ (@pv _ 0 _ _ (by rfl) (by walk_at "v") (by decide) (by decide)) (@pe_int _ _ _ _) (@set_list _) (by intro _; rfl)) (by rfl) (by rfl) (by rfl)))) (by intro _; rfl)) (@pss_one _ _ _ (@ps_ret _ _ _ _ (@pe_op _ _ _ _ _ _ _ _ (@op_mod _) (@pe_op _ _ _ _ _ _ _ _ (@op_fdiv _) (@pe_ix _ _ _ _ _ _ _ (@kix_seq _ K (by rfl)) (@pv _ 0 _ _ (by rfl) (by walk_at "v") (by decide) (by decide)) (@pe_int _ _ _ _) (fun _ _ => rfl)) (@pe_int _ _ _ _)) (@pv _ 1 _ _ (by rfl) (by walk_at "v") (by decide) (by decide))))))), ?_⟩
  obtain ⟨x, y, hp⟩ := id w
  refine ⟨_, rfl, .inl ⟨p, _, 0, _, rfl, rfl, SqL.of hp, rfl, rfl, _, rfl, ite2 (fun c => ?_) (fun c => ?_)⟩⟩
  · walk_at "rd"
    have e := Int.emod_nonneg y (show (m : Int) ≠ 0 by omega)
    have l := Int.emod_lt_of_pos y (show (0 : Int) < m by omega)
    have q1 := q (y % (m : Int)).toNat _ (by omega) (Off.put (o := .lst [.int x, .int (y / (m : Int))])) ⟨_, _, upd_same⟩
    rw [show nV (y % (m : Int)).toNat = V.int (y % (m : Int)) by show V.int _ = _; rw [Int.toNat_of_nonneg e]] at q1
    exact q1
  · refine ⟨2, rfl, by decide, by decide, ?_⟩
    refine for_range (fun _ σ H' => (∃ x2 x3 x4 x5, σ = [some (.ref p), some (.int (m : Int)), x2, x3, x4, x5]) ∧ Off p H H' ∧ Wel H' p) ⟨⟨_, _, _, _, rfl⟩, Off.refl, w⟩ ?_ ?_
    · rintro i σ H1 hi ⟨⟨x2, x3, x4, x5, rfl⟩, o1, ⟨a, b, h1⟩⟩
      refine ⟨_, rfl, .inl ⟨p, _, 1, _, rfl, rfl, SqL.of h1, rfl, _, _, rfl, ⟨by decide, by decide⟩, fun t ht => ?_⟩⟩
      refine ⟨t, _, rfl, SqT.of upd_same, rfl, _, _, rfl, _, _, rfl, rfl, ?_⟩
      have h2 := same_new ht (.tup [.int (b / 4099), .int (b % 4099)]) _ _ h1
      walk_at "rd"
      exact ⟨⟨_, _, _, _, rfl⟩, (o1.trans (Off.of (same_new ht _))).trans Off.put, Wel.put⟩
    · rintro σ H1 ⟨⟨x2, x3, x4, x5, rfl⟩, o1, ⟨a, b, h1⟩⟩
      walk_at "rd"
      have e := Int.emod_nonneg (b / 5) (show (m : Int) ≠ 0 by omega)
      have l := Int.emod_lt_of_pos (b / 5) (show (0 : Int) < m by omega)
      have q1 := q (b / 5 % (m : Int)).toNat _ (by omega) o1 ⟨a, b, h1⟩
      rw [show nV (b / 5 % (m : Int)).toNat = V.int (b / 5 % (m : Int)) by show V.int _ = _; rw [Int.toNat_of_nonneg e]] at q1
      exact q1
abbrev s_law_names : Stmt := top 24
theorem sc_law_names : FnScope ["_law_well_here", "_law_many", "_law_signs", "_law_first", "_law_pick", "_law_some", "_law_size", "_law_at"] ["_law_well_here", "_law_many"] (defScope s_law_names) := ⟨rfl, rfl, rfl, by decide +kernel, rfl, by decide +kernel, by decide +kernel⟩
theorem ok_law_names {P : Program} {w : World} {K : PySem.W.Frag} {mg : Str → Option Value} {base : Heap} {f : Addr} {fd : FuncData} (F : Fun K "_law_names" "_law_names" s_law_names f fd) (gb : Gb mg) (d_law_draw : Def P w K mg base 1 "_law_draw" ["_law_well_here", "_law_many"] spDrawW) : FnOk P w K mg base CX0 2 f fd ["_law_well_here", "_law_many"] spNames := by
  refine F.ok sc_law_names (fun vs H Q E h => ?_) (fun cdv A outer s H vs Q E hr h => ?_)
  · obtain ⟨p, k, rfl, _⟩ := h
    rfl
  obtain ⟨p, k, rfl, w, k8, q⟩ := h
  have nd0 : (["_law_k", "_law_signs", "_law_first"] : List Str).Nodup := by decide +kernel
  have nd1 : (["_law_k", "_law_at", "_law_signs", "_law_first", "_law_size"] : List Str).Nodup := by decide +kernel
  refine ⟨_, (@pss_cons _ _ _ _ _ (@ps_set _ _ 2 _ _ _ _ sc_law_names.nd rfl (Or.inr rfl) (@pe_str _ _ _ _) (by rfl) (by walk_at "f")) (@pss_cons _ _ _ _ _ (@ps_set _ _ 3 _ _ _ _ sc_law_names.nd rfl (Or.inr rfl) (@pe_def _ _ _ _ _ _ _ _ _ _ _ d_law_draw hr (by omega) rfl (@pa_cons _ _ _ _ _ (@pv _ 0 _ _ (by rfl) (by walk_at "v") (by decide) (by decide)) (@pa_cons _ _ _ _ _ (@pe_int _ _ _ _) (@pa_nil _) (by rfl)) (by rfl)) (by decide) (by rfl) (by rfl)) (by rfl) (by walk_at "f")) (@pss_cons _ _ _ _ _ (@ps_set _ _ 4 _ _ _ _ sc_law_names.nd rfl (Or.inl rfl) (@pe_def _ _ _ _ _ _ _ _ _ _ _ d_law_draw hr (by omega) rfl (@pa_cons _ _ _ _ _ (@pv _ 0 _ _ (by rfl) (by walk_at "v") (by decide) (by decide)) (@pa_cons _ _ _ _ _ (@pe_int _ _ _ _) (@pa_nil _) (by rfl)) (by rfl)) (by decide) (by rfl) (by rfl)) (by rfl) (by walk_at "f")) (@pss_cons _ _ _ _ _ (@ps_if _ _ _ _ _ _ _ _ (@pt_cmpR _ _ _ _ _ _ _ _ (@op_eq _) (@pv _ 4 _ _ (by rfl) (by walk_at "v") (by decide) (by decide)) (@pe_int _ _ _ _) (@nomark _ _ (by decide) (by decide))) (@pss_cons _ _ _ _ _ (@ps_set _ _ 5 _ _ _ _ sc_law_names.nd rfl (Or.inl rfl) (@pe_lst _ _ _ _ (@pa_cons _ _ _ _ _ (@pe_str _ _ _ _) (@pa_cons _ _ _ _ _ (@pe_str _ _ _ _) (@pa_cons _ _ _ _ _ (@pe_str _ _ _ _) (@pa_cons _ _ _ _ _ (@pe_str _ _ _ _) (@pa_cons _ _ _ _ _ (@pe_str _ _ _ _) (@pa_cons _ _ _ _ _ (@pe_str _ _ _ _) (@pa_cons _ _ _ _ _ (@pe_str _ _ _ _) (@pa_cons _ _ _ _ _ (@pe_str _ _ _ _) (@pa_nil _) (by rfl)) (by rfl)) (by rfl)) (by rfl)) (by rfl)) (by rfl)) (by rfl)) (by rfl))) (by rfl) (by walk_at "f")) (@pss_one _ _ _ (@ps_ret _ _ _ _ (@pe_slice _ _ _ _ _ _ _ _ _ _ (@ksl_any _ K (by rfl)) (@pe_op _ _ _ _ _ _ _ _ (@op_cat _) (@pe_slice _ _ _ _ _ _ _ _ _ _ (@ksl_any _ K (by rfl)) (@pv _ 5 _ _ (by rfl) (by walk_at "v") (by decide) (by decide)) (@po_some _ _ _ (@pe_op _ _ _ _ _ _ _ _ (@op_mod _) (@pv _ 3 _ _ (by rfl) (by walk_at "v") (by decide) (by decide)) (@pe_int _ _ _ _))) (@po_none _)) (@pe_slice _ _ _ _ _ _ _ _ _ _ (@ksl_any _ K (by rfl)) (@pv _ 5 _ _ (by rfl) (by walk_at "v") (by decide) (by decide)) (@po_none _) (@po_some _ _ _ (@pe_op _ _ _ _ _ _ _ _ (@op_mod _) (@pv _ 3 _ _ (by rfl) (by walk_at "v") (by decide) (by decide)) (@pe_int _ _ _ _))))) (@po_none _) (@po_some _ _ _ (@pv _ 1 _ _ (by rfl) (by walk_at "v") (by decide) (by decide))))))) (@pss_nil _)) (@pss_cons _ _ _ _ _ (@ps_if _ _ _ _ _ _ _ _ (@pt_cmpR _ _ _ _ _ _ _ _ (@op_eq _) (@pv _ 4 _ _ (by rfl) (by walk_at "v") (by decide) (by decide)) (@pe_int _ _ _ _) (@nomark _ _ (by decide) (by decide))) (@pss_one _ _ _ (@ps_ret _ _ _ _ (@pe_op _ _ _ _ _ _ _ _ (@op_cat _) (@pe_slice _ _ _ _ _ _ _ _ _ _ (@ksl_any _ K (by rfl)) (@pe_comp _ ["_law_k", "_law_signs", "_law_first"] [none, some 2, some 3] _ _ _ _ _ _ _ _ _ _ (by exact (show CompOk ["_law_well_here", "_law_many", "_law_signs", "_law_first", "_law_pick", "_law_some", "_law_size", "_law_at"] (defScope s_law_names) ["_law_k", "_law_signs", "_law_first"] [none, some 2, some 3] _ from ⟨rfl, by decide +kernel, by decide +kernel, by decide +kernel, by decide +kernel, rfl, by decide +kernel⟩)) rfl (@pi_range1 _ _ _ _ _ _ rfl gb.range (@pa_cons _ _ _ _ _ (@pe_int _ _ _ _) (@pa_nil _) (by rfl)) (by rfl)) (fun _ _ _ _ => (@pg_name _ _ 0 _ nd0 rfl (Or.inl rfl) (by walk_at "f"))) (fun _ _ _ _ => (@pf_nil _)) (fun _ _ _ _ => (@pe_op _ _ _ _ _ _ _ _ (@op_mulS _) (@pe_ix _ _ _ _ _ _ _ (@kix_seq _ K (by rfl)) (@pv _ 1 _ _ (by rfl) (by walk_at "v") (by decide) (by decide)) (@pv _ 2 _ _ (by rfl) (by walk_at "v") (by decide) (by decide)) (fun _ _ => rfl)) (@pe_op _ _ _ _ _ _ _ _ (@op_add _) (@pv _ 0 _ _ (by rfl) (by walk_at "v") (by decide) (by decide)) (@pe_int _ _ _ _)))) (by intro _; rfl)) (@po_none _) (@po_some _ _ _ (@pv _ 1 _ _ (by rfl) (by walk_at "v") (by decide) (by decide)))) (@pe_op _ _ _ _ _ _ _ _ (@op_repL _ K) (@pe_lst _ _ _ _ (@pa_cons _ _ _ _ _ (@pe_op _ _ _ _ _ _ _ _ (@op_mulS _) (@pe_ix _ _ _ _ _ _ _ (@kix_seq _ K (by rfl)) (@pv _ 2 _ _ (by rfl) (by walk_at "v") (by decide) (by decide)) (@pe_op _ _ _ _ _ _ _ _ (@op_sub _) (@pv _ 3 _ _ (by rfl) (by walk_at "v") (by decide) (by decide)) (@pe_int _ _ _ _)) (fun _ _ => rfl)) (@pe_int _ _ _ _)) (@pa_nil _) (by rfl))) (@pe_callTy _ _ _ _ _ _ _ _ _ (@call_int1 _) rfl gb.int bt_int (@pa_cons _ _ _ _ _ (@pe_cmpR _ _ _ _ _ _ _ _ (@op_eq _) (@pv _ 1 _ _ (by rfl) (by walk_at "v") (by decide) (by decide)) (@pe_int _ _ _ _) (@nomark _ _ (by decide) (by decide))) (@pa_nil _) (by rfl)) (by decide) (by decide) (by rfl) (by rfl)))))) (@pss_nil _)) (@pss_cons _ _ _ _ _ (@ps_set _ _ 6 _ _ _ _ sc_law_names.nd rfl (Or.inr rfl) (@pe_op _ _ _ _ _ _ _ _ (@op_add _) (@pe_int _ _ _ _) (@pe_def _ _ _ _ _ _ _ _ _ _ _ d_law_draw hr (by omega) rfl (@pa_cons _ _ _ _ _ (@pv _ 0 _ _ (by rfl) (by walk_at "v") (by decide) (by decide)) (@pa_cons _ _ _ _ _ (@pe_int _ _ _ _) (@pa_nil _) (by rfl)) (by rfl)) (by decide) (by rfl) (by rfl))) (by rfl) (by walk_at "f")) (@pss_cons _ _ _ _ _ (@ps_set _ _ 7 _ _ _ _ sc_law_names.nd rfl (Or.inr rfl) (@pe_def _ _ _ _ _ _ _ _ _ _ _ d_law_draw hr (by omega) rfl (@pa_cons _ _ _ _ _ (@pv _ 0 _ _ (by rfl) (by walk_at "v") (by decide) (by decide)) (@pa_cons _ _ _ _ _ (@pe_op _ _ _ _ _ _ _ _ (@op_add _) (@pv _ 6 _ _ (by rfl) (by walk_at "v") (by decide) (by decide)) (@pe_int _ _ _ _)) (@pa_nil _) (by rfl)) (by rfl)) (by decide) (by rfl) (by rfl)) (by rfl) (by walk_at "f")) (@pss_one _ _ _ (@ps_ret _ _ _ _ (@pe_comp _ ["_law_k", "_law_at", "_law_signs", "_law_first", "_law_size"] [none, some 7, some 2, some 3, some 6] _ _ _ _ _ _ _ _ _ _ (by exact (show CompOk ["_law_well_here", "_law_many", "_law_signs", "_law_first", "_law_pick", "_law_some", "_law_size", "_law_at"] (defScope s_law_names) ["_law_k", "_law_at", "_law_signs", "_law_first", "_law_size"] [none, some 7, some 2, some 3, some 6] _ from ⟨rfl, by decide +kernel, by decide +kernel, by decide +kernel, by decide +kernel, rfl, by decide +kernel⟩)) rfl (@pi_range1 _ _ _ _ _ _ rfl gb.range (@pa_cons _ _ _ _ _ (@pv _ 1 _ _ (by rfl) (by walk_at "v") (by decide) (by decide)) (@pa_nil _) (by rfl)) (by rfl)) (fun _ _ _ _ => (@pg_name _ _ 0 _ nd1 rfl (Or.inl rfl) (by walk_at "f"))) (fun _ _ _ _ => (@pf_nil _)) (fun _ _ _ _ => (@pe_op _ _ _ _ _ _ _ _ (@op_add_str _) (@pe_op _ _ _ _ _ _ _ _ (@op_add_str _) (@pe_op _ _ _ _ _ _ _ _ (@op_mulS _) (@pe_str _ _ _ _) (@pv _ 1 _ _ (by rfl) (by walk_at "v") (by decide) (by decide))) (@pe_ix _ _ _ _ _ _ _ (@kix_seq _ K (by rfl)) (@pv _ 2 _ _ (by rfl) (by walk_at "v") (by decide) (by decide)) (@pe_op _ _ _ _ _ _ _ _ (@op_mod _) (@pe_op _ _ _ _ _ _ _ _ (@op_add _) (@pv _ 3 _ _ (by rfl) (by walk_at "v") (by decide) (by decide)) (@pv _ 0 _ _ (by rfl) (by walk_at "v") (by decide) (by decide))) (@pe_int _ _ _ _)) (fun _ _ => rfl))) (@pe_op _ _ _ _ _ _ _ _ (@op_mulS _) (@pe_str _ _ _ _) (@pe_op _ _ _ _ _ _ _ _ (@op_sub _) (@pv _ 4 _ _ (by rfl) (by walk_at "v") (by decide) (by decide)) (@pv _ 1 _ _ (by rfl) (by walk_at "v") (by decide) (by decide)))))) (by intro _; rfl))))))))))), ?_⟩
  refine ⟨_, rfl, p, 26, rfl, w, by decide, by decide, fun f H1 f1 o1 w1 => ?_⟩
  refine ⟨_, rfl, p, 3, rfl, w1, by decide, by decide, fun g H2 g1 o2 w2 => ?_⟩
  have o12 := o1.trans o2
  refine ⟨_, rfl, rfl, _, rfl, ite2 (fun c => ?_) (fun c => ?_)⟩
  · refine ⟨small9 (by show 8 ≤ 1000; decide), fun L hL => ?_⟩
    have hN := rot8 f
    have hT : TL 8 [.str "and", .str "or", .str "not", .str "then", .str "grades", .str "wished", .str "false", .str "true"] := ⟨["and", "or", "not", "then", "grades", "wished", "false", "true"], rfl, by decide, by decide +kernel⟩
    generalize ([.str "and", .str "or", .str "not", .str "then", .str "grades", .str "wished", .str "false", .str "true"] : List V) = xs at *
    have n1 := same_new hL (.lst xs)
    refine ⟨_, rfl, _, rfl, _, _, rfl, rfl, (show (0 : Int) < 8 by decide), _, rfl, .inl ⟨L, _, rfl, SqL.of upd_same, fun y hy => ?_⟩⟩
    have n2 := same_new hy (.lst (cutV xs (some ((f : Int) % 8)) none))
    refine ⟨_, rfl, _, rfl, _, _, rfl, rfl, (show (0 : Int) < 8 by decide), _, rfl, .inl ⟨L, _, rfl, SqL.of (n2 _ _ upd_same), fun z hz => ?_⟩⟩
    have n3 := same_new hz (.lst (cutV xs none (some ((f : Int) % 8))))
    have t1 := hT.cut (some ((f : Int) % 8)) none
    have t2 := hT.cut none (some ((f : Int) % 8))
    have l1 := t1.len
    have l2 := t2.len
    refine ⟨y, z, _, _, rfl, rfl, n3 _ _ upd_same, upd_same, small9 (by omega), fun v hv => ?_⟩
    have n4 := same_new hv (.lst (cutV xs (some ((f : Int) % 8)) none ++ cutV xs none (some ((f : Int) % 8))))
    refine ⟨_, rfl, _, rfl, .inl ⟨v, _, rfl, SqL.of upd_same, fun r hr' => ?_⟩⟩
    have n5 := same_new hr' (.lst (cutV (cutV xs (some ((f : Int) % 8)) none ++ cutV xs none (some ((f : Int) % 8))) none (some (k : Int))))
    have sN := n1.trans (n2.trans (n3.trans (n4.trans n5)))
    exact q r _ _ (o12.trans (Off.of sN)) (w2.same sN) upd_same ((t1.app t2).cut _ _) (nd_cut hN _ _) (Ne.symm ((w2.same (n1.trans (n2.trans (n3.trans n4)))).ne hr'))
  refine ⟨_, rfl, rfl, _, rfl, ite2 (fun c => ?_) (fun c => ?_)⟩
  · refine ⟨7, rfl, by decide, by decide, fun D hD => ?_⟩
    obtain ⟨cc, ec⟩ := sign_at (i := (f : Int)) (by omega) (by omega)
    refine comp_range (fun i ys H' => Same H2 H' ∧ TL i ys ∧ ys = (List.range i).map (nm1 cc)) ⟨same_new hD _, ⟨[], rfl, Nat.le_refl _, fun y h => by cases h⟩, rfl⟩ ?_ ?_
    · rintro i ys H3 hi ⟨s3, t3, ey⟩ hD3
      have i7 : i < 7 := hi
      refine yes ⟨_, rfl, _, rfl, .inr (.inr ⟨signs, _, cc, rfl, rfl, small9 (by decide +kernel), ec, _, rfl, _, _, rfl, rfl, _, _, rfl, rfl, by omega, by omega, (show (Str.mk #[cc]).length ≤ 10 from (show 1 ≤ 10 by decide)), ?_⟩)⟩
      have l3 := t3.len
      refine cyes hi rset1 hD3 (small1000 (by omega)) ⟨s3.put hD, ?_, by rw [ey, List.range_succ, List.map_append]; rfl⟩
      refine t3.app ⟨[_], rfl, Nat.le_refl _, fun y hy => ?_⟩
      rw [List.mem_singleton.mp hy]
      refine Nat.le_trans (mul_len _ _) ?_
      show 1 * _ ≤ 100
      omega
    · rintro ys H3 ⟨s3, t3, ey⟩ hD3
      have hN : ys.Nodup := by rw [ey]; exact nm1_nd _ _
      refine ⟨_, rfl, _, rfl, .inl ⟨D, _, rfl, SqL.of hD3, fun y hy => ?_⟩⟩
      have n1 := same_new hy (.lst (cutV ys none (some (k : Int))))
      clear ec
      obtain ⟨cc, ec⟩ := sign_at (i := (f : Int) - 1) (by omega) (by omega)
      refine ⟨_, rfl, _, rfl, _, _, rfl, rfl, .inr (.inr ⟨signs, _, cc, rfl, rfl, small9 (by decide +kernel), ec, _, _, rfl, rfl, by decide, by decide, (show (Str.mk #[cc]).length ≤ 10 from (show 1 ≤ 10 by decide)), small9 (by show 1 ≤ 1000; decide), fun z hz => ?_⟩)⟩
      have n2 := same_new hz (.lst [.str (Txt.mul (Str.mk #[cc]) 2)])
      have tz : TL 1 [.str (Txt.mul (Str.mk #[cc]) 2)] := ⟨[_], rfl, Nat.le_refl _, fun y hy => by rw [List.mem_singleton.mp hy]; exact Nat.le_trans (mul_len _ _) (by show 1 * 2 ≤ 100; decide)⟩
      refine ⟨_, rfl, rfl, .inr ⟨_, rfl, z, _, _, rfl, rfl, upd_same, by split <;> decide, by split <;> decide, by (show 1 * _ ≤ 1000; split <;> decide), fun v hv => ?_⟩⟩
      dsimp only at hv ⊢
      have trep : TL 1 (List.replicate (if decide (V.int (k : Int) = V.int 8) = true then (1 : Int) else 0).toNat [V.str (Txt.mul (Str.mk #[cc]) 2)]).flatten := by
        split
        · exact tz
        · exact ⟨[], rfl, by decide, fun y h => by cases h⟩
      have ez : (List.replicate (if decide (V.int (k : Int) = V.int 8) = true then (1 : Int) else 0).toNat [V.str (Txt.mul (Str.mk #[cc]) 2)]).flatten = [] := by
        rw [if_neg (by rw [decide_eq_false (fun z => by have := V.int.inj z; omega)]; exact Bool.false_ne_true)]
        rfl
      generalize (List.replicate (if decide (V.int (k : Int) = V.int 8) = true then (1 : Int) else 0).toNat [V.str (Txt.mul (Str.mk #[cc]) 2)]).flatten = zs at *
      have n3 := same_new hv (.lst zs)
      have t1 := t3.cut none (some (k : Int))
      have l1 := t1.len
      have l2 := trep.len
      refine ⟨y, v, _, _, rfl, rfl, n3 _ _ (n2 _ _ upd_same), upd_same, small9 (by show _ ≤ 1000; have : (7 : Int).toNat = 7 := rfl; omega), fun r hr' => ?_⟩
      have n4 := same_new hr' (.lst (cutV ys none (some (k : Int)) ++ zs))
      have sN := s3.trans (n1.trans (n2.trans (n3.trans n4)))
      exact q r _ _ (o12.trans (Off.of sN)) (w2.same sN) upd_same ((t1.app trep).mono (by decide)) (by rw [ez, List.append_nil]; exact nd_cut hN _ _) (Ne.symm ((w2.same (s3.trans (n1.trans (n2.trans n3)))).ne hr'))
  refine ⟨_, rfl, p, 7, rfl, w2, by decide, by decide, fun sz H3 z1 o3 w3 => ?_⟩
  refine ⟨_, _, rfl, rfl, ?_⟩
  dsimp only
  refine ⟨_, rfl, _, rfl, _, _, rfl, rfl, p, sz + 2, by (show [V.ref p, V.int (1 + (sz : Int) + 1)] = _; rw [show (1 + (sz : Int) + 1) = ((sz + 2 : Nat) : Int) by omega]), w3, by omega, by omega, fun at_ H4 a1 o4 w4 => ?_⟩
  have o14 := o12.trans (o3.trans o4)
  refine ⟨_, rfl, (k : Int), rfl, by omega, by omega, fun D hD => ?_⟩
  rw [Int.toNat_natCast]
  refine comp_range (fun i ys H' => Same H4 H' ∧ TL i ys ∧ ys = (List.range i).map (nm2 f (Txt.mul (Str.ofString "a") (at_ : Int)) (Txt.mul (Str.ofString "b") (1 + (sz : Int) - (at_ : Int))))) ⟨same_new hD _, ⟨[], rfl, Nat.le_refl _, fun y h => by cases h⟩, rfl⟩ ?_ ?_
  · rintro i ys H5 hi ⟨s5, t5, ey⟩ hD5
    obtain ⟨cc, ec⟩ := sign_at (i := ((f : Int) + (0 + (i : Int))) % 26) (by omega) (by omega)
    have la := mul_len (Str.ofString "a") (at_ : Int)
    have lb := mul_len (Str.ofString "b") (1 + (sz : Int) - (at_ : Int))
    rw [show (Str.ofString "a").length = 1 by decide +kernel] at la
    rw [show (Str.ofString "b").length = 1 by decide +kernel] at lb
    refine yes ⟨_, rfl, _, _, rfl, rfl, by omega, by omega, by decide +kernel, ?_⟩
    refine ⟨_, rfl, _, rfl, _, rfl, _, _, rfl, rfl, _, _, rfl, rfl, (show (0 : Int) < 26 by decide), .inr (.inr ⟨signs, _, cc, rfl, rfl, small9 (by decide +kernel), ec, _, _, rfl, rfl, ?_, ?_⟩)⟩
    · show _ + 1 ≤ _
      exact small9 (by omega)
    refine ⟨_, rfl, _, rfl, _, _, rfl, rfl, _, _, rfl, rfl, by omega, by omega, by decide +kernel, _, _, rfl, rfl, ?_, ?_⟩
    · rw [cat_len]
      show _ + 1 + _ ≤ _
      exact small9 (by omega)
    have l5 := t5.len
    refine cyes hi rset1 hD5 (small1000 (by omega)) ⟨s5.put hD, ?_, by rw [ey, List.range_succ, List.map_append, sg_of ec]; rfl⟩
    refine t5.app ⟨[_], rfl, Nat.le_refl _, fun y hy => ?_⟩
    rw [List.mem_singleton.mp hy, cat_len, cat_len]
    show _ + 1 + _ ≤ 100
    omega
  · rintro ys H5 ⟨s5, t5, ey⟩ hD5
    exact q D _ _ (o14.trans (Off.of s5)) (w4.same s5) hD5 (t5.mono (by omega)) (by rw [ey]; exact nm2_nd _ _ _ _ (by omega)) (Ne.symm (w4.ne hD))
abbrev s_law_cells : Stmt := top 25
theorem sc_law_cells : FnScope ["_law_well_here", "_law_many", "_law_places", "_law_size", "_law_kept_here", "_law_found"] ["_law_well_here", "_law_many", "_law_places"] (defScope s_law_cells) := ⟨rfl, rfl, rfl, by decide +kernel, rfl, by decide +kernel, by decide +kernel⟩
theorem ok_law_cells {P : Program} {w : World} {K : PySem.W.Frag} {mg : Str → Option Value} {base : Heap} {f : Addr} {fd : FuncData} (F : Fun K "_law_cells" "_law_cells" s_law_cells f fd) (gb : Gb mg) (d_law_draw : Def P w K mg base 1 "_law_draw" ["_law_well_here", "_law_many"] spDrawW) : FnOk P w K mg base CX0 2 f fd ["_law_well_here", "_law_many", "_law_places"] spCells := by
  refine F.ok sc_law_cells (fun vs H Q E h => ?_) (fun cdv A outer s H vs Q E hr h => ?_)
  · obtain ⟨p, m, pl, rfl, _⟩ := h
    rfl
  obtain ⟨p, m, pl, rfl, w, m1, m9, pl2, q⟩ := h
  have nd0 : (["_law_k", "_law_well_here", "_law_many"] : List Str).Nodup := by decide +kernel
  have nd1 : (["_law_k", "_law_well_here", "_law_many"] : List Str).Nodup := by decide +kernel
  have nd2 : (["_law_mark", "_law_kept_here"] : List Str).Nodup := by decide +kernel
  refine ⟨_, (@pss_cons _ _ _ _ _ (@ps_set _ _ 3 _ _ _ _ sc_law_cells.nd rfl (Or.inl rfl) (@pe_ix _ _ _ _ _ _ _ (@kix_seq _ K (by rfl)) (@pe_lst _ _ _ _ (@pa_cons _ _ _ _ _ (@pe_int _ _ _ _) (@pa_cons _ _ _ _ _ (@pv _ 1 _ _ (by rfl) (by walk_at "v") (by decide) (by decide)) (@pa_cons _ _ _ _ _ (@pe_op _ _ _ _ _ _ _ _ (@op_mul _) (@pv _ 1 _ _ (by rfl) (by walk_at "v") (by decide) (by decide)) (@pv _ 1 _ _ (by rfl) (by walk_at "v") (by decide) (by decide))) (@pa_nil _) (by rfl)) (by rfl)) (by rfl))) (@pv _ 2 _ _ (by rfl) (by walk_at "v") (by decide) (by decide)) (fun _ _ => rfl)) (by rfl) (by walk_at "f")) (@pss_cons _ _ _ _ _ (@ps_set _ _ 4 _ _ _ _ sc_law_cells.nd rfl (Or.inr rfl) (@pe_comp _ ["_law_k", "_law_well_here", "_law_many"] [none, some 0, some 1] _ _ _ _ _ _ _ _ _ _ (by exact (show CompOk ["_law_well_here", "_law_many", "_law_places", "_law_size", "_law_kept_here", "_law_found"] (defScope s_law_cells) ["_law_k", "_law_well_here", "_law_many"] [none, some 0, some 1] _ from ⟨rfl, by decide +kernel, by decide +kernel, by decide +kernel, by decide +kernel, rfl, by decide +kernel⟩)) rfl (@pi_range1 _ _ _ _ _ _ rfl gb.range (@pa_cons _ _ _ _ _ (@pe_op _ _ _ _ _ _ _ _ (@op_add _) (@pe_int _ _ _ _) (@pe_def _ _ _ _ _ _ _ _ _ _ _ d_law_draw hr (by omega) rfl (@pa_cons _ _ _ _ _ (@pv _ 0 _ _ (by rfl) (by walk_at "v") (by decide) (by decide)) (@pa_cons _ _ _ _ _ (@pe_int _ _ _ _) (@pa_nil _) (by rfl)) (by rfl)) (by decide) (by rfl) (by rfl))) (@pa_nil _) (by rfl)) (by rfl)) (fun _ _ _ _ => (@pg_name _ _ 0 _ nd0 rfl (Or.inl rfl) (by walk_at "f"))) (fun _ _ _ _ => (@pf_nil _)) (fun _ _ _ _ => (@pe_def _ _ _ _ _ _ _ _ _ _ _ d_law_draw hr (by omega) rfl (@pa_cons _ _ _ _ _ (@pv _ 1 _ _ (by rfl) (by walk_at "v") (by decide) (by decide)) (@pa_cons _ _ _ _ _ (@pv _ 2 _ _ (by rfl) (by walk_at "v") (by decide) (by decide)) (@pa_nil _) (by rfl)) (by rfl)) (by decide) (by rfl) (by rfl))) (by intro _; rfl)) (by rfl) (by walk_at "f")) (@pss_cons _ _ _ _ _ (@ps_setComp _ ["_law_k", "_law_well_here", "_law_many"] [none, some 0, some 1] _ 5 _ _ _ _ _ _ _ _ _ _ _ _ (by exact (show CompOk ["_law_well_here", "_law_many", "_law_places", "_law_size", "_law_kept_here", "_law_found"] (defScope s_law_cells) ["_law_k", "_law_well_here", "_law_many"] [none, some 0, some 1] _ from ⟨rfl, by decide +kernel, by decide +kernel, by decide +kernel, by decide +kernel, rfl, by decide +kernel⟩)) rfl (@pi_range1 _ _ _ _ _ _ rfl gb.range (@pa_cons _ _ _ _ _ (@pv _ 3 _ _ (by rfl) (by walk_at "v") (by decide) (by decide)) (@pa_nil _) (by rfl)) (by rfl)) (fun _ _ _ _ => (@pg_name _ _ 0 _ nd1 rfl (Or.inl rfl) (by walk_at "f"))) (fun _ _ _ _ => (@pf_nil _)) (fun _ _ _ _ => (@pe_def _ _ _ _ _ _ _ _ _ _ _ d_law_draw hr (by omega) rfl (@pa_cons _ _ _ _ _ (@pv _ 1 _ _ (by rfl) (by walk_at "v") (by decide) (by decide)) (@pa_cons _ _ _ _ _ (@pv _ 2 _ _ (by rfl) (by walk_at "v") (by decide) (by decide)) (@pa_nil _) (by rfl)) (by rfl)) (by decide) (by rfl) (by rfl))) sc_law_cells.nd rfl rfl rfl (by intro _; rfl)) (@pss_cons _ _ _ _ _ (@ps_if _ _ _ _ _ _ _ _ (@pt_cmpR _ _ _ _ _ _ _ _ (@op_eq _) (@pe_def _ _ _ _ _ _ _ _ _ _ _ d_law_draw hr (by omega) rfl (@pa_cons _ _ _ _ _ (@pv _ 0 _ _ (by rfl) (by walk_at "v") (by decide) (by decide)) (@pa_cons _ _ _ _ _ (@pe_int _ _ _ _) (@pa_nil _) (by rfl)) (by rfl)) (by decide) (by rfl) (by rfl)) (@pe_int _ _ _ _) (@nomark _ _ (by decide) (by decide))) (@pss_one _ _ _ (@ps_setComp _ ["_law_mark", "_law_kept_here"] [none, some 4] _ 5 _ _ _ _ _ _ _ _ _ _ _ _ (by exact (show CompOk ["_law_well_here", "_law_many", "_law_places", "_law_size", "_law_kept_here", "_law_found"] (defScope s_law_cells) ["_law_mark", "_law_kept_here"] [none, some 4] _ from ⟨rfl, by decide +kernel, by decide +kernel, by decide +kernel, by decide +kernel, rfl, by decide +kernel⟩)) rfl (@kpi_list _ K _ _ _ (@pv _ 5 _ _ (by rfl) (by walk_at "v") (by decide) (by decide)) (by rfl)) (fun _ _ _ _ => (@pg_name _ _ 0 _ nd2 rfl (Or.inl rfl) (by walk_at "f"))) (fun _ _ _ _ => (@pf_nil _)) (fun _ _ _ _ => (@pe_ix _ _ _ _ _ _ _ (@kix_seq _ K (by rfl)) (@pv _ 1 _ _ (by rfl) (by walk_at "v") (by decide) (by decide)) (@pe_op _ _ _ _ _ _ _ _ (@op_mod _) (@pv _ 0 _ _ (by rfl) (by walk_at "v") (by decide) (by decide)) (@pe_callB _ _ _ _ _ _ _ _ _ (@kcall_len _ K (by rfl)) rfl gb.len bt_len (@pa_cons _ _ _ _ _ (@pv _ 1 _ _ (by rfl) (by walk_at "v") (by decide) (by decide)) (@pa_nil _) (by rfl)) (by decide) (by decide) (by rfl) (by rfl))) (fun _ _ => rfl))) sc_law_cells.nd rfl rfl rfl (by intro _; rfl))) (@pss_nil _)) (@pss_one _ _ _ (@ps_ret _ _ _ _ (@pe_callTy _ _ _ _ _ _ _ _ _ (@kcall_tuple_of _ K (by rfl)) rfl gb.tuple bt_tuple (@pa_cons _ _ _ _ _ (@pv _ 5 _ _ (by rfl) (by walk_at "v") (by decide) (by decide)) (@pa_nil _) (by rfl)) (by decide) (by decide) (by rfl) (by rfl)))))))), ?_⟩
  have mp := pow_small m9 pl2
  refine ⟨_, rfl, _, rfl, _, rfl, _, _, rfl, rfl, .inr ⟨by omega, by omega⟩, small9 (by show 3 ≤ 1000; decide), fun L hL => ?_⟩
  have nL := same_new hL (.lst [.int 1, nV m, .int ((m : Int) * (m : Int))])
  refine ⟨_, rfl, .inl ⟨L, _, _, nV (m ^ pl), rfl, rfl, SqL.of upd_same, ?_, ?_⟩⟩
  · have h : pl = 0 ∨ pl = 1 ∨ pl = 2 := by omega
    rcases h with rfl | rfl | rfl
    · exact atI_nat (by rw [Nat.pow_zero]; rfl)
    · exact atI_nat (by rw [Nat.pow_one]; rfl)
    · exact atI_nat (by rw [Nat.pow_two, show nV (m * m) = V.int ((m : Int) * (m : Int)) by show V.int _ = _; rw [Int.natCast_mul]]; rfl)
  refine ⟨_, rfl, p, 3, rfl, w.same nL, by decide, by decide, fun kc H1 kc1 o1 w1 => ?_⟩
  refine ⟨_, _, rfl, rfl, _, rfl, by omega, by omega, fun D hD => ?_⟩
  rw [show (1 + (kc : Int)).toNat = kc + 1 by omega]
  have oA := (Off.of (p := p) nL).trans o1
  refine comp_draws (m := m) w1 hD (by omega) (fun i H' Q' hi w' k' => ⟨_, rfl, _, rfl, p, m, rfl, w', by omega, by omega, k'⟩) (fun ks H2 kl kv o2 w2 hD2 => ?_)
  have pD := w1.ne hD
  refine ⟨_, rfl, _, rfl, by omega, by omega, fun D2 hD3 => ?_⟩
  rw [Int.toNat_natCast]
  refine comp_draws (m := m) w2 hD3 (by omega) (fun i H' Q' hi w' k' => ⟨_, rfl, _, rfl, p, m, rfl, w', by omega, by omega, k'⟩) (fun fs H3 fl fv o3 w3 hD4 => ?_)
  have pD2 := w2.ne hD3
  refine ⟨_, rfl, p, 3, rfl, w3, by decide, by decide, fun dd H4 d1 o4 w4 => ⟨rfl, _, rfl, ?_⟩⟩
  have hk4 := o4 D _ (Ne.symm pD) (o3 D _ (Ne.symm pD) hD2)
  have hf4 := o4 D2 _ (Ne.symm pD2) hD4
  have oB := oA.trans (o2.trans (o3.trans o4))
  refine ite2 (fun c => ?_) (fun c => ?_)
  · refine ⟨_, rfl, D2, rfl, ⟨_, SqL.of hf4⟩, fun D3 hD5 => ?_⟩
    have kpos : 0 < ks.length := by omega
    refine map_list fs nV (fun x => nV (Tn.at' ks (x % ks.length))) hf4 (by omega) hD5 (fun z hz H' Q' s5 q' => ?_) (fun H5 s5 hD6 => ?_)
    · have hlen : ((ks.map nV).length : Int) = (ks.length : Int) := by rw [List.length_map]
      have e : atI (ks.map nV) ((z : Int) % ((ks.map nV).length : Int)) = some (nV (Tn.at' ks (z % ks.length))) := by
        rw [hlen, ← Int.natCast_emod]
        exact at_nV (Nat.mod_lt _ kpos)
      exact ⟨_, rfl, _, rfl, _, rfl, _, _, rfl, .inl ⟨_, SqL.of (s5 _ _ hk4), rfl⟩, _, _, rfl, rfl, (by rw [hlen]; omega), .inl ⟨D, _, _, _, rfl, rfl, SqL.of (s5 _ _ hk4), e, q' H' Same.rfl'⟩⟩
    · refine ⟨_, rfl, D3, _, rfl, .inl ⟨SqL.of hD6, fun t ht => ?_⟩⟩
      have n6 := same_new ht (.tup (fs.map fun x => nV (Tn.at' ks (x % ks.length))))
      refine q t (fs.map fun x => Tn.at' ks (x % ks.length)) _ (oB.trans (Off.of (s5.trans n6))) (w4.same (s5.trans n6)) ⟨by rw [List.length_map]; exact fl, fun x hx => ?_⟩ (by rw [List.map_map]; exact upd_same)
      obtain ⟨y, hy, rfl⟩ := List.mem_map.mp hx
      have hl := Nat.mod_lt y kpos
      unfold Tn.at'
      rw [List.getD_eq_getElem?_getD, List.getElem?_eq_getElem hl]
      exact kv _ (List.getElem_mem _)
  · refine ⟨_, rfl, D2, _, rfl, .inl ⟨SqL.of hf4, fun t ht => ?_⟩⟩
    have n6 := same_new ht (.tup (fs.map nV))
    exact q t fs _ (oB.trans (Off.of n6)) (w4.same n6) ⟨fl, fv⟩ upd_same
abbrev s_law_table : Stmt := top 26
theorem sc_law_table : FnScope ["_law_well_here", "_law_most", "_law_some", "_law_many", "_law_wished", "_law_names_here", "_law_connectives", "_law_name", "_law_places"] ["_law_well_here", "_law_most", "_law_some"] (defScope s_law_table) := ⟨rfl, rfl, rfl, by decide +kernel, rfl, by decide +kernel, by decide +kernel⟩
theorem ok_law_table {P : Program} {w : World} {K : PySem.W.Frag} {mg : Str → Option Value} {base : Heap} {f : Addr} {fd : FuncData} (F : Fun K "_law_table" "_law_table" s_law_table f fd) (gb : Gb mg) (d_law_draw : Def P w K mg base 1 "_law_draw" ["_law_well_here", "_law_many"] spDrawW) (d_law_names : Def P w K mg base 2 "_law_names" ["_law_well_here", "_law_many"] spNames) (d_law_cells : Def P w K mg base 2 "_law_cells" ["_law_well_here", "_law_many", "_law_places"] spCells) : FnOk P w K mg base CX0 3 f fd ["_law_well_here", "_law_most", "_law_some"] spTable := by
  refine F.ok sc_law_table (fun vs H Q E h => ?_) (fun cdv A outer s H vs Q E hr h => ?_)
  · obtain ⟨p, rfl, _⟩ := h
    rfl
  obtain ⟨p, rfl, w, q⟩ := h
  have nd0 : (["_law_mark", "_law_well_here"] : List Str).Nodup := by decide +kernel
  refine ⟨_, (@pss_cons _ _ _ _ _ (@ps_set _ _ 3 _ _ _ _ sc_law_table.nd rfl (Or.inl rfl) (@pe_op _ _ _ _ _ _ _ _ (@op_add _) (@pe_int _ _ _ _) (@pe_def _ _ _ _ _ _ _ _ _ _ _ d_law_draw hr (by omega) rfl (@pa_cons _ _ _ _ _ (@pv _ 0 _ _ (by rfl) (by walk_at "v") (by decide) (by decide)) (@pa_cons _ _ _ _ _ (@pv _ 1 _ _ (by rfl) (by walk_at "v") (by decide) (by decide)) (@pa_nil _) (by rfl)) (by rfl)) (by decide) (by rfl) (by rfl))) (by rfl) (by walk_at "f")) (@pss_cons _ _ _ _ _ (@ps_set _ _ 4 _ _ _ _ sc_law_table.nd rfl (Or.inl rfl) (@pe_callTy _ _ _ _ _ _ _ _ _ (@kcall_tuple_of _ K (by rfl)) rfl gb.tuple bt_tuple (@pa_cons _ _ _ _ _ (@pe_comp _ ["_law_mark", "_law_well_here"] [none, some 0] _ _ _ _ _ _ _ _ _ _ (by exact (show CompOk ["_law_well_here", "_law_most", "_law_some", "_law_many", "_law_wished", "_law_names_here", "_law_connectives", "_law_name", "_law_places"] (defScope s_law_table) ["_law_mark", "_law_well_here"] [none, some 0] _ from ⟨rfl, by decide +kernel, by decide +kernel, by decide +kernel, by decide +kernel, rfl, by decide +kernel⟩)) rfl (@pi_range1 _ _ _ _ _ _ rfl gb.range (@pa_cons _ _ _ _ _ (@pv _ 3 _ _ (by rfl) (by walk_at "v") (by decide) (by decide)) (@pa_nil _) (by rfl)) (by rfl)) (fun _ _ _ _ => (@pg_name _ _ 0 _ nd0 rfl (Or.inl rfl) (by walk_at "f"))) (fun _ _ _ _ => (@pf_one _ _ _ (@pt_cmpR _ _ _ _ _ _ _ _ (@op_eq _) (@pe_def _ _ _ _ _ _ _ _ _ _ _ d_law_draw hr (by omega) rfl (@pa_cons _ _ _ _ _ (@pv _ 1 _ _ (by rfl) (by walk_at "v") (by decide) (by decide)) (@pa_cons _ _ _ _ _ (@pe_int _ _ _ _) (@pa_nil _) (by rfl)) (by rfl)) (by decide) (by rfl) (by rfl)) (@pe_int _ _ _ _) (@nomark _ _ (by decide) (by decide))))) (fun _ _ _ _ => (@pv _ 0 _ _ (by rfl) (by walk_at "v") (by decide) (by decide))) (by intro _; rfl)) (@pa_nil _) (by rfl)) (by decide) (by decide) (by rfl) (by rfl)) (by rfl) (by walk_at "f")) (@pss_cons _ _ _ _ _ (@ps_set _ _ 5 _ _ _ _ sc_law_table.nd rfl (Or.inl rfl) (@pe_def _ _ _ _ _ _ _ _ _ _ _ d_law_names hr (by omega) rfl (@pa_cons _ _ _ _ _ (@pv _ 0 _ _ (by rfl) (by walk_at "v") (by decide) (by decide)) (@pa_cons _ _ _ _ _ (@pe_def _ _ _ _ _ _ _ _ _ _ _ d_law_draw hr (by omega) rfl (@pa_cons _ _ _ _ _ (@pv _ 0 _ _ (by rfl) (by walk_at "v") (by decide) (by decide)) (@pa_cons _ _ _ _ _ (@pe_op _ _ _ _ _ _ _ _ (@op_add _) (@pv _ 2 _ _ (by rfl) (by walk_at "v") (by decide) (by decide)) (@pe_int _ _ _ _)) (@pa_nil _) (by rfl)) (by rfl)) (by decide) (by rfl) (by rfl)) (@pa_nil _) (by rfl)) (by rfl)) (by decide) (by rfl) (by rfl)) (by rfl) (by walk_at "f")) (@pss_cons _ _ _ _ _ (@ps_set _ _ 6 _ _ _ _ sc_law_table.nd rfl (Or.inl rfl) (@pe_lst _ _ _ _ (@pa_nil _)) (by rfl) (by walk_at "f")) (@pss_cons _ _ _ _ _ (@ps_for _ _ _ _ _ _ _ _ PassesOwn.never rfl (@kpi_list _ K _ _ _ (@pv _ 5 _ _ (by rfl) (by walk_at "v") (by decide) (by decide)) (by rfl)) (@pg_name _ _ 7 _ sc_law_table.nd rfl (Or.inl rfl) (by walk_at "f")) (@pss_cons _ _ _ _ _ (@ps_set _ _ 8 _ _ _ _ sc_law_table.nd rfl (Or.inl rfl) (@pe_ix _ _ _ _ _ _ _ (@kix_seq _ K (by rfl)) (@pe_lst _ _ _ _ (@pa_cons _ _ _ _ _ (@pe_int _ _ _ _) (@pa_cons _ _ _ _ _ (@pe_int _ _ _ _) (@pa_cons _ _ _ _ _ (@pe_int _ _ _ _) (@pa_cons _ _ _ _ _ (@pe_int _ _ _ _) (@pa_cons _ _ _ _ _ (@pe_int _ _ _ _) (@pa_nil _) (by rfl)) (by rfl)) (by rfl)) (by rfl)) (by rfl))) (@pe_def _ _ _ _ _ _ _ _ _ _ _ d_law_draw hr (by omega) rfl (@pa_cons _ _ _ _ _ (@pv _ 0 _ _ (by rfl) (by walk_at "v") (by decide) (by decide)) (@pa_cons _ _ _ _ _ (@pe_int _ _ _ _) (@pa_nil _) (by rfl)) (by rfl)) (by decide) (by rfl) (by rfl)) (fun _ _ => rfl)) (by rfl) (by walk_at "f")) (@pss_one _ _ _ (@ps_expr _ _ _ _ (@kpe_bm _ K _ _ _ _ _ _ _ _ _ _ _ PySem.F.plainAttrs_list PySem.F.slot_list_append PySem.F.type_list_append (@mt_append _) (@pv _ 6 _ _ (by rfl) (by walk_at "v") (by decide) (by decide)) (@pa_cons _ _ _ _ _ (@pe_tup _ _ _ _ _ (@pa_cons _ _ _ _ _ (@pv _ 7 _ _ (by rfl) (by walk_at "v") (by decide) (by decide)) (@pa_cons _ _ _ _ _ (@pv _ 8 _ _ (by rfl) (by walk_at "v") (by decide) (by decide)) (@pa_cons _ _ _ _ _ (@pe_def _ _ _ _ _ _ _ _ _ _ _ d_law_cells hr (by omega) rfl (@pa_cons _ _ _ _ _ (@pv _ 0 _ _ (by rfl) (by walk_at "v") (by decide) (by decide)) (@pa_cons _ _ _ _ _ (@pv _ 3 _ _ (by rfl) (by walk_at "v") (by decide) (by decide)) (@pa_cons _ _ _ _ _ (@pv _ 8 _ _ (by rfl) (by walk_at "v") (by decide) (by decide)) (@pa_nil _) (by rfl)) (by rfl)) (by rfl)) (by decide) (by rfl) (by rfl)) (@pa_nil _) (by rfl)) (by rfl)) (by rfl))) (@pa_nil _) (by rfl)) (by rfl) (by rfl) (by rfl) (by rfl) (by rfl) (by rfl)) (by rfl)))) (by intro _; rfl)) (@pss_one _ _ _ (@ps_ret _ _ _ _ (@pe_tup _ _ _ _ _ (@pa_cons _ _ _ _ _ (@pv _ 3 _ _ (by rfl) (by walk_at "v") (by decide) (by decide)) (@pa_cons _ _ _ _ _ (@pv _ 4 _ _ (by rfl) (by walk_at "v") (by decide) (by decide)) (@pa_cons _ _ _ _ _ (@pe_callTy _ _ _ _ _ _ _ _ _ (@kcall_tuple_of _ K (by rfl)) rfl gb.tuple bt_tuple (@pa_cons _ _ _ _ _ (@pv _ 6 _ _ (by rfl) (by walk_at "v") (by decide) (by decide)) (@pa_nil _) (by rfl)) (by decide) (by decide) (by rfl) (by rfl)) (@pa_nil _) (by rfl)) (by rfl)) (by rfl)))))))))), ?_⟩
  refine ⟨_, rfl, _, rfl, p, 4, rfl, w, by decide, by decide, fun mm H1 mm1 o1 w1 => ?_⟩
  refine ⟨_, _, rfl, rfl, ?_⟩
  dsimp only
  rw [show (1 + (mm : Int)) = ((mm + 1 : Nat) : Int) by omega]
  refine ⟨_, rfl, ((mm + 1 : Nat) : Int), rfl, by omega, by omega, fun D hD => ?_⟩
  rw [Int.toNat_natCast]
  have pD := w1.ne hD
  refine comp_range (fun i ys H' => ∃ ws : List Nat, ys = ws.map nV ∧ ws.Pairwise (· < ·) ∧ (∀ x ∈ ws, x < i) ∧ ws.length ≤ i ∧ Off p H1 H' ∧ Wel H' p) ⟨[], rfl, .nil, (fun x h => by cases h), Nat.le_refl _, Off.new hD, w1.off pD⟩ ?_ ?_
  · rintro i ys H2 hi ⟨ws, rfl, wr, wl, wn, o2, w2⟩ hD2
    refine ⟨_, rfl, p, 2, rfl, w2, by decide, by decide, fun v H3 v1 o3 w3 => ⟨rfl, _, rfl, ?_⟩⟩
    have hD3 := o3 D _ (Ne.symm pD) hD2
    refine ite2 (fun c => ?_) (fun c => ?_)
    · refine ⟨_, rfl, cyes hi rset1 hD3 (by rw [List.length_map]; exact small1000 (by omega)) ⟨ws ++ [i], by rw [List.map_append, Int.zero_add]; rfl, ?_, fun x hx => ?_, by rw [List.length_append]; exact Nat.succ_le_succ wn, (o2.trans o3).fresh hD, w3.off pD⟩⟩
      · rw [List.pairwise_append]
        exact ⟨wr, List.pairwise_singleton _ _, fun a ha b hb => by rw [List.mem_singleton.mp hb]; exact wl a ha⟩
      · rcases List.mem_append.mp hx with h | h
        · have := wl x h
          omega
        · rw [List.mem_singleton.mp h]
          omega
    · exact cno hi rset1 hD3 ⟨ws, rfl, wr, fun x hx => Nat.lt_succ_of_lt (wl x hx), Nat.le_succ_of_le wn, o2.trans o3, w3⟩
  rintro ys H2 ⟨ws, rfl, wr, wl, wn, o2, w2⟩ hD2
  refine ⟨D, _, rfl, .inl ⟨SqL.of hD2, fun tw htw => ?_⟩⟩
  have n3 := same_new htw (.tup (ws.map nV))
  refine ⟨_, rfl, _, rfl, _, rfl, _, _, rfl, rfl, p, 5, rfl, w2.same n3, by decide, by decide, fun kk H3 kk1 o3 w3 => ?_⟩
  refine ⟨p, kk, rfl, w3, by omega, fun l xs H4 o4 w4 hl hT hN lp => ?_⟩
  have oA := o1.trans (o2.trans ((Off.of (p := p) n3).trans (o3.trans o4)))
  have htw4 : H4 tw = some (.tup (ws.map nV)) := (w3.tk o4) _ _ (((w2.same n3).tk o3) _ _ upd_same)
  refine ⟨small9 (by show 0 ≤ 1000; decide), fun cn hcn => ?_⟩
  have pcn := w4.ne hcn
  have n5 := same_new hcn (.lst [])
  refine ⟨_, rfl, l, rfl, ⟨_, SqL.of (n5 _ _ hl)⟩, ?_⟩
  have hTl := hT.len
  refine for_list (xs := xs) (fun i σ H' => (∃ x7 x8, σ = [some (.ref p), some (.int 4), some (.int 4), some (nV (mm + 1)), some (.ref tw), some (.ref l), some (.ref cn), x7, x8]) ∧ Off p H4 H' ∧ Wel H' p ∧ ∃ cs ys, H' cn = some (.lst ys) ∧ Cns H' cs ys ∧ cs.length = i ∧ (∀ c ∈ cs, c.nm.length ≤ 100 ∧ c.pl ≤ 2 ∧ Tn.Cs (mm + 1) c.pl c.cs) ∧ (cs.map fun c => V.str c.nm) = xs.take i) ⟨⟨_, _, rfl⟩, Off.of n5, w4.same n5, [], [], upd_same, .nil, rfl, (fun c h => by cases h), rfl⟩ (fun i σ H' _ h => SqL.of (h.2.1 _ _ lp hl)) ?_ ?_
  · rintro i x σ H5 hx ⟨⟨x7, x8, rfl⟩, o5, w5, cs, ys, hy, hC, cl, hg, en⟩
    obtain ⟨ts, rfl, tl, tb⟩ := id hT
    have hil : i < (ts.map V.str).length := (List.getElem?_eq_some_iff.mp hx).1
    have hx0 := hx
    rw [List.getElem?_map] at hx
    obtain ⟨nm, hnm, rfl⟩ := Option.map_eq_some_iff.mp hx
    refine ⟨small9 (by show 5 ≤ 1000; decide), fun L hL => ?_⟩
    have nL := same_new hL (.lst [.int 0, .int 1, .int 1, .int 2, .int 2])
    have pL := w5.ne hL
    refine ⟨_, rfl, p, 5, rfl, w5.same nL, by decide, by decide, fun v H7 v1 o7 w7 => ?_⟩
    obtain ⟨pl, e, p2⟩ : ∃ pl : Nat, atI [V.int 0, .int 1, .int 1, .int 2, .int 2] (v : Int) = some (nV pl) ∧ pl ≤ 2 := by
      match v, v1 with
      | 0, _ => exact ⟨0, atI_nat rfl, by decide⟩
      | 1, _ => exact ⟨1, atI_nat rfl, by decide⟩
      | 2, _ => exact ⟨1, atI_nat rfl, by decide⟩
      | 3, _ => exact ⟨2, atI_nat rfl, by decide⟩
      | 4, _ => exact ⟨2, atI_nat rfl, by decide⟩
    refine .inl ⟨L, _, _, _, rfl, rfl, SqL.of (o7 L _ (Ne.symm pL) upd_same), e, ?_⟩
    have hy7 := o7 cn _ (Ne.symm pcn) (nL _ _ hy)
    refine ⟨_, rfl, .inl ⟨rfl, _, SqL.of hy7⟩, _, rfl, _, rfl, _, rfl, _, rfl, _, rfl, p, mm + 1, pl, rfl, w7, by omega, by omega, p2, fun t cs8 H8 o8 w8 hcs ht => ?_⟩
    refine ⟨small9 (by show 3 ≤ 1000; decide), fun t3 ht3 => ?_⟩
    have n9 := same_new ht3 (.tup [.str nm, nV pl, .ref t])
    have hy9 := n9 _ _ (o8 cn _ (Ne.symm pcn) hy7)
    have hyl := hC.len
    have oN := (o5.trans (Off.of nL)).trans (o7.trans (o8.trans (Off.of n9)))
    have tN : Tk H5 (upd H8 t3 (.tup [.str nm, nV pl, .ref t])) := ((Tk.of nL).trans ((w5.same nL).tk o7)).trans ((w7.tk o8).trans (Tk.of n9))
    refine ⟨cn, _, _, rfl, rfl, hy9, small1000 (by omega), ⟨⟨_, _, rfl⟩, oN.fresh hcn, (w8.same n9).off pcn, cs ++ [⟨nm, pl, cs8⟩], _, upd_same, ?_, by rw [List.length_append, cl]; rfl, fun c hc => ?_, by rw [List.map_append, en, take_snoc hx0]; rfl⟩⟩
    · exact (Cns.snoc (c := ⟨nm, pl, cs8⟩) (hC.tk tN) upd_same (n9 _ _ ht)).tk (Tk.put hy9)
    · rcases List.mem_append.mp hc with h | h
      · exact hg c h
      · rw [List.mem_singleton.mp h]
        exact ⟨tb nm (List.mem_of_getElem? hnm), p2, hcs⟩
  · rintro σ H5 ⟨⟨x7, x8, rfl⟩, o5, w5, cs, ys, hy, hC, cl, hg, en⟩
    refine ⟨_, rfl, _, rfl, _, rfl, cn, _, rfl, .inl ⟨SqL.of hy, fun tc htc => ?_⟩⟩
    have n6 := same_new htc (.tup ys)
    refine ⟨small9 (by show 3 ≤ 1000; decide), fun t ht => ?_⟩
    have n7 := same_new ht (.tup [nV (mm + 1), .ref tw, .ref tc])
    have n67 := n6.trans n7
    refine q _ ⟨mm + 1, ws, cs⟩ _ ((oA.trans o5).trans (Off.of n67)) (w5.same n67) ⟨by show 1 ≤ mm + 1; omega, by show mm + 1 ≤ 9; omega, wr, wl, by show cs.length ≤ 16; omega, hg⟩ (by show mm + 1 ≤ 4; omega) ?_ ⟨t, tw, tc, ys, rfl, upd_same, n67 _ _ ((w4.tk o5) _ _ htw4), n7 _ _ upd_same, hC.same n67⟩
    rw [List.take_length] at en
    rw [← en] at hN
    refine nd_of_map ?_
    unfold nmsOf'
    rw [List.map_map]
    exact hN
abbrev s_law_rows : Stmt := top 27
theorem sc_law_rows : FnScope ["_law_size", "_law_places"] ["_law_size", "_law_places"] (defScope s_law_rows) := ⟨rfl, rfl, rfl, by decide +kernel, rfl, by decide +kernel, by decide +kernel⟩
theorem ok_law_rows {P : Program} {w : World} {K : PySem.W.Frag} {mg : Str → Option Value} {base : Heap} {f : Addr} {fd : FuncData} (F : Fun K "_law_rows" "_law_rows" s_law_rows f fd) (gb : Gb mg) : FnOk P w K mg base CX0 1 f fd ["_law_size", "_law_places"] spRows := by
  refine F.ok sc_law_rows (fun vs H Q E h => ?_) (fun cdv A outer s H vs Q E hr h => ?_)
  · obtain ⟨m, k, rfl, _⟩ := h
    rfl
  obtain ⟨m, k, rfl, m9, k2, q⟩ := h
  have nd0 : (["_law_mark"] : List Str).Nodup := by decide +kernel
  have nd1 : (["_law_place", "_law_size"] : List Str).Nodup := by decide +kernel
  refine ⟨_, (@pss_cons _ _ _ _ _ (@ps_if _ _ _ _ _ _ _ _ (@pt_cmpR _ _ _ _ _ _ _ _ (@op_eq _) (@pv _ 1 _ _ (by rfl) (by walk_at "v") (by decide) (by decide)) (@pe_int _ _ _ _) (@nomark _ _ (by decide) (by decide))) (@pss_one _ _ _ (@ps_ret _ _ _ _ (@pe_lst _ _ _ _ (@pa_cons _ _ _ _ _ (@pe_tup _ _ _ _ _ (@pa_nil _)) (@pa_nil _) (by rfl))))) (@pss_nil _)) (@pss_cons _ _ _ _ _ (@ps_if _ _ _ _ _ _ _ _ (@pt_cmpR _ _ _ _ _ _ _ _ (@op_eq _) (@pv _ 1 _ _ (by rfl) (by walk_at "v") (by decide) (by decide)) (@pe_int _ _ _ _) (@nomark _ _ (by decide) (by decide))) (@pss_one _ _ _ (@ps_ret _ _ _ _ (@pe_comp _ ["_law_mark"] [none] _ _ _ _ _ _ _ _ _ _ (by exact (show CompOk ["_law_size", "_law_places"] (defScope s_law_rows) ["_law_mark"] [none] _ from ⟨rfl, by decide +kernel, by decide +kernel, by decide +kernel, by decide +kernel, rfl, by decide +kernel⟩)) rfl (@pi_range1 _ _ _ _ _ _ rfl gb.range (@pa_cons _ _ _ _ _ (@pv _ 0 _ _ (by rfl) (by walk_at "v") (by decide) (by decide)) (@pa_nil _) (by rfl)) (by rfl)) (fun _ _ _ _ => (@pg_name _ _ 0 _ nd0 rfl (Or.inl rfl) (by walk_at "f"))) (fun _ _ _ _ => (@pf_nil _)) (fun _ _ _ _ => (@pe_tup _ _ _ _ _ (@pa_cons _ _ _ _ _ (@pv _ 0 _ _ (by rfl) (by walk_at "v") (by decide) (by decide)) (@pa_nil _) (by rfl)))) (by intro _; rfl)))) (@pss_nil _)) (@pss_one _ _ _ (@ps_ret _ _ _ _ (@pe_comp _ ["_law_place", "_law_size"] [none, some 0] _ _ _ _ _ _ _ _ _ _ (by exact (show CompOk ["_law_size", "_law_places"] (defScope s_law_rows) ["_law_place", "_law_size"] [none, some 0] _ from ⟨rfl, by decide +kernel, by decide +kernel, by decide +kernel, by decide +kernel, rfl, by decide +kernel⟩)) rfl (@pi_range1 _ _ _ _ _ _ rfl gb.range (@pa_cons _ _ _ _ _ (@pe_op _ _ _ _ _ _ _ _ (@op_mul _) (@pv _ 0 _ _ (by rfl) (by walk_at "v") (by decide) (by decide)) (@pv _ 0 _ _ (by rfl) (by walk_at "v") (by decide) (by decide))) (@pa_nil _) (by rfl)) (by rfl)) (fun _ _ _ _ => (@pg_name _ _ 0 _ nd1 rfl (Or.inl rfl) (by walk_at "f"))) (fun _ _ _ _ => (@pf_nil _)) (fun _ _ _ _ => (@pe_tup _ _ _ _ _ (@pa_cons _ _ _ _ _ (@pe_op _ _ _ _ _ _ _ _ (@op_fdiv _) (@pv _ 0 _ _ (by rfl) (by walk_at "v") (by decide) (by decide)) (@pv _ 1 _ _ (by rfl) (by walk_at "v") (by decide) (by decide))) (@pa_cons _ _ _ _ _ (@pe_op _ _ _ _ _ _ _ _ (@op_mod _) (@pv _ 0 _ _ (by rfl) (by walk_at "v") (by decide) (by decide)) (@pv _ 1 _ _ (by rfl) (by walk_at "v") (by decide) (by decide))) (@pa_nil _) (by rfl)) (by rfl)))) (by intro _; rfl)))))), ?_⟩
  refine ⟨_, rfl, rfl, _, rfl, ?_⟩
  match k, k2 with
  | 0, _ =>
    refine iteDT rfl ?_
    refine ⟨small9 (by show 0 ≤ 1000; decide), fun t ht => ⟨small9 (by show 1 ≤ 1000; decide), fun l hl => ?_⟩⟩
    have n1 := same_new ht (.tup [])
    have n2 := same_new hl (.lst [.ref t])
    exact q l _ _ (n1.trans n2) upd_same (.cons ⟨t, rfl, n2 _ _ upd_same⟩ .nil)
  | 1, _ =>
    refine iteDF rfl ?_
    refine ⟨_, rfl, rfl, _, rfl, iteDT rfl ?_⟩
    refine ⟨_, rfl, (m : Int), rfl, by omega, by omega, fun D hD => ?_⟩
    rw [Int.toNat_natCast]
    refine comp_range (fun i ys H' => Same H H' ∧ Rows H' ((List.range i).map fun i => [i]) ys ∧ ys.length = i) ⟨same_new hD _, .nil, rfl⟩ ?_ ?_
    · rintro i ys H1 hi ⟨s1, hR, yl⟩ hD1
      refine yes ⟨_, rfl, small9 (by show 1 ≤ 1000; decide), fun t ht => ?_⟩
      rw [Int.zero_add] at *
      have n2 := same_new ht (.tup [nV i])
      have hD2 := n2 _ _ hD1
      refine cyes hi rset1 hD2 (small1000 (by omega)) ⟨(s1.trans n2).put hD, ?_, by rw [List.length_append, yl]; rfl⟩
      rw [List.range_succ, List.map_append]
      exact ((hR.same n2).snoc (r := [i]) upd_same).tk (Tk.put hD2)
    · rintro ys H1 ⟨s1, hR, yl⟩ hD1
      exact q D ys _ s1 hD1 hR
  | 2, _ =>
    refine iteDF rfl ?_
    refine ⟨_, rfl, rfl, _, rfl, iteDF rfl ?_⟩
    have mm : m * m ≤ 81 := Nat.le_trans (Nat.mul_le_mul m9 m9) (by decide)
    have mi : ((m : Int) * (m : Int)) = ((m * m : Nat) : Int) := by rw [Int.natCast_mul]
    refine ⟨_, rfl, _, rfl, _, _, rfl, rfl, .inr ⟨by omega, by omega⟩, _, rfl, by rw [mi]; omega, by rw [mi]; omega, fun D hD => ?_⟩
    rw [mi, Int.toNat_natCast]
    refine comp_range (fun i ys H' => Same H H' ∧ Rows H' ((List.range i).map fun i => [i / m, i % m]) ys ∧ ys.length = i) ⟨same_new hD _, .nil, rfl⟩ ?_ ?_
    · rintro i ys H1 hi ⟨s1, hR, yl⟩ hD1
      have mp : 0 < m := by
        rcases Nat.eq_zero_or_pos m with z | z
        · rw [z] at hi
          omega
        · exact z
      refine yes ⟨_, rfl, _, rfl, _, _, rfl, rfl, ⟨by omega, by omega⟩, _, rfl, _, rfl, _, _, rfl, rfl, (by omega), small9 (by show 2 ≤ 1000; decide), fun t ht => ?_⟩
      rw [Int.zero_add] at *
      rw [show (fun i j => V.int (i / j)) (i : Int) (m : Int) = nV (i / m) by show V.int _ = V.int _; rw [Int.natCast_ediv], show (fun i j => V.int (i % j)) (i : Int) (m : Int) = nV (i % m) by show V.int _ = V.int _; rw [Int.natCast_emod]] at *
      have n2 := same_new ht (.tup [nV (i / m), nV (i % m)])
      have hD2 := n2 _ _ hD1
      refine cyes hi rset1 hD2 (small1000 (by omega)) ⟨(s1.trans n2).put hD, ?_, by rw [List.length_append, yl]; rfl⟩
      rw [List.range_succ, List.map_append]
      exact ((hR.same n2).snoc (r := [i / m, i % m]) upd_same).tk (Tk.put hD2)
    · rintro ys H1 ⟨s1, hR, yl⟩ hD1
      exact q D ys _ s1 hD1 hR
abbrev s_law_kept : Stmt := top 28
theorem sc_law_kept : FnScope ["_law_table_here", "_law_part", "_law_connectives", "_law_name", "_law_places", "_law_cells_here", "_law_found", "_law_row", "_law_place", "_law_mark"] ["_law_table_here", "_law_part"] (defScope s_law_kept) := ⟨rfl, rfl, rfl, by decide +kernel, rfl, by decide +kernel, by decide +kernel⟩
theorem ok_law_kept {P : Program} {w : World} {K : PySem.W.Frag} {mg : Str → Option Value} {base : Heap} {f : Addr} {fd : FuncData} (F : Fun K "_law_kept" "_law_kept" s_law_kept f fd) (gb : Gb mg) (d_law_rows : Def P w K mg base 1 "_law_rows" ["_law_size", "_law_places"] spRows) : FnOk P w K mg base CX0 2 f fd ["_law_table_here", "_law_part"] spKept := by
  refine F.ok sc_law_kept (fun vs H Q E h => ?_) (fun cdv A outer s H vs Q E hr h => ?_)
  · obtain ⟨v, g, T, G, rfl, _⟩ := h
    rfl
  obtain ⟨v, g, T, G, rfl, ih, gT, hG, hg, q⟩ := h
  have nd0 : (["_law_mark", "_law_part"] : List Str).Nodup := by decide +kernel
  refine ⟨_, (@pss_cons _ _ _ _ _ (@ps_set _ _ 2 _ _ _ _ sc_law_kept.nd rfl (Or.inl rfl) (@pe_lst _ _ _ _ (@pa_nil _)) (by rfl) (by walk_at "f")) (@pss_cons _ _ _ _ _ (@ps_for _ _ _ _ _ _ _ _ PassesOwn.never rfl (@kpi_tup _ K _ _ _ (@pe_ix _ _ _ _ _ _ _ (@kix_seq _ K (by rfl)) (@pv _ 0 _ _ (by rfl) (by walk_at "v") (by decide) (by decide)) (@pe_int _ _ _ _) (fun _ _ => rfl)) (by rfl)) (@kpg_tup _ K _ _ _ _ 3 rfl (@pgs_cons _ _ _ _ _ (@pg_name _ _ 3 _ sc_law_kept.nd rfl (Or.inl rfl) (by walk_at "f")) (@pgs_cons _ _ _ _ _ (@pg_name _ _ 4 _ sc_law_kept.nd rfl (Or.inl rfl) (by walk_at "f")) (@pgs_cons _ _ _ _ _ (@pg_name _ _ 5 _ sc_law_kept.nd rfl (Or.inl rfl) (by walk_at "f")) (@pgs_nil _) (by rfl)) (by rfl)) (by rfl)) (by rfl) (by rfl) (by rfl)) (@pss_cons _ _ _ _ _ (@ps_set _ _ 6 _ _ _ _ sc_law_kept.nd rfl (Or.inl rfl) (@pe_callTy _ _ _ _ _ _ _ _ _ (@kcall_list_of _ K (by rfl)) rfl gb.list bt_list (@pa_cons _ _ _ _ _ (@pv _ 5 _ _ (by rfl) (by walk_at "v") (by decide) (by decide)) (@pa_nil _) (by rfl)) (by decide) (by decide) (by rfl) (by rfl)) (by rfl) (by walk_at "f")) (@pss_cons _ _ _ _ _ (@ps_for _ _ _ _ _ _ _ _ PassesOwn.never rfl (@kpi_list _ K _ _ _ (@pe_def _ _ _ _ _ _ _ _ _ _ _ d_law_rows hr (by omega) rfl (@pa_cons _ _ _ _ _ (@pe_ix _ _ _ _ _ _ _ (@kix_seq _ K (by rfl)) (@pv _ 0 _ _ (by rfl) (by walk_at "v") (by decide) (by decide)) (@pe_int _ _ _ _) (fun _ _ => rfl)) (@pa_cons _ _ _ _ _ (@pv _ 4 _ _ (by rfl) (by walk_at "v") (by decide) (by decide)) (@pa_nil _) (by rfl)) (by rfl)) (by decide) (by rfl) (by rfl)) (by rfl)) (@pg_name _ _ 7 _ sc_law_kept.nd rfl (Or.inl rfl) (by walk_at "f")) (@pss_cons _ _ _ _ _ (@ps_set _ _ 8 _ _ _ _ sc_law_kept.nd rfl (Or.inl rfl) (@pe_int _ _ _ _) (by rfl) (by walk_at "f")) (@pss_cons _ _ _ _ _ (@ps_for _ _ _ _ _ _ _ _ PassesOwn.never rfl (@kpi_tup _ K _ _ _ (@pv _ 7 _ _ (by rfl) (by walk_at "v") (by decide) (by decide)) (by rfl)) (@pg_name _ _ 9 _ sc_law_kept.nd rfl (Or.inl rfl) (by walk_at "f")) (@pss_one _ _ _ (@ps_set _ _ 8 _ _ _ _ sc_law_kept.nd rfl (Or.inl rfl) (@pe_op _ _ _ _ _ _ _ _ (@op_add _) (@pe_op _ _ _ _ _ _ _ _ (@op_mul _) (@pv _ 8 _ _ (by rfl) (by walk_at "v") (by decide) (by decide)) (@pe_ix _ _ _ _ _ _ _ (@kix_seq _ K (by rfl)) (@pv _ 0 _ _ (by rfl) (by walk_at "v") (by decide) (by decide)) (@pe_int _ _ _ _) (fun _ _ => rfl))) (@pv _ 9 _ _ (by rfl) (by walk_at "v") (by decide) (by decide))) (by rfl) (by walk_at "f"))) (by intro _; rfl)) (@pss_one _ _ _ (@ps_if _ _ _ _ _ _ _ _ (@pt_val _ _ _ (@pe_callB _ _ _ _ _ _ _ _ _ (@kcall_all _ K rfl (by rfl)) rfl gb.all bt_all (@pa_cons _ _ _ _ _ (@pe_comp _ ["_law_mark", "_law_part"] [none, some 1] _ _ _ _ _ _ _ _ _ _ (by exact (show CompOk ["_law_table_here", "_law_part", "_law_connectives", "_law_name", "_law_places", "_law_cells_here", "_law_found", "_law_row", "_law_place", "_law_mark"] (defScope s_law_kept) ["_law_mark", "_law_part"] [none, some 1] _ from ⟨rfl, by decide +kernel, by decide +kernel, by decide +kernel, by decide +kernel, rfl, by decide +kernel⟩)) rfl (@kpi_tup _ K _ _ _ (@pv _ 7 _ _ (by rfl) (by walk_at "v") (by decide) (by decide)) (by rfl)) (fun _ _ _ _ => (@pg_name _ _ 0 _ nd0 rfl (Or.inl rfl) (by walk_at "f"))) (fun _ _ _ _ => (@pf_nil _)) (fun _ _ _ _ => (@pe_cmpR _ _ _ _ _ _ _ _ (@kop_in_seq _ K (by rfl)) (@pv _ 0 _ _ (by rfl) (by walk_at "v") (by decide) (by decide)) (@pv _ 1 _ _ (by rfl) (by walk_at "v") (by decide) (by decide)) (by with_unfolding_all rfl))) (by intro _; rfl)) (@pa_nil _) (by rfl)) (by decide) (by decide) (by rfl) (by rfl)) (by intro _; rfl)) (@pss_one _ _ _ (@ps_asg _ _ _ _ _ _ (@pe_ix _ _ _ _ _ _ _ (@kix_seq _ K (by rfl)) (@pv _ 1 _ _ (by rfl) (by walk_at "v") (by decide) (by decide)) (@pe_op _ _ _ _ _ _ _ _ (@op_mod _) (@pe_ix _ _ _ _ _ _ _ (@kix_seq _ K (by rfl)) (@pv _ 5 _ _ (by rfl) (by walk_at "v") (by decide) (by decide)) (@pv _ 8 _ _ (by rfl) (by walk_at "v") (by decide) (by decide)) (fun _ _ => rfl)) (@pe_callB _ _ _ _ _ _ _ _ _ (@kcall_len _ K (by rfl)) rfl gb.len bt_len (@pa_cons _ _ _ _ _ (@pv _ 1 _ _ (by rfl) (by walk_at "v") (by decide) (by decide)) (@pa_nil _) (by rfl)) (by decide) (by decide) (by rfl) (by rfl))) (fun _ _ => rfl)) (@pg_sub _ _ _ _ _ _ _ (@pv _ 6 _ _ (by rfl) (by walk_at "v") (by decide) (by decide)) (@pv _ 8 _ _ (by rfl) (by walk_at "v") (by decide) (by decide)) (@set_list _) (by intro _; rfl)) (by rfl) (by rfl) (by rfl))) (@pss_nil _))))) (by intro _; rfl)) (@pss_one _ _ _ (@ps_expr _ _ _ _ (@kpe_bm _ K _ _ _ _ _ _ _ _ _ _ _ PySem.F.plainAttrs_list PySem.F.slot_list_append PySem.F.type_list_append (@mt_append _) (@pv _ 2 _ _ (by rfl) (by walk_at "v") (by decide) (by decide)) (@pa_cons _ _ _ _ _ (@pe_tup _ _ _ _ _ (@pa_cons _ _ _ _ _ (@pv _ 3 _ _ (by rfl) (by walk_at "v") (by decide) (by decide)) (@pa_cons _ _ _ _ _ (@pv _ 4 _ _ (by rfl) (by walk_at "v") (by decide) (by decide)) (@pa_cons _ _ _ _ _ (@pe_callTy _ _ _ _ _ _ _ _ _ (@kcall_tuple_of _ K (by rfl)) rfl gb.tuple bt_tuple (@pa_cons _ _ _ _ _ (@pv _ 6 _ _ (by rfl) (by walk_at "v") (by decide) (by decide)) (@pa_nil _) (by rfl)) (by decide) (by decide) (by rfl) (by rfl)) (@pa_nil _) (by rfl)) (by rfl)) (by rfl))) (@pa_nil _) (by rfl)) (by rfl) (by rfl) (by rfl) (by rfl) (by rfl) (by rfl)) (by rfl))))) (by intro _; rfl)) (@pss_one _ _ _ (@ps_ret _ _ _ _ (@pe_tup _ _ _ _ _ (@pa_cons _ _ _ _ _ (@pe_ix _ _ _ _ _ _ _ (@kix_seq _ K (by rfl)) (@pv _ 0 _ _ (by rfl) (by walk_at "v") (by decide) (by decide)) (@pe_int _ _ _ _) (fun _ _ => rfl)) (@pa_cons _ _ _ _ _ (@pe_ix _ _ _ _ _ _ _ (@kix_seq _ K (by rfl)) (@pv _ 0 _ _ (by rfl) (by walk_at "v") (by decide) (by decide)) (@pe_int _ _ _ _) (fun _ _ => rfl)) (@pa_cons _ _ _ _ _ (@pe_callTy _ _ _ _ _ _ _ _ _ (@kcall_tuple_of _ K (by rfl)) rfl gb.tuple bt_tuple (@pa_cons _ _ _ _ _ (@pv _ 2 _ _ (by rfl) (by walk_at "v") (by decide) (by decide)) (@pa_nil _) (by rfl)) (by decide) (by decide) (by rfl) (by rfl)) (@pa_nil _) (by rfl)) (by rfl)) (by rfl))))))), ?_⟩
  obtain ⟨a, w, c, vs, rfl, h1, h2, h3, h4⟩ := id ih
  have m9 := gT.m9
  have gl9 : G.length ≤ 9 := Nat.le_trans hG.len m9
  have gcl := gT.cl
  refine ⟨small9 (by show 0 ≤ 1000; decide), fun cn hcn => ?_⟩
  have n0 := same_new hcn (.lst [])
  refine ⟨_, rfl, .inr (.inl ⟨a, _, 2, _, rfl, rfl, SqT.of (n0 _ _ h1), rfl, c, rfl, ⟨_, SqT.of (n0 _ _ h3)⟩, ?_⟩)⟩
  refine for_tup (xs := vs) (fun i σ H' => (∃ x3 x4 x5 x6 x7 x8 x9, σ = [some (.ref a), some (.ref g), some (.ref cn), x3, x4, x5, x6, x7, x8, x9]) ∧ Same H H' ∧ ∃ cs ys, H' cn = some (.lst ys) ∧ Cns H' cs ys ∧ cs.length = i ∧ (∀ c ∈ cs, c.nm.length ≤ 100 ∧ c.pl ≤ 2 ∧ Tn.Cs T.m c.pl c.cs) ∧ (∀ c ∈ cs, keepC T.m G c = true) ∧ (cs.map fun c => (c.nm, c.pl)) = (Sh T).take i) ⟨⟨_, _, _, _, _, _, _, rfl⟩, n0, [], [], upd_same, .nil, rfl, (fun c h => by cases h), (fun c h => by cases h), rfl⟩ (fun i σ H' _ h => SqT.of (h.2.1 _ _ h3)) ?_ ?_
  · rintro i x σ H1 hx ⟨⟨x3, x4, x5, x6, x7, x8, x9, rfl⟩, s1, cs, ys, hy, hC, cl, hg1, hkk, esh⟩
    have hi : i < T.cs.length := by
      rw [h4.len]
      exact (List.getElem?_eq_some_iff.mp hx).1
    have hcc : T.cs[i]? = some T.cs[i] := List.getElem?_eq_getElem hi
    generalize T.cs[i] = cc at hcc
    obtain ⟨nl, p2, cs3⟩ := gT.cn cc (List.mem_of_getElem? hcc)
    obtain ⟨t, u, e1, k1, k2⟩ := h4.get hcc
    rw [hx] at e1
    cases e1
    refine ⟨t, _, rfl, SqT.of (s1 _ _ k1), rfl, _, _, rfl, _, _, rfl, _, _, rfl, rfl, ?_⟩
    refine ⟨_, rfl, u, _, rfl, .inr (SqT.of (s1 _ _ k2)), fun fl hfl => ?_⟩
    have n2 := same_new hfl (.lst (cc.cs.map nV))
    have s2 := s1.trans n2
    refine ⟨_, rfl, .inr (.inl ⟨a, _, 0, _, rfl, rfl, SqT.of (s2 _ _ h1), rfl, _, rfl, T.m, cc.pl, rfl, m9, p2, fun l xs H3 s3 hl hR => ⟨l, rfl, ⟨_, SqL.of hl⟩, ?_⟩⟩)⟩
    have s23 := s2.trans s3
    have hfl3 := s3 _ _ upd_same
    have m1 := gT.m1
    have gfl : g ≠ fl := ne_of_none (s1 _ _ hg) hfl
    have lfl : l ≠ fl := fun z => by
      rw [z, hfl3] at hl
      have e : cc.cs.map nV = xs := HO.lst.inj (Option.some.inj hl)
      have hp : 0 < cc.cs.length := by
        rw [cs3.len]
        exact Nat.pow_pos (by omega)
      have h0 : xs[0]? = some (nV (Tn.at' cc.cs 0)) := by rw [← e, List.getElem?_map, Tn.at_map hp]; rfl
      obtain ⟨r, t', _, e', _⟩ := hR.get h0
      cases e'
    refine for_list (xs := xs) (fun j σ H' => (∃ x7 x8 x9, σ = [some (.ref a), some (.ref g), some (.ref cn), some (.str cc.nm), some (nV cc.pl), some (.ref u), some (.ref fl), x7, x8, x9]) ∧ Off fl H3 H' ∧ ∃ fs : List Nat, H' fl = some (.lst (fs.map nV)) ∧ Tn.Cs T.m cc.pl fs ∧ InG T.m G ((Tn.rowsR T.m cc.pl).take j) fs) ⟨⟨_, _, _, rfl⟩, Off.refl, cc.cs, hfl3, cs3, fun r hr => by cases hr⟩ (fun j σ H' _ h => SqL.of (h.2.1 _ _ lfl hl)) ?_ ?_
    · rintro j x σ H4 hx4 ⟨⟨x7, x8, x9, rfl⟩, o4, fs, hfs, cfs, hin⟩
      have hjl : j < (Tn.rowsR T.m cc.pl).length := by rw [Paired.length hR]; exact (List.getElem?_eq_some_iff.mp hx4).1
      have hrj : (Tn.rowsR T.m cc.pl)[j]? = some (Tn.rowsR T.m cc.pl)[j] := List.getElem?_eq_getElem hjl
      generalize (Tn.rowsR T.m cc.pl)[j] = r at hrj
      obtain ⟨tr, rfl, htr⟩ := Paired.at hR j _ _ hrj hx4
      have hrm := List.mem_of_getElem? hrj
      have hg4 := o4 g _ gfl (s23 _ _ hg)
      have hrw := Tn.rows_rw r hrm
      have tk4 : Tk H3 H4 := fun b xs' e => o4 b _ (ne_of e hfl3 (by intro z; cases z)) e
      have tkH := (Tk.of s23).trans tk4
      have htr4 := tk4 _ _ htr
      refine ⟨_, rfl, tr, rfl, ⟨_, SqT.of htr4⟩, ?_⟩
      refine for_tup (xs := r.map nV) (fun i σ H' => H' = H4 ∧ ∃ x, σ = [some (.ref a), some (.ref g), some (.ref cn), some (.str cc.nm), some (nV cc.pl), some (.ref u), some (.ref fl), some (.ref tr), some (nV (Tn.place T.m (r.take i))), x]) ⟨rfl, _, rfl⟩ (fun i σ H' _ h => by rw [h.1]; exact SqT.of htr4) ?_ ?_
      · rintro i x σ H' hx ⟨rfl, x', rfl⟩
        rw [List.getElem?_map] at hx
        obtain ⟨mk, hmk, rfl⟩ := Option.map_eq_some_iff.mp hx
        refine ⟨_, rfl, _, rfl, .inr (.inl ⟨a, _, 0, _, rfl, rfl, SqT.of (tkH _ _ h1), rfl, _, _, rfl, rfl, .inr ⟨by omega, by omega⟩, _, rfl, _, _, rfl, rfl, rfl, some (nV mk), ?_⟩)⟩
        rw [take_snoc hmk, Tn.place_snoc]
        rw [show nV (Tn.place T.m (r.take i) * T.m + mk) = V.int ((Tn.place T.m (r.take i) : Int) * (T.m : Int) + (mk : Int)) by show V.int _ = _; rw [Int.natCast_add, Int.natCast_mul]]
        rfl
      · rintro σ H' ⟨rfl, x', rfl⟩
        rw [List.length_map, List.take_length]
        have pll := Tn.place_lt _ r hrw
        generalize hPe : Tn.place T.m r = P at pll ⊢
        have rl : r.length ≤ 2 := by rw [hrw.1]; exact p2
        refine ⟨_, rfl, tr, rfl, ⟨_, SqT.of htr4⟩, fun D hD => ?_⟩
        refine map_tup r nV (fun x => .bl (decide (x ∈ G))) htr4 (by omega) hD (fun z hz H' Q' s5 q' => ?_) (fun H5 s5 hD5 => ?_)
        · refine ⟨_, rfl, _, rfl, g, _, rfl, .inl (SqL.of (s5 _ _ hg4)), rfl, flat_nats _, ?_⟩
          rw [in_nats]
          exact q' H' Same.rfl'
        refine ⟨D, r.map fun x => decide (x ∈ G), rfl, SqL.of (by rw [hD5, List.map_map]; rfl), _, rfl, ?_⟩
        have o5 : Off fl H3 H5 := o4.trans (Off.of s5)
        refine ite2 (fun c1 => ?_) (fun c1 => ?_)
        · have gp : 0 < G.length := hG.ne
          have ei : atI (G.map nV) (((Tn.at' cc.cs P : Nat) : Int) % ((G.map nV).length : Int)) = some (nV (Tn.at' G (Tn.at' cc.cs P % G.length))) := by
            rw [List.length_map, ← Int.natCast_emod]
            exact at_nV (Nat.mod_lt _ gp)
          refine ⟨_, rfl, _, rfl, _, rfl, .inr (.inl ⟨u, _, _, _, rfl, rfl, SqT.of (s5 _ _ (tkH _ _ k2)), at_nV (by rw [cs3.len]; exact pll), _, rfl, _, _, rfl, .inl ⟨_, SqL.of (s5 _ _ hg4), rfl⟩, _, _, rfl, rfl, (by rw [List.length_map]; omega), ?_⟩)⟩
          refine .inl ⟨g, _, _, _, rfl, rfl, SqL.of (s5 _ _ hg4), ei, ?_⟩
          refine ⟨_, rfl, _, rfl, fl, _, _, P, rfl, rfl, s5 _ _ hfs, ?_, ?_⟩
          · rw [List.length_map, cfs.len]
            exact ixN_nat pll
          refine ⟨⟨_, _, _, rfl⟩, fun b o hb e => by rw [upd_ne hb]; exact o5 b o hb e, fs.set P (Tn.at' G (Tn.at' cc.cs P % G.length)), ?_, ?_, ?_⟩
          · rw [upd_same, List.map_set]
          · refine ⟨by rw [List.length_set]; exact cfs.len, fun x hx => ?_⟩
            rcases List.mem_or_eq_of_mem_set hx with h | h
            · exact cfs.lt x h
            · rw [h]
              have hl := Nat.mod_lt (Tn.at' cc.cs P) gp
              exact hG.lt _ (List.mem_of_getElem? (Tn.at_map hl))
          · have hl := Nat.mod_lt (Tn.at' cc.cs P) gp
            have hv : Tn.at' G (Tn.at' cc.cs P % G.length) ∈ G := List.mem_of_getElem? (Tn.at_map hl)
            have hPl : P < fs.length := by rw [cfs.len]; exact pll
            rw [take_snoc hrj]
            intro r' hr' hx'
            rcases List.mem_append.mp hr' with h | h
            · exact ing_set hin hPl hv r' h hx'
            · rw [List.mem_singleton.mp h, hPe, at_set hPl, if_pos rfl]
              exact hv
        · refine ⟨⟨_, _, _, rfl⟩, o5, fs, s5 _ _ hfs, cfs, ?_⟩
          rw [take_snoc hrj]
          intro r' hr' hx'
          rcases List.mem_append.mp hr' with h | h
          · exact hin r' h hx'
          · exfalso
            rw [List.mem_singleton.mp h] at hx'
            refine c1 ?_
            rw [List.all_map, List.all_eq_true]
            intro x hx
            exact decide_eq_true (hx' x hx)
    · rintro σ H4 ⟨⟨x7, x8, x9, rfl⟩, o4, fs, hfs, cfs, hin⟩
      rw [← Paired.length hR, List.take_length] at hin
      have hkc : keepC T.m G ⟨cc.nm, cc.pl, fs⟩ = true := ing_keep p2 hG.lt hin
      have S4 : Same H1 H4 := fun b o e => o4 b o (ne_of_none e hfl) (s3 _ _ (n2 _ _ e))
      refine ⟨_, rfl, .inl ⟨rfl, _, SqL.of (S4 _ _ hy)⟩, _, rfl, _, rfl, _, rfl, fl, _, rfl, .inl ⟨SqL.of hfs, fun t2 ht2 => ?_⟩⟩
      have n5 := same_new ht2 (.tup (fs.map nV))
      refine ⟨small9 (by show 3 ≤ 1000; decide), fun t3 ht3 => ?_⟩
      have n6 := same_new ht3 (.tup [.str cc.nm, nV cc.pl, .ref t2])
      have S6 := S4.trans (n5.trans n6)
      have hy6 := S6 _ _ hy
      have hyl := hC.len
      refine ⟨cn, _, _, rfl, rfl, hy6, small1000 (by omega), ⟨⟨_, _, _, _, _, _, _, rfl⟩, (s1.trans S6).put hcn, cs ++ [⟨cc.nm, cc.pl, fs⟩], _, upd_same, ?_, by rw [List.length_append, cl]; rfl, fun c hc => ?_, fun c hc => ?_, by rw [List.map_append, esh, take_snoc (x := (cc.nm, cc.pl)) (by unfold Sh; rw [List.getElem?_map, hcc]; rfl)]; rfl⟩⟩
      · exact (Cns.snoc (c := ⟨cc.nm, cc.pl, fs⟩) (hC.same S6) upd_same (n6 _ _ upd_same)).tk (Tk.put hy6)
      · rcases List.mem_append.mp hc with h | h
        · exact hg1 c h
        · rw [List.mem_singleton.mp h]
          exact ⟨nl, p2, cfs⟩
      · rcases List.mem_append.mp hc with h | h
        · exact hkk c h
        · rw [List.mem_singleton.mp h]
          exact hkc
  · rintro σ H1 ⟨⟨x3, x4, x5, x6, x7, x8, x9, rfl⟩, s1, cs, ys, hy, hC, cl, hg1, hkk, esh⟩
    refine ⟨_, rfl, .inr (.inl ⟨a, _, 0, _, rfl, rfl, SqT.of (s1 _ _ h1), rfl, _, rfl, .inr (.inl ⟨a, _, 1, _, rfl, rfl, SqT.of (s1 _ _ h1), rfl, _, rfl, cn, _, rfl, .inl ⟨SqL.of hy, fun tc htc => ?_⟩⟩)⟩)⟩
    have n6 := same_new htc (.tup ys)
    refine ⟨small9 (by show 3 ≤ 1000; decide), fun t ht => ?_⟩
    have n7 := same_new ht (.tup [nV T.m, .ref w, .ref tc])
    have n67 := n6.trans n7
    have S := s1.trans n67
    have cl2 : cs.length ≤ 16 := by rw [cl, ← h4.len]; exact gcl
    have es2 : Sh T = Sh ⟨T.m, T.ws, cs⟩ := by
      show Sh T = cs.map _
      rw [esh]
      exact (List.take_of_length_le (by unfold Sh; rw [List.length_map, h4.len]; exact Nat.le_refl _)).symm
    exact q _ ⟨T.m, T.ws, cs⟩ _ S ⟨gT.m1, gT.m9, gT.ris, gT.wlt, cl2, hg1⟩ rfl es2 (List.all_eq_true.mpr hkk) ⟨t, w, tc, ys, rfl, upd_same, S _ _ h2, n7 _ _ upd_same, hC.same n67⟩
abbrev s_law_column : Stmt := top 31
theorem sc_law_column : FnScope ["_law_column_here", "_law_order_here"] ["_law_column_here", "_law_order_here"] (defScope s_law_column) := ⟨rfl, rfl, rfl, by decide +kernel, rfl, by decide +kernel, by decide +kernel⟩
theorem ok_law_column {P : Program} {w : World} {K : PySem.W.Frag} {mg : Str → Option Value} {base : Heap} {f : Addr} {fd : FuncData} (F : Fun K "_law_column" "_law_column" s_law_column f fd) (gb : Gb mg) : FnOk P w K mg base CX0 1 f fd ["_law_column_here", "_law_order_here"] spColumn := by
  refine F.ok sc_law_column (fun vs H Q E h => ?_) (fun cdv A outer s H vs Q E hr h => ?_)
  · obtain ⟨c, l, col, o, rfl, _⟩ := h
    rfl
  obtain ⟨c, l, col, o, rfl, hc, hl, c9, ho, q⟩ := h
  have nd0 : (["_law_mark", "_law_order_here"] : List Str).Nodup := by decide +kernel
  refine ⟨_, (@pss_one _ _ _ (@ps_ret _ _ _ _ (@pe_callTy _ _ _ _ _ _ _ _ _ (@kcall_tuple_of _ K (by rfl)) rfl gb.tuple bt_tuple (@pa_cons _ _ _ _ _ (@pe_comp _ ["_law_mark", "_law_order_here"] [none, some 1] _ _ _ _ _ _ _ _ _ _ (by exact (show CompOk ["_law_column_here", "_law_order_here"] (defScope s_law_column) ["_law_mark", "_law_order_here"] [none, some 1] _ from ⟨rfl, by decide +kernel, by decide +kernel, by decide +kernel, by decide +kernel, rfl, by decide +kernel⟩)) rfl (@kpi_tup _ K _ _ _ (@pv _ 0 _ _ (by rfl) (by walk_at "v") (by decide) (by decide)) (by rfl)) (fun _ _ _ _ => (@pg_name _ _ 0 _ nd0 rfl (Or.inl rfl) (by walk_at "f"))) (fun _ _ _ _ => (@pf_nil _)) (fun _ _ _ _ => (@pe_ix _ _ _ _ _ _ _ (@kix_seq _ K (by rfl)) (@pv _ 1 _ _ (by rfl) (by walk_at "v") (by decide) (by decide)) (@pv _ 0 _ _ (by rfl) (by walk_at "v") (by decide) (by decide)) (fun _ _ => rfl))) (by intro _; rfl)) (@pa_nil _) (by rfl)) (by decide) (by decide) (by rfl) (by rfl)))), ?_⟩
  refine ⟨_, rfl, c, rfl, ⟨_, SqT.of hc⟩, fun D hD => ?_⟩
  refine comp_tup (xs := col.map nV) (fun i ys H' => Same H H' ∧ ys = ((col.take i).map fun x => Tn.at' o x).map nV) ⟨same_new hD _, rfl⟩ (fun i ys H' h _ => SqT.of (h.1 _ _ hc)) ?_ ?_
  · rintro i ys H3 x hx ⟨s3, rfl⟩ hD3
    have hi := (List.getElem?_eq_some_iff.mp hx).1
    rw [List.length_map] at hi
    rw [List.getElem?_map] at hx
    obtain ⟨y, hy, rfl⟩ := Option.map_eq_some_iff.mp hx
    refine yes ⟨_, rfl, _, rfl, .inl ⟨l, _, _, _, rfl, rfl, SqL.of (s3 _ _ hl), at_nV (ho y (List.mem_of_getElem? hy)), ?_⟩⟩
    refine cyes (by rw [List.length_map]; exact hi) rset1 hD3 (by rw [List.length_map, List.length_map, List.length_take]; exact small1000 (by omega)) ⟨s3.put hD, ?_⟩
    rw [take_snoc hy, List.map_append, List.map_append]
    rfl
  · rintro ys H3 ⟨s3, rfl⟩ hD3
    rw [List.length_map, List.take_length] at hD3
    refine ⟨D, _, rfl, .inl ⟨SqL.of hD3, fun t ht => ?_⟩⟩
    exact q t _ (s3.trans (same_new ht _)) upd_same
abbrev s_law_order : Stmt := top 29
theorem sc_law_order : FnScope ["_law_well_here", "_law_many", "_law_left"] ["_law_well_here", "_law_many"] (defScope s_law_order) := ⟨rfl, rfl, rfl, by decide +kernel, rfl, by decide +kernel, by decide +kernel⟩
theorem ok_law_order {P : Program} {w : World} {K : PySem.W.Frag} {mg : Str → Option Value} {base : Heap} {f : Addr} {fd : FuncData} (F : Fun K "_law_order" "_law_order" s_law_order f fd) (gb : Gb mg) (d_law_draw : Def P w K mg base 1 "_law_draw" ["_law_well_here", "_law_many"] spDrawW) : FnOk P w K mg base CX0 2 f fd ["_law_well_here", "_law_many"] spOrderL := by
  refine F.ok sc_law_order (fun vs H Q E h => ?_) (fun cdv A outer s H vs Q E hr h => ?_)
  · obtain ⟨p, m, rfl, _⟩ := h
    rfl
  obtain ⟨p, m, rfl, w, m1, m9, q⟩ := h
  have nd0 : (["_law_k", "_law_left", "_law_well_here"] : List Str).Nodup := by decide +kernel
  refine ⟨_, (@pss_cons _ _ _ _ _ (@ps_set _ _ 2 _ _ _ _ sc_law_order.nd rfl (Or.inr rfl) (@pe_callTy _ _ _ _ _ _ _ _ _ (@call_listR _ rfl) rfl gb.list bt_list (@pa_cons _ _ _ _ _ (@pe_rng _ _ _ _ _ rfl gb.range (@pa_cons _ _ _ _ _ (@pv _ 1 _ _ (by rfl) (by walk_at "v") (by decide) (by decide)) (@pa_nil _) (by rfl)) (by rfl)) (@pa_nil _) (by rfl)) (by decide) (by decide) (by rfl) (by rfl)) (by rfl) (by walk_at "f")) (@pss_one _ _ _ (@ps_ret _ _ _ _ (@pe_comp _ ["_law_k", "_law_left", "_law_well_here"] [none, some 2, some 0] _ _ _ _ _ _ _ _ _ _ (by exact (show CompOk ["_law_well_here", "_law_many", "_law_left"] (defScope s_law_order) ["_law_k", "_law_left", "_law_well_here"] [none, some 2, some 0] _ from ⟨rfl, by decide +kernel, by decide +kernel, by decide +kernel, by decide +kernel, rfl, by decide +kernel⟩)) rfl (@pi_range1 _ _ _ _ _ _ rfl gb.range (@pa_cons _ _ _ _ _ (@pv _ 1 _ _ (by rfl) (by walk_at "v") (by decide) (by decide)) (@pa_nil _) (by rfl)) (by rfl)) (fun _ _ _ _ => (@pg_name _ _ 0 _ nd0 rfl (Or.inl rfl) (by walk_at "f"))) (fun _ _ _ _ => (@pf_nil _)) (fun _ _ _ _ => (@kpe_bm _ K _ _ _ _ _ _ _ _ _ _ _ PySem.F.plainAttrs_list PySem.F.slot_list_pop PySem.F.type_list_pop (@mt_popAt _) (@pv _ 1 _ _ (by rfl) (by walk_at "v") (by decide) (by decide)) (@pa_cons _ _ _ _ _ (@pe_def _ _ _ _ _ _ _ _ _ _ _ d_law_draw hr (by omega) rfl (@pa_cons _ _ _ _ _ (@pv _ 2 _ _ (by rfl) (by walk_at "v") (by decide) (by decide)) (@pa_cons _ _ _ _ _ (@pe_callB _ _ _ _ _ _ _ _ _ (@kcall_len _ K (by rfl)) rfl gb.len bt_len (@pa_cons _ _ _ _ _ (@pv _ 1 _ _ (by rfl) (by walk_at "v") (by decide) (by decide)) (@pa_nil _) (by rfl)) (by decide) (by decide) (by rfl) (by rfl)) (@pa_nil _) (by rfl)) (by rfl)) (by decide) (by rfl) (by rfl)) (@pa_nil _) (by rfl)) (by rfl) (by rfl) (by rfl) (by rfl) (by rfl) (by rfl))) (by intro _; rfl))))), ?_⟩
  refine ⟨_, rfl, _, rfl, fun rg hrg => ?_⟩
  have n1 := same_new hrg (.rng 0 (m : Int))
  refine ⟨rg, _, rfl, upd_same, by omega, by omega, fun l hl => ?_⟩
  rw [Int.toNat_natCast]
  have n2 := same_new hl (.lst ((List.range m).map fun (i : Nat) => V.int (i : Int)))
  refine ⟨_, rfl, (m : Int), rfl, by omega, by omega, fun D hD => ?_⟩
  rw [Int.toNat_natCast]
  have s2 := n1.trans n2
  have w2 := w.same s2
  have pD := w2.ne hD
  have pl : p ≠ l := (w.same n1).ne hl
  have lD : l ≠ D := fun z => by rw [← z, upd_same] at hD; cases hD
  have nl : H l = none := n1.free hl
  have nD : H D = none := s2.free hD
  refine comp_range (fun i ys H' => ∃ o rest : List Nat, ys = o.map nV ∧ o.length = i ∧ (o ++ rest).Perm (List.range m) ∧ H' l = some (.lst (rest.map nV)) ∧ Off p H H' ∧ Wel H' p) ⟨[], List.range m, rfl, rfl, List.Perm.refl _, by rw [upd_ne lD]; exact upd_same, (Off.of s2).fresh nD, w2.off pD⟩ ?_ ?_
  · rintro i ys H3 hi ⟨o, rest, rfl, ol, pm, hl3, o3, w3⟩ hD3
    have hlen : o.length + rest.length = m := by
      have := pm.length_eq
      rw [List.length_append, List.length_range] at this
      exact this
    have hml : ((rest.map nV).length : Int) = (rest.length : Int) := by rw [List.length_map]
    refine yes ⟨_, rfl, .inl ⟨rfl, _, SqL.of hl3⟩, _, rfl, _, rfl, _, _, rfl, .inl ⟨_, SqL.of hl3, rfl⟩, p, rest.length, by (show [V.ref p, V.int ((rest.map nV).length : Int)] = _; rw [hml]), w3, by omega, by omega, fun v H4 v1 o4 w4 => ?_⟩
    have hl4 := o4 l _ (Ne.symm pl) hl3
    have hD4 := o4 D _ (Ne.symm pD) hD3
    have hv : rest[v]? = some rest[v] := List.getElem?_eq_getElem v1
    generalize rest[v] = x at hv
    refine ⟨l, _, _, v, nV x, rfl, rfl, hl4, by omega, by omega, by rw [List.length_map]; exact seq_nat v1, by rw [List.getElem?_map, hv]; rfl, ?_⟩
    rw [erase_map]
    have hD5 : (upd H4 l (.lst ((rest.eraseIdx v).map nV))) D = some (.lst (o.map nV)) := by rw [upd_ne (Ne.symm lD)]; exact hD4
    refine cyes hi rset1 hD5 (by rw [List.length_map]; exact small1000 (by omega)) ⟨o ++ [x], rest.eraseIdx v, by rw [List.map_append]; rfl, by rw [List.length_append, ol]; rfl, ?_, by rw [upd_ne lD]; exact upd_same, ((o3.trans o4).fresh nl).fresh nD, (w4.off pl).off pD⟩
    rw [List.append_assoc]
    exact (List.Perm.append_left o (erase_perm rest v x hv).symm).trans pm
  · rintro ys H3 ⟨o, rest, rfl, ol, pm, hl3, o3, w3⟩ hD3
    have hlen : o.length + rest.length = m := by
      have := pm.length_eq
      rw [List.length_append, List.length_range] at this
      exact this
    have hr0 : rest = [] := List.length_eq_zero_iff.mp (by omega)
    rw [hr0, List.append_nil] at pm
    exact q D o _ o3 w3 ⟨by rw [pm.length_eq, List.length_range], fun x hx => List.mem_range.mp (pm.mem_iff.mp hx), pm.nodup_iff.mpr List.nodup_range⟩ (Ne.symm pD) hD3
abbrev s_law_turned : Stmt := top 30
theorem sc_law_turned : FnScope ["_law_table_here", "_law_order_here", "_law_connectives", "_law_name", "_law_places", "_law_cells_here", "_law_found", "_law_row", "_law_place", "_law_there", "_law_mark"] ["_law_table_here", "_law_order_here"] (defScope s_law_turned) := ⟨rfl, rfl, rfl, by decide +kernel, rfl, by decide +kernel, by decide +kernel⟩
theorem ok_law_turned {P : Program} {w : World} {K : PySem.W.Frag} {mg : Str → Option Value} {base : Heap} {f : Addr} {fd : FuncData} (F : Fun K "_law_turned" "_law_turned" s_law_turned f fd) (gb : Gb mg) (d_law_rows : Def P w K mg base 1 "_law_rows" ["_law_size", "_law_places"] spRows) : FnOk P w K mg base CX0 2 f fd ["_law_table_here", "_law_order_here"] spTurnL := by
  refine F.ok sc_law_turned (fun vs H Q E h => ?_) (fun cdv A outer s H vs Q E hr h => ?_)
  · obtain ⟨v, g, T, o, rfl, _⟩ := h
    rfl
  obtain ⟨v, g, T, o, rfl, ih, gT, ho, hg, q⟩ := h
  have nd0 : (["_law_mark", "_law_order_here"] : List Str).Nodup := by decide +kernel
  refine ⟨_, (@pss_cons _ _ _ _ _ (@ps_set _ _ 2 _ _ _ _ sc_law_turned.nd rfl (Or.inl rfl) (@pe_lst _ _ _ _ (@pa_nil _)) (by rfl) (by walk_at "f")) (@pss_cons _ _ _ _ _ (@ps_for _ _ _ _ _ _ _ _ PassesOwn.never rfl (@kpi_tup _ K _ _ _ (@pe_ix _ _ _ _ _ _ _ (@kix_seq _ K (by rfl)) (@pv _ 0 _ _ (by rfl) (by walk_at "v") (by decide) (by decide)) (@pe_int _ _ _ _) (fun _ _ => rfl)) (by rfl)) (@kpg_tup _ K _ _ _ _ 3 rfl (@pgs_cons _ _ _ _ _ (@pg_name _ _ 3 _ sc_law_turned.nd rfl (Or.inl rfl) (by walk_at "f")) (@pgs_cons _ _ _ _ _ (@pg_name _ _ 4 _ sc_law_turned.nd rfl (Or.inl rfl) (by walk_at "f")) (@pgs_cons _ _ _ _ _ (@pg_name _ _ 5 _ sc_law_turned.nd rfl (Or.inl rfl) (by walk_at "f")) (@pgs_nil _) (by rfl)) (by rfl)) (by rfl)) (by rfl) (by rfl) (by rfl)) (@pss_cons _ _ _ _ _ (@ps_set _ _ 6 _ _ _ _ sc_law_turned.nd rfl (Or.inl rfl) (@pe_callTy _ _ _ _ _ _ _ _ _ (@kcall_list_of _ K (by rfl)) rfl gb.list bt_list (@pa_cons _ _ _ _ _ (@pv _ 5 _ _ (by rfl) (by walk_at "v") (by decide) (by decide)) (@pa_nil _) (by rfl)) (by decide) (by decide) (by rfl) (by rfl)) (by rfl) (by walk_at "f")) (@pss_cons _ _ _ _ _ (@ps_for _ _ _ _ _ _ _ _ PassesOwn.never rfl (@kpi_list _ K _ _ _ (@pe_def _ _ _ _ _ _ _ _ _ _ _ d_law_rows hr (by omega) rfl (@pa_cons _ _ _ _ _ (@pe_ix _ _ _ _ _ _ _ (@kix_seq _ K (by rfl)) (@pv _ 0 _ _ (by rfl) (by walk_at "v") (by decide) (by decide)) (@pe_int _ _ _ _) (fun _ _ => rfl)) (@pa_cons _ _ _ _ _ (@pv _ 4 _ _ (by rfl) (by walk_at "v") (by decide) (by decide)) (@pa_nil _) (by rfl)) (by rfl)) (by decide) (by rfl) (by rfl)) (by rfl)) (@pg_name _ _ 7 _ sc_law_turned.nd rfl (Or.inl rfl) (by walk_at "f")) (@pss_cons _ _ _ _ _ (@ps_set _ _ 8 _ _ _ _ sc_law_turned.nd rfl (Or.inl rfl) (@pe_int _ _ _ _) (by rfl) (by walk_at "f")) (@pss_cons _ _ _ _ _ (@ps_set _ _ 9 _ _ _ _ sc_law_turned.nd rfl (Or.inl rfl) (@pe_int _ _ _ _) (by rfl) (by walk_at "f")) (@pss_cons _ _ _ _ _ (@ps_for _ _ _ _ _ _ _ _ PassesOwn.never rfl (@kpi_tup _ K _ _ _ (@pv _ 7 _ _ (by rfl) (by walk_at "v") (by decide) (by decide)) (by rfl)) (@pg_name _ _ 10 _ sc_law_turned.nd rfl (Or.inl rfl) (by walk_at "f")) (@pss_cons _ _ _ _ _ (@ps_set _ _ 8 _ _ _ _ sc_law_turned.nd rfl (Or.inl rfl) (@pe_op _ _ _ _ _ _ _ _ (@op_add _) (@pe_op _ _ _ _ _ _ _ _ (@op_mul _) (@pv _ 8 _ _ (by rfl) (by walk_at "v") (by decide) (by decide)) (@pe_ix _ _ _ _ _ _ _ (@kix_seq _ K (by rfl)) (@pv _ 0 _ _ (by rfl) (by walk_at "v") (by decide) (by decide)) (@pe_int _ _ _ _) (fun _ _ => rfl))) (@pv _ 10 _ _ (by rfl) (by walk_at "v") (by decide) (by decide))) (by rfl) (by walk_at "f")) (@pss_one _ _ _ (@ps_set _ _ 9 _ _ _ _ sc_law_turned.nd rfl (Or.inl rfl) (@pe_op _ _ _ _ _ _ _ _ (@op_add _) (@pe_op _ _ _ _ _ _ _ _ (@op_mul _) (@pv _ 9 _ _ (by rfl) (by walk_at "v") (by decide) (by decide)) (@pe_ix _ _ _ _ _ _ _ (@kix_seq _ K (by rfl)) (@pv _ 0 _ _ (by rfl) (by walk_at "v") (by decide) (by decide)) (@pe_int _ _ _ _) (fun _ _ => rfl))) (@pe_ix _ _ _ _ _ _ _ (@kix_seq _ K (by rfl)) (@pv _ 1 _ _ (by rfl) (by walk_at "v") (by decide) (by decide)) (@pv _ 10 _ _ (by rfl) (by walk_at "v") (by decide) (by decide)) (fun _ _ => rfl))) (by rfl) (by walk_at "f")))) (by intro _; rfl)) (@pss_one _ _ _ (@ps_asg _ _ _ _ _ _ (@pe_ix _ _ _ _ _ _ _ (@kix_seq _ K (by rfl)) (@pv _ 1 _ _ (by rfl) (by walk_at "v") (by decide) (by decide)) (@pe_ix _ _ _ _ _ _ _ (@kix_seq _ K (by rfl)) (@pv _ 5 _ _ (by rfl) (by walk_at "v") (by decide) (by decide)) (@pv _ 8 _ _ (by rfl) (by walk_at "v") (by decide) (by decide)) (fun _ _ => rfl)) (fun _ _ => rfl)) (@pg_sub _ _ _ _ _ _ _ (@pv _ 6 _ _ (by rfl) (by walk_at "v") (by decide) (by decide)) (@pv _ 9 _ _ (by rfl) (by walk_at "v") (by decide) (by decide)) (@set_list _) (by intro _; rfl)) (by rfl) (by rfl) (by rfl)))))) (by intro _; rfl)) (@pss_one _ _ _ (@ps_expr _ _ _ _ (@kpe_bm _ K _ _ _ _ _ _ _ _ _ _ _ PySem.F.plainAttrs_list PySem.F.slot_list_append PySem.F.type_list_append (@mt_append _) (@pv _ 2 _ _ (by rfl) (by walk_at "v") (by decide) (by decide)) (@pa_cons _ _ _ _ _ (@pe_tup _ _ _ _ _ (@pa_cons _ _ _ _ _ (@pv _ 3 _ _ (by rfl) (by walk_at "v") (by decide) (by decide)) (@pa_cons _ _ _ _ _ (@pv _ 4 _ _ (by rfl) (by walk_at "v") (by decide) (by decide)) (@pa_cons _ _ _ _ _ (@pe_callTy _ _ _ _ _ _ _ _ _ (@kcall_tuple_of _ K (by rfl)) rfl gb.tuple bt_tuple (@pa_cons _ _ _ _ _ (@pv _ 6 _ _ (by rfl) (by walk_at "v") (by decide) (by decide)) (@pa_nil _) (by rfl)) (by decide) (by decide) (by rfl) (by rfl)) (@pa_nil _) (by rfl)) (by rfl)) (by rfl))) (@pa_nil _) (by rfl)) (by rfl) (by rfl) (by rfl) (by rfl) (by rfl) (by rfl)) (by rfl))))) (by intro _; rfl)) (@pss_one _ _ _ (@ps_ret _ _ _ _ (@pe_tup _ _ _ _ _ (@pa_cons _ _ _ _ _ (@pe_ix _ _ _ _ _ _ _ (@kix_seq _ K (by rfl)) (@pv _ 0 _ _ (by rfl) (by walk_at "v") (by decide) (by decide)) (@pe_int _ _ _ _) (fun _ _ => rfl)) (@pa_cons _ _ _ _ _ (@pe_callTy _ _ _ _ _ _ _ _ _ (@kcall_tuple_of _ K (by rfl)) rfl gb.tuple bt_tuple (@pa_cons _ _ _ _ _ (@pe_callB _ _ _ _ _ _ _ _ _ (@kcall_sortedI _ K (by rfl)) rfl gb.sorted bt_sorted (@pa_cons _ _ _ _ _ (@pe_comp _ ["_law_mark", "_law_order_here"] [none, some 1] _ _ _ _ _ _ _ _ _ _ (by exact (show CompOk ["_law_table_here", "_law_order_here", "_law_connectives", "_law_name", "_law_places", "_law_cells_here", "_law_found", "_law_row", "_law_place", "_law_there", "_law_mark"] (defScope s_law_turned) ["_law_mark", "_law_order_here"] [none, some 1] _ from ⟨rfl, by decide +kernel, by decide +kernel, by decide +kernel, by decide +kernel, rfl, by decide +kernel⟩)) rfl (@kpi_tup _ K _ _ _ (@pe_ix _ _ _ _ _ _ _ (@kix_seq _ K (by rfl)) (@pv _ 0 _ _ (by rfl) (by walk_at "v") (by decide) (by decide)) (@pe_int _ _ _ _) (fun _ _ => rfl)) (by rfl)) (fun _ _ _ _ => (@pg_name _ _ 0 _ nd0 rfl (Or.inl rfl) (by walk_at "f"))) (fun _ _ _ _ => (@pf_nil _)) (fun _ _ _ _ => (@pe_ix _ _ _ _ _ _ _ (@kix_seq _ K (by rfl)) (@pv _ 1 _ _ (by rfl) (by walk_at "v") (by decide) (by decide)) (@pv _ 0 _ _ (by rfl) (by walk_at "v") (by decide) (by decide)) (fun _ _ => rfl))) (by intro _; rfl)) (@pa_nil _) (by rfl)) (by decide) (by decide) (by rfl) (by rfl)) (@pa_nil _) (by rfl)) (by decide) (by decide) (by rfl) (by rfl)) (@pa_cons _ _ _ _ _ (@pe_callTy _ _ _ _ _ _ _ _ _ (@kcall_tuple_of _ K (by rfl)) rfl gb.tuple bt_tuple (@pa_cons _ _ _ _ _ (@pv _ 2 _ _ (by rfl) (by walk_at "v") (by decide) (by decide)) (@pa_nil _) (by rfl)) (by decide) (by decide) (by rfl) (by rfl)) (@pa_nil _) (by rfl)) (by rfl)) (by rfl))))))), ?_⟩
  obtain ⟨a, w, c, vs, rfl, h1, h2, h3, h4⟩ := id ih
  have m9 := gT.m9
  have gl9 : o.length ≤ 9 := by rw [ho.len]; exact m9
  have gcl := gT.cl
  refine ⟨small9 (by show 0 ≤ 1000; decide), fun cn hcn => ?_⟩
  have n0 := same_new hcn (.lst [])
  refine ⟨_, rfl, .inr (.inl ⟨a, _, 2, _, rfl, rfl, SqT.of (n0 _ _ h1), rfl, c, rfl, ⟨_, SqT.of (n0 _ _ h3)⟩, ?_⟩)⟩
  refine for_tup (xs := vs) (fun i σ H' => (∃ x3 x4 x5 x6 x7 x8 x9 x10, σ = [some (.ref a), some (.ref g), some (.ref cn), x3, x4, x5, x6, x7, x8, x9, x10]) ∧ Same H H' ∧ ∃ ys, H' cn = some (.lst ys) ∧ Cns H' ((T.cs.take i).map fun c => ⟨c.nm, c.pl, Tn.tc T.m o c.pl c.cs⟩) ys) ⟨⟨_, _, _, _, _, _, _, _, rfl⟩, n0, [], upd_same, .nil⟩ (fun i σ H' _ h => SqT.of (h.2.1 _ _ h3)) ?_ ?_
  · rintro i x σ H1 hx ⟨⟨x3, x4, x5, x6, x7, x8, x9, x10, rfl⟩, s1, ys, hy, hC⟩
    have hi : i < T.cs.length := by
      rw [h4.len]
      exact (List.getElem?_eq_some_iff.mp hx).1
    have hcc : T.cs[i]? = some T.cs[i] := List.getElem?_eq_getElem hi
    generalize T.cs[i] = cc at hcc
    obtain ⟨nl, p2, cs3⟩ := gT.cn cc (List.mem_of_getElem? hcc)
    obtain ⟨t, u, e1, k1, k2⟩ := h4.get hcc
    rw [hx] at e1
    cases e1
    refine ⟨t, _, rfl, SqT.of (s1 _ _ k1), rfl, _, _, rfl, _, _, rfl, _, _, rfl, rfl, ?_⟩
    refine ⟨_, rfl, u, _, rfl, .inr (SqT.of (s1 _ _ k2)), fun fl hfl => ?_⟩
    have n2 := same_new hfl (.lst (cc.cs.map nV))
    have s2 := s1.trans n2
    refine ⟨_, rfl, .inr (.inl ⟨a, _, 0, _, rfl, rfl, SqT.of (s2 _ _ h1), rfl, _, rfl, T.m, cc.pl, rfl, m9, p2, fun l xs H3 s3 hl hR => ⟨l, rfl, ⟨_, SqL.of hl⟩, ?_⟩⟩)⟩
    have s23 := s2.trans s3
    have hfl3 := s3 _ _ upd_same
    have m1 := gT.m1
    have gfl : g ≠ fl := ne_of_none (s1 _ _ hg) hfl
    have lfl : l ≠ fl := fun z => by
      rw [z, hfl3] at hl
      have e : cc.cs.map nV = xs := HO.lst.inj (Option.some.inj hl)
      have hp : 0 < cc.cs.length := by
        rw [cs3.len]
        exact Nat.pow_pos (by omega)
      have h0 : xs[0]? = some (nV (Tn.at' cc.cs 0)) := by rw [← e, List.getElem?_map, Tn.at_map hp]; rfl
      obtain ⟨r, t', _, e', _⟩ := hR.get h0
      cases e'
    refine for_list (xs := xs) (fun j σ H' => (∃ x7 x8 x9 x10, σ = [some (.ref a), some (.ref g), some (.ref cn), some (.str cc.nm), some (nV cc.pl), some (.ref u), some (.ref fl), x7, x8, x9, x10]) ∧ Off fl H3 H' ∧ ∃ fs : List Nat, H' fl = some (.lst (fs.map nV)) ∧ Tn.Cs T.m cc.pl fs ∧ TrG T.m o cc.pl cc.cs ((Tn.rowsR T.m cc.pl).take j) fs) ⟨⟨_, _, _, _, rfl⟩, Off.refl, cc.cs, hfl3, cs3, fun r hr => by cases hr⟩ (fun j σ H' _ h => SqL.of (h.2.1 _ _ lfl hl)) ?_ ?_
    · rintro j x σ H4 hx4 ⟨⟨x7, x8, x9, x10, rfl⟩, o4, fs, hfs, cfs, hin⟩
      have hjl : j < (Tn.rowsR T.m cc.pl).length := by rw [Paired.length hR]; exact (List.getElem?_eq_some_iff.mp hx4).1
      have hrj : (Tn.rowsR T.m cc.pl)[j]? = some (Tn.rowsR T.m cc.pl)[j] := List.getElem?_eq_getElem hjl
      generalize (Tn.rowsR T.m cc.pl)[j] = r at hrj
      obtain ⟨tr, rfl, htr⟩ := Paired.at hR j _ _ hrj hx4
      have hrm := List.mem_of_getElem? hrj
      have hg4 := o4 g _ gfl (s23 _ _ hg)
      have hrw := Tn.rows_rw r hrm
      have tk4 : Tk H3 H4 := fun b xs' e => o4 b _ (ne_of e hfl3 (by intro z; cases z)) e
      have tkH := (Tk.of s23).trans tk4
      have htr4 := tk4 _ _ htr
      refine ⟨_, rfl, tr, rfl, ⟨_, SqT.of htr4⟩, ?_⟩
      refine for_tup (xs := r.map nV) (fun i σ H' => H' = H4 ∧ ∃ x, σ = [some (.ref a), some (.ref g), some (.ref cn), some (.str cc.nm), some (nV cc.pl), some (.ref u), some (.ref fl), some (.ref tr), some (nV (Tn.place T.m (r.take i))), some (nV (Tn.place T.m ((r.take i).map (Tn.at' o)))), x]) ⟨rfl, _, rfl⟩ (fun i σ H' _ h => by rw [h.1]; exact SqT.of htr4) ?_ ?_
      · rintro i x σ H' hx ⟨rfl, x', rfl⟩
        rw [List.getElem?_map] at hx
        obtain ⟨mk, hmk, rfl⟩ := Option.map_eq_some_iff.mp hx
        have hml := hrw.2 mk (List.mem_of_getElem? hmk)
        refine ⟨_, rfl, _, rfl, .inr (.inl ⟨a, _, 0, _, rfl, rfl, SqT.of (tkH _ _ h1), rfl, _, _, rfl, rfl, .inr ⟨by omega, by omega⟩, _, rfl, _, _, rfl, rfl, ?_⟩)⟩
        refine ⟨_, rfl, _, rfl, .inr (.inl ⟨a, _, 0, _, rfl, rfl, SqT.of (tkH _ _ h1), rfl, _, _, rfl, rfl, .inr ⟨by omega, by omega⟩, _, rfl, _, rfl, .inl ⟨g, _, _, _, rfl, rfl, SqL.of hg4, at_nV (by rw [ho.len]; exact hml), _, _, rfl, rfl, rfl, some (nV mk), ?_⟩⟩)⟩
        rw [take_snoc hmk, Tn.place_snoc, List.map_append]
        show _ = [_, _, _, _, _, _, _, _, some (nV (Tn.place T.m (r.take i) * T.m + mk)), some (nV (Tn.place T.m ((r.take i).map (Tn.at' o) ++ [Tn.at' o mk]))), some (nV mk)]
        rw [Tn.place_snoc]
        rw [show nV (Tn.place T.m (r.take i) * T.m + mk) = V.int ((Tn.place T.m (r.take i) : Int) * (T.m : Int) + (mk : Int)) by show V.int _ = _; rw [Int.natCast_add, Int.natCast_mul]]
        rw [show nV (Tn.place T.m ((r.take i).map (Tn.at' o)) * T.m + Tn.at' o mk) = V.int ((Tn.place T.m ((r.take i).map (Tn.at' o)) : Int) * (T.m : Int) + (Tn.at' o mk : Int)) by show V.int _ = _; rw [Int.natCast_add, Int.natCast_mul]]
        rfl
      · rintro σ H' ⟨rfl, x', rfl⟩
        rw [List.length_map, List.take_length]
        have pll := Tn.place_lt _ r hrw
        have hro : Tn.Rw T.m cc.pl (r.map (Tn.at' o)) := ⟨by rw [List.length_map]; exact hrw.1, fun x hx => by
          obtain ⟨y, hy, rfl⟩ := List.mem_map.mp hx
          exact ho.lt _ (List.mem_of_getElem? (Tn.at_map (by rw [ho.len]; exact hrw.2 y hy)))⟩
        have ptl := Tn.place_lt _ _ hro
        have htc : Tn.at' (Tn.tc T.m o cc.pl cc.cs) (Tn.place T.m (r.map (Tn.at' o))) = Tn.at' o (Tn.at' cc.cs (Tn.place T.m r)) := Tn.tc_row ho hrw
        have hcl : Tn.at' cc.cs (Tn.place T.m r) < T.m := cs3.lt _ (List.mem_of_getElem? (Tn.at_map (by rw [cs3.len]; exact pll)))
        have hvl : Tn.at' o (Tn.at' cc.cs (Tn.place T.m r)) < T.m := ho.lt _ (List.mem_of_getElem? (Tn.at_map (by rw [ho.len]; exact hcl)))
        generalize hPe : Tn.place T.m r = P at pll htc hcl hvl ⊢
        generalize hRe : Tn.place T.m (r.map (Tn.at' o)) = R at ptl htc ⊢
        refine ⟨_, rfl, _, rfl, _, rfl, .inr (.inl ⟨u, _, _, _, rfl, rfl, SqT.of (tkH _ _ k2), at_nV (by rw [cs3.len]; exact pll), .inl ⟨g, _, _, _, rfl, rfl, SqL.of hg4, at_nV (by rw [ho.len]; exact hcl), ?_⟩⟩)⟩
        refine ⟨_, rfl, _, rfl, fl, _, _, R, rfl, rfl, hfs, ?_, ?_⟩
        · rw [List.length_map, cfs.len]
          exact ixN_nat ptl
        have hRl : R < fs.length := by rw [cfs.len]; exact ptl
        refine ⟨⟨_, _, _, _, rfl⟩, fun b ob hb e => by rw [upd_ne hb]; exact o4 b ob hb e, fs.set R (Tn.at' o (Tn.at' cc.cs P)), ?_, ?_, ?_⟩
        · rw [upd_same, List.map_set]
        · refine ⟨by rw [List.length_set]; exact cfs.len, fun x hx => ?_⟩
          rcases List.mem_or_eq_of_mem_set hx with h | h
          · exact cfs.lt x h
          · rw [h]
            exact hvl
        · rw [take_snoc hrj]
          intro r' hr'
          rw [at_set hRl]
          split
          · rename_i e
            rw [e, htc]
          · rename_i e
            rcases List.mem_append.mp hr' with h | h
            · exact hin r' h
            · rw [List.mem_singleton.mp h] at e
              exact absurd hRe e
    · rintro σ H4 ⟨⟨x7, x8, x9, x10, rfl⟩, o4, fs, hfs, cfs, hin⟩
      rw [← Paired.length hR, List.take_length] at hin
      have hft := trg_all p2 ho cfs hin
      have S4 : Same H1 H4 := fun b o e => o4 b o (ne_of_none e hfl) (s3 _ _ (n2 _ _ e))
      refine ⟨_, rfl, .inl ⟨rfl, _, SqL.of (S4 _ _ hy)⟩, _, rfl, _, rfl, _, rfl, fl, _, rfl, .inl ⟨SqL.of hfs, fun t2 ht2 => ?_⟩⟩
      have n5 := same_new ht2 (.tup (fs.map nV))
      refine ⟨small9 (by show 3 ≤ 1000; decide), fun t3 ht3 => ?_⟩
      have n6 := same_new ht3 (.tup [.str cc.nm, nV cc.pl, .ref t2])
      have S6 := S4.trans (n5.trans n6)
      have hy6 := S6 _ _ hy
      have hyl := hC.len
      rw [List.length_map, List.length_take] at hyl
      refine ⟨cn, _, _, rfl, rfl, hy6, small1000 (by omega), ⟨⟨_, _, _, _, _, _, _, _, rfl⟩, (s1.trans S6).put hcn, _, upd_same, ?_⟩⟩
      rw [take_snoc hcc, List.map_append]
      exact (Cns.snoc (c := ⟨cc.nm, cc.pl, Tn.tc T.m o cc.pl cc.cs⟩) (hC.same S6) upd_same (by rw [← hft]; exact n6 _ _ upd_same)).tk (Tk.put hy6)
  · rintro σ H1 ⟨⟨x3, x4, x5, x6, x7, x8, x9, x10, rfl⟩, s1, ys, hy, hC⟩
    rw [← h4.len, List.take_length] at hC
    have w9 := ws_len gT
    refine ⟨_, rfl, .inr (.inl ⟨a, _, 0, _, rfl, rfl, SqT.of (s1 _ _ h1), rfl, ?_⟩)⟩
    refine ⟨_, rfl, .inr (.inl ⟨a, _, 1, _, rfl, rfl, SqT.of (s1 _ _ h1), rfl, w, rfl, ⟨_, SqT.of (s1 _ _ h2)⟩, fun D hD => ?_⟩)⟩
    refine map_tup T.ws nV (fun x => nV (Tn.at' o x)) (s1 _ _ h2) (by omega) hD (fun z hz H' Q' s5 q' => ?_) (fun H5 s5 hD5 => ?_)
    · exact ⟨_, rfl, _, rfl, .inl ⟨g, _, _, _, rfl, rfl, SqL.of ((s1.trans s5) _ _ hg), at_nV (by rw [ho.len]; exact gT.wlt z hz), q' H' Same.rfl'⟩⟩
    refine ⟨D, (T.ws.map (Tn.at' o)).map fun (n : Nat) => (n : Int), rfl, SqL.of (by rw [hD5, List.map_map, List.map_map]; rfl), by rw [List.length_map, List.length_map]; omega, fun l ms hl pm pw => ?_⟩
    obtain ⟨ns, en, pn, wn⟩ := sort_nats pm pw
    have etw : Tn.tw T.m o T.ws = ns := Tn.tw_sorted ho gT.ris gT.wlt pn wn
    rw [en]
    have n6 := same_new hl (.lst (ns.map nV))
    refine ⟨l, _, rfl, .inl ⟨SqL.of upd_same, fun tw htw => ?_⟩⟩
    have n7 := same_new htw (.tup (ns.map nV))
    have hy7 := (s5.trans (n6.trans n7)) _ _ hy
    refine ⟨_, rfl, cn, _, rfl, .inl ⟨SqL.of hy7, fun tc htc => ?_⟩⟩
    have n8 := same_new htc (.tup ys)
    refine ⟨small9 (by show 3 ≤ 1000; decide), fun t ht => ?_⟩
    have n9 := same_new ht (.tup [nV T.m, .ref tw, .ref tc])
    have S := s5.trans (n6.trans (n7.trans (n8.trans n9)))
    exact q _ _ (s1.trans S) ⟨t, tw, tc, ys, rfl, upd_same, by show _ = some (HO.tup ((Tn.tw T.m o T.ws).map nV)); rw [etw]; exact (n8.trans n9) _ _ upd_same, n9 _ _ upd_same, hC.same S⟩
abbrev s_law_right : Stmt := top 32
theorem sc_law_right : FnScope ["_law_well_here", "_law_table_here", "_law_part", "_law_size", "_law_columns", "_law_letter", "_law_wish", "_law_found", "_law_column_here", "_law_order_here", "_law_more", "_law_behind"] ["_law_well_here"] (defScope s_law_right) := ⟨rfl, rfl, rfl, by decide +kernel, rfl, by decide +kernel, by decide +kernel⟩
theorem ok_law_right {P : Program} {w : World} {K : PySem.W.Frag} {mg : Str → Option Value} {base : Heap} {f : Addr} {fd : FuncData} (F : Fun K "_law_right" "_law_right" s_law_right f fd) (gb : Gb mg) (d_law_table : Def P w K mg base 3 "_law_table" ["_law_well_here", "_law_most", "_law_some"] spTable) (d_law_draw : Def P w K mg base 1 "_law_draw" ["_law_well_here", "_law_many"] spDrawW) (d_law_kept : Def P w K mg base 2 "_law_kept" ["_law_table_here", "_law_part"] spKept) (d_sayable : Def P w K mg base 5 "sayable" ["T", "columns", "wish"] spSay) (d_law_order : Def P w K mg base 2 "_law_order" ["_law_well_here", "_law_many"] spOrderL) (d_law_column : Def P w K mg base 1 "_law_column" ["_law_column_here", "_law_order_here"] spColumn) (d_law_turned : Def P w K mg base 2 "_law_turned" ["_law_table_here", "_law_order_here"] spTurnL) : FnOk P w K mg base CX0 6 f fd ["_law_well_here"] spRight28 := by
  refine F.ok sc_law_right (fun vs H Q E h => ?_) (fun cdv A outer s H vs Q E hr h => ?_)
  · obtain ⟨p, rfl, _⟩ := h
    rfl
  obtain ⟨p, rfl, w, q⟩ := h
  have nd0 : (["_law_mark", "_law_well_here"] : List Str).Nodup := by decide +kernel
  have nd1 : (["_law_k", "_law_part", "_law_well_here"] : List Str).Nodup := by decide +kernel
  have nd2 : (["_law_k", "_law_well_here", "_law_table_here"] : List Str).Nodup := by decide +kernel
  have nd3 : (["_law_mark", "_law_part"] : List Str).Nodup := by decide +kernel
  have nd4 : (["_law_mark", "_law_part"] : List Str).Nodup := by decide +kernel
  have nd5 : (["_law_letter", "_law_column_here", "_law_order_here"] : List Str).Nodup := by decide +kernel
  have nd6 : (["_law_column_here", "_law_order_here"] : List Str).Nodup := by decide +kernel
  refine ⟨_, (@pss_cons _ _ _ _ _ (@ps_set _ _ 1 _ _ _ _ sc_law_right.nd rfl (Or.inr rfl) (@pe_def _ _ _ _ _ _ _ _ _ _ _ d_law_table hr (by omega) rfl (@pa_cons _ _ _ _ _ (@pv _ 0 _ _ (by rfl) (by walk_at "v") (by decide) (by decide)) (@pa_cons _ _ _ _ _ (@pe_int _ _ _ _) (@pa_cons _ _ _ _ _ (@pe_int _ _ _ _) (@pa_nil _) (by rfl)) (by rfl)) (by rfl)) (by decide) (by rfl) (by rfl)) (by rfl) (by walk_at "f")) (@pss_cons _ _ _ _ _ (@ps_set _ _ 2 _ _ _ _ sc_law_right.nd rfl (Or.inr rfl) (@pe_comp _ ["_law_mark", "_law_well_here"] [none, some 0] _ _ _ _ _ _ _ _ _ _ (by exact (show CompOk ["_law_well_here", "_law_table_here", "_law_part", "_law_size", "_law_columns", "_law_letter", "_law_wish", "_law_found", "_law_column_here", "_law_order_here", "_law_more", "_law_behind"] (defScope s_law_right) ["_law_mark", "_law_well_here"] [none, some 0] _ from ⟨rfl, by decide +kernel, by decide +kernel, by decide +kernel, by decide +kernel, rfl, by decide +kernel⟩)) rfl (@pi_range1 _ _ _ _ _ _ rfl gb.range (@pa_cons _ _ _ _ _ (@pe_ix _ _ _ _ _ _ _ (@kix_seq _ K (by rfl)) (@pv _ 1 _ _ (by rfl) (by walk_at "v") (by decide) (by decide)) (@pe_int _ _ _ _) (fun _ _ => rfl)) (@pa_nil _) (by rfl)) (by rfl)) (fun _ _ _ _ => (@pg_name _ _ 0 _ nd0 rfl (Or.inl rfl) (by walk_at "f"))) (fun _ _ _ _ => (@pf_one _ _ _ (@pt_cmpR _ _ _ _ _ _ _ _ (@op_eq _) (@pe_def _ _ _ _ _ _ _ _ _ _ _ d_law_draw hr (by omega) rfl (@pa_cons _ _ _ _ _ (@pv _ 1 _ _ (by rfl) (by walk_at "v") (by decide) (by decide)) (@pa_cons _ _ _ _ _ (@pe_int _ _ _ _) (@pa_nil _) (by rfl)) (by rfl)) (by decide) (by rfl) (by rfl)) (@pe_int _ _ _ _) (@nomark _ _ (by decide) (by decide))))) (fun _ _ _ _ => (@pv _ 0 _ _ (by rfl) (by walk_at "v") (by decide) (by decide))) (by intro _; rfl)) (by rfl) (by walk_at "f")) (@pss_cons _ _ _ _ _ (@ps_if _ _ _ _ _ _ _ _ (@pt_cmpR _ _ _ _ _ _ _ _ (@op_eqNil _ K _ hr (by rfl)) (@pv _ 2 _ _ (by rfl) (by walk_at "v") (by decide) (by decide)) (@pe_lst _ _ _ _ (@pa_nil _)) (@nomark _ _ (by decide) (by decide))) (@pss_one _ _ _ (@ps_set _ _ 2 _ _ _ _ sc_law_right.nd rfl (Or.inr rfl) (@pe_lst _ _ _ _ (@pa_cons _ _ _ _ _ (@pe_def _ _ _ _ _ _ _ _ _ _ _ d_law_draw hr (by omega) rfl (@pa_cons _ _ _ _ _ (@pv _ 0 _ _ (by rfl) (by walk_at "v") (by decide) (by decide)) (@pa_cons _ _ _ _ _ (@pe_ix _ _ _ _ _ _ _ (@kix_seq _ K (by rfl)) (@pv _ 1 _ _ (by rfl) (by walk_at "v") (by decide) (by decide)) (@pe_int _ _ _ _) (fun _ _ => rfl)) (@pa_nil _) (by rfl)) (by rfl)) (by decide) (by rfl) (by rfl)) (@pa_nil _) (by rfl))) (by rfl) (by walk_at "f"))) (@pss_nil _)) (@pss_cons _ _ _ _ _ (@ps_set _ _ 1 _ _ _ _ sc_law_right.nd rfl (Or.inr rfl) (@pe_def _ _ _ _ _ _ _ _ _ _ _ d_law_kept hr (by omega) rfl (@pa_cons _ _ _ _ _ (@pv _ 1 _ _ (by rfl) (by walk_at "v") (by decide) (by decide)) (@pa_cons _ _ _ _ _ (@pv _ 2 _ _ (by rfl) (by walk_at "v") (by decide) (by decide)) (@pa_nil _) (by rfl)) (by rfl)) (by decide) (by rfl) (by rfl)) (by rfl) (by walk_at "f")) (@pss_cons _ _ _ _ _ (@ps_set _ _ 3 _ _ _ _ sc_law_right.nd rfl (Or.inl rfl) (@pe_op _ _ _ _ _ _ _ _ (@op_add _) (@pe_int _ _ _ _) (@pe_def _ _ _ _ _ _ _ _ _ _ _ d_law_draw hr (by omega) rfl (@pa_cons _ _ _ _ _ (@pv _ 0 _ _ (by rfl) (by walk_at "v") (by decide) (by decide)) (@pa_cons _ _ _ _ _ (@pe_int _ _ _ _) (@pa_nil _) (by rfl)) (by rfl)) (by decide) (by rfl) (by rfl))) (by rfl) (by walk_at "f")) (@pss_cons _ _ _ _ _ (@ps_set _ _ 4 _ _ _ _ sc_law_right.nd rfl (Or.inl rfl) (@pe_lst _ _ _ _ (@pa_nil _)) (by rfl) (by walk_at "f")) (@pss_cons _ _ _ _ _ (@ps_for _ _ _ _ _ _ _ _ PassesOwn.never rfl (@kpi_list _ K _ _ _ (@pe_lst _ _ _ _ (@pa_cons _ _ _ _ _ (@pe_str _ _ _ _) (@pa_cons _ _ _ _ _ (@pe_str _ _ _ _) (@pa_nil _) (by rfl)) (by rfl))) (by rfl)) (@pg_name _ _ 5 _ sc_law_right.nd rfl (Or.inl rfl) (by walk_at "f")) (@pss_one _ _ _ (@ps_expr _ _ _ _ (@kpe_bm _ K _ _ _ _ _ _ _ _ _ _ _ PySem.F.plainAttrs_list PySem.F.slot_list_append PySem.F.type_list_append (@mt_append _) (@pv _ 4 _ _ (by rfl) (by walk_at "v") (by decide) (by decide)) (@pa_cons _ _ _ _ _ (@pe_tup _ _ _ _ _ (@pa_cons _ _ _ _ _ (@pv _ 5 _ _ (by rfl) (by walk_at "v") (by decide) (by decide)) (@pa_cons _ _ _ _ _ (@pe_callTy _ _ _ _ _ _ _ _ _ (@kcall_tuple_of _ K (by rfl)) rfl gb.tuple bt_tuple (@pa_cons _ _ _ _ _ (@pe_comp _ ["_law_k", "_law_part", "_law_well_here"] [none, some 2, some 0] _ _ _ _ _ _ _ _ _ _ (by exact (show CompOk ["_law_well_here", "_law_table_here", "_law_part", "_law_size", "_law_columns", "_law_letter", "_law_wish", "_law_found", "_law_column_here", "_law_order_here", "_law_more", "_law_behind"] (defScope s_law_right) ["_law_k", "_law_part", "_law_well_here"] [none, some 2, some 0] _ from ⟨rfl, by decide +kernel, by decide +kernel, by decide +kernel, by decide +kernel, rfl, by decide +kernel⟩)) rfl (@pi_range1 _ _ _ _ _ _ rfl gb.range (@pa_cons _ _ _ _ _ (@pv _ 3 _ _ (by rfl) (by walk_at "v") (by decide) (by decide)) (@pa_nil _) (by rfl)) (by rfl)) (fun _ _ _ _ => (@pg_name _ _ 0 _ nd1 rfl (Or.inl rfl) (by walk_at "f"))) (fun _ _ _ _ => (@pf_nil _)) (fun _ _ _ _ => (@pe_ix _ _ _ _ _ _ _ (@kix_seq _ K (by rfl)) (@pv _ 1 _ _ (by rfl) (by walk_at "v") (by decide) (by decide)) (@pe_def _ _ _ _ _ _ _ _ _ _ _ d_law_draw hr (by omega) rfl (@pa_cons _ _ _ _ _ (@pv _ 2 _ _ (by rfl) (by walk_at "v") (by decide) (by decide)) (@pa_cons _ _ _ _ _ (@pe_callB _ _ _ _ _ _ _ _ _ (@kcall_len _ K (by rfl)) rfl gb.len bt_len (@pa_cons _ _ _ _ _ (@pv _ 1 _ _ (by rfl) (by walk_at "v") (by decide) (by decide)) (@pa_nil _) (by rfl)) (by decide) (by decide) (by rfl) (by rfl)) (@pa_nil _) (by rfl)) (by rfl)) (by decide) (by rfl) (by rfl)) (fun _ _ => rfl))) (by intro _; rfl)) (@pa_nil _) (by rfl)) (by decide) (by decide) (by rfl) (by rfl)) (@pa_nil _) (by rfl)) (by rfl))) (@pa_nil _) (by rfl)) (by rfl) (by rfl) (by rfl) (by rfl) (by rfl) (by rfl)) (by rfl))) (by intro _; rfl)) (@pss_cons _ _ _ _ _ (@ps_set _ _ 6 _ _ _ _ sc_law_right.nd rfl (Or.inl rfl) (@pe_callTy _ _ _ _ _ _ _ _ _ (@kcall_tuple_of _ K (by rfl)) rfl gb.tuple bt_tuple (@pa_cons _ _ _ _ _ (@pe_comp _ ["_law_k", "_law_well_here", "_law_table_here"] [none, some 0, some 1] _ _ _ _ _ _ _ _ _ _ (by exact (show CompOk ["_law_well_here", "_law_table_here", "_law_part", "_law_size", "_law_columns", "_law_letter", "_law_wish", "_law_found", "_law_column_here", "_law_order_here", "_law_more", "_law_behind"] (defScope s_law_right) ["_law_k", "_law_well_here", "_law_table_here"] [none, some 0, some 1] _ from ⟨rfl, by decide +kernel, by decide +kernel, by decide +kernel, by decide +kernel, rfl, by decide +kernel⟩)) rfl (@pi_range1 _ _ _ _ _ _ rfl gb.range (@pa_cons _ _ _ _ _ (@pv _ 3 _ _ (by rfl) (by walk_at "v") (by decide) (by decide)) (@pa_nil _) (by rfl)) (by rfl)) (fun _ _ _ _ => (@pg_name _ _ 0 _ nd2 rfl (Or.inl rfl) (by walk_at "f"))) (fun _ _ _ _ => (@pf_nil _)) (fun _ _ _ _ => (@pe_def _ _ _ _ _ _ _ _ _ _ _ d_law_draw hr (by omega) rfl (@pa_cons _ _ _ _ _ (@pv _ 1 _ _ (by rfl) (by walk_at "v") (by decide) (by decide)) (@pa_cons _ _ _ _ _ (@pe_ix _ _ _ _ _ _ _ (@kix_seq _ K (by rfl)) (@pv _ 2 _ _ (by rfl) (by walk_at "v") (by decide) (by decide)) (@pe_int _ _ _ _) (fun _ _ => rfl)) (@pa_nil _) (by rfl)) (by rfl)) (by decide) (by rfl) (by rfl))) (by intro _; rfl)) (@pa_nil _) (by rfl)) (by decide) (by decide) (by rfl) (by rfl)) (by rfl) (by walk_at "f")) (@pss_cons _ _ _ _ _ (@ps_set _ _ 7 _ _ _ _ sc_law_right.nd rfl (Or.inl rfl) (@pe_def _ _ _ _ _ _ _ _ _ _ _ d_sayable hr (by omega) rfl (@pa_cons _ _ _ _ _ (@pv _ 1 _ _ (by rfl) (by walk_at "v") (by decide) (by decide)) (@pa_cons _ _ _ _ _ (@pe_callTy _ _ _ _ _ _ _ _ _ (@kcall_tuple_of _ K (by rfl)) rfl gb.tuple bt_tuple (@pa_cons _ _ _ _ _ (@pv _ 4 _ _ (by rfl) (by walk_at "v") (by decide) (by decide)) (@pa_nil _) (by rfl)) (by decide) (by decide) (by rfl) (by rfl)) (@pa_cons _ _ _ _ _ (@pv _ 6 _ _ (by rfl) (by walk_at "v") (by decide) (by decide)) (@pa_nil _) (by rfl)) (by rfl)) (by rfl)) (by decide) (by rfl) (by rfl)) (by rfl) (by walk_at "f")) (@pss_cons _ _ _ _ _ (@ps_if _ _ _ _ _ _ _ _ (@PW.pt _ _ _ (@pw_and _ _ _ _ _ _ _ (@pt_cmpR _ _ _ _ _ _ _ _ (@op_eq _) (@pe_ix _ _ _ _ _ _ _ (@kix_seq _ K (by rfl)) (@pv _ 7 _ _ (by rfl) (by walk_at "v") (by decide) (by decide)) (@pe_int _ _ _ _) (fun _ _ => rfl)) (@pe_str _ _ _ _) (@nomark _ _ (by decide) (by decide))) (@pw_and1 _ _ _ _ (@pt_not _ _ _ _ (@pt_val _ _ _ (@pe_callB _ _ _ _ _ _ _ _ _ (@kcall_all _ K rfl (by rfl)) rfl gb.all bt_all (@pa_cons _ _ _ _ _ (@pe_comp _ ["_law_mark", "_law_part"] [none, some 2] _ _ _ _ _ _ _ _ _ _ (by exact (show CompOk ["_law_well_here", "_law_table_here", "_law_part", "_law_size", "_law_columns", "_law_letter", "_law_wish", "_law_found", "_law_column_here", "_law_order_here", "_law_more", "_law_behind"] (defScope s_law_right) ["_law_mark", "_law_part"] [none, some 2] _ from ⟨rfl, by decide +kernel, by decide +kernel, by decide +kernel, by decide +kernel, rfl, by decide +kernel⟩)) rfl (@kpi_tup _ K _ _ _ (@pv _ 6 _ _ (by rfl) (by walk_at "v") (by decide) (by decide)) (by rfl)) (fun _ _ _ _ => (@pg_name _ _ 0 _ nd3 rfl (Or.inl rfl) (by walk_at "f"))) (fun _ _ _ _ => (@pf_nil _)) (fun _ _ _ _ => (@pe_cmpR _ _ _ _ _ _ _ _ (@kop_in_seq _ K (by rfl)) (@pv _ 0 _ _ (by rfl) (by walk_at "v") (by decide) (by decide)) (@pv _ 1 _ _ (by rfl) (by walk_at "v") (by decide) (by decide)) (by with_unfolding_all rfl))) (by intro _; rfl)) (@pa_nil _) (by rfl)) (by decide) (by decide) (by rfl) (by rfl)) (by intro _; rfl)))))) (@pss_one _ _ _ (@ps_ret _ _ _ _ (@pe_bl _ _ _ _))) (@pss_nil _)) (@pss_cons _ _ _ _ _ (@ps_for _ _ _ _ _ _ _ _ PassesOwn.never rfl (@kpi_tup _ K _ _ _ (@pe_op _ _ _ _ _ _ _ _ (@op_rep01 _ K (by rfl)) (@pe_ix _ _ _ _ _ _ _ (@kix_seq _ K (by rfl)) (@pv _ 7 _ _ (by rfl) (by walk_at "v") (by decide) (by decide)) (@pe_int _ _ _ _) (fun _ _ => rfl)) (@pe_callTy _ _ _ _ _ _ _ _ _ (@call_int1 _) rfl gb.int bt_int (@pa_cons _ _ _ _ _ (@pe_cmpR _ _ _ _ _ _ _ _ (@op_eq _) (@pe_ix _ _ _ _ _ _ _ (@kix_seq _ K (by rfl)) (@pv _ 7 _ _ (by rfl) (by walk_at "v") (by decide) (by decide)) (@pe_int _ _ _ _) (fun _ _ => rfl)) (@pe_str _ _ _ _) (@nomark _ _ (by decide) (by decide))) (@pa_nil _) (by rfl)) (by decide) (by decide) (by rfl) (by rfl))) (by rfl)) (@pg_name _ _ 8 _ sc_law_right.nd rfl (Or.inl rfl) (by walk_at "f")) (@pss_one _ _ _ (@ps_if _ _ _ _ _ _ _ _ (@pt_not _ _ _ _ (@pt_val _ _ _ (@pe_callB _ _ _ _ _ _ _ _ _ (@kcall_all _ K rfl (by rfl)) rfl gb.all bt_all (@pa_cons _ _ _ _ _ (@pe_comp _ ["_law_mark", "_law_part"] [none, some 2] _ _ _ _ _ _ _ _ _ _ (by exact (show CompOk ["_law_well_here", "_law_table_here", "_law_part", "_law_size", "_law_columns", "_law_letter", "_law_wish", "_law_found", "_law_column_here", "_law_order_here", "_law_more", "_law_behind"] (defScope s_law_right) ["_law_mark", "_law_part"] [none, some 2] _ from ⟨rfl, by decide +kernel, by decide +kernel, by decide +kernel, by decide +kernel, rfl, by decide +kernel⟩)) rfl (@kpi_tup _ K _ _ _ (@pv _ 8 _ _ (by rfl) (by walk_at "v") (by decide) (by decide)) (by rfl)) (fun _ _ _ _ => (@pg_name _ _ 0 _ nd4 rfl (Or.inl rfl) (by walk_at "f"))) (fun _ _ _ _ => (@pf_nil _)) (fun _ _ _ _ => (@pe_cmpR _ _ _ _ _ _ _ _ (@kop_in_seq _ K (by rfl)) (@pv _ 0 _ _ (by rfl) (by walk_at "v") (by decide) (by decide)) (@pv _ 1 _ _ (by rfl) (by walk_at "v") (by decide) (by decide)) (by with_unfolding_all rfl))) (by intro _; rfl)) (@pa_nil _) (by rfl)) (by decide) (by decide) (by rfl) (by rfl)) (by intro _; rfl))) (@pss_one _ _ _ (@ps_ret _ _ _ _ (@pe_bl _ _ _ _))) (@pss_nil _))) (by intro _; rfl)) (@pss_cons _ _ _ _ _ (@ps_set _ _ 9 _ _ _ _ sc_law_right.nd rfl (Or.inr rfl) (@pe_def _ _ _ _ _ _ _ _ _ _ _ d_law_order hr (by omega) rfl (@pa_cons _ _ _ _ _ (@pv _ 0 _ _ (by rfl) (by walk_at "v") (by decide) (by decide)) (@pa_cons _ _ _ _ _ (@pe_ix _ _ _ _ _ _ _ (@kix_seq _ K (by rfl)) (@pv _ 1 _ _ (by rfl) (by walk_at "v") (by decide) (by decide)) (@pe_int _ _ _ _) (fun _ _ => rfl)) (@pa_nil _) (by rfl)) (by rfl)) (by decide) (by rfl) (by rfl)) (by rfl) (by walk_at "f")) (@pss_cons _ _ _ _ _ (@ps_set _ _ 10 _ _ _ _ sc_law_right.nd rfl (Or.inl rfl) (@pe_callTy _ _ _ _ _ _ _ _ _ (@kcall_tuple_of _ K (by rfl)) rfl gb.tuple bt_tuple (@pa_cons _ _ _ _ _ (@pe_comp _ ["_law_letter", "_law_column_here", "_law_order_here"] [none, none, some 9] _ _ _ _ _ _ _ _ _ _ (by exact (show CompOk ["_law_well_here", "_law_table_here", "_law_part", "_law_size", "_law_columns", "_law_letter", "_law_wish", "_law_found", "_law_column_here", "_law_order_here", "_law_more", "_law_behind"] (defScope s_law_right) ["_law_letter", "_law_column_here", "_law_order_here"] [none, none, some 9] _ from ⟨rfl, by decide +kernel, by decide +kernel, by decide +kernel, by decide +kernel, rfl, by decide +kernel⟩)) rfl (@kpi_list _ K _ _ _ (@pv _ 4 _ _ (by rfl) (by walk_at "v") (by decide) (by decide)) (by rfl)) (fun _ _ _ _ => (@kpg_tup _ K _ _ _ _ 2 rfl (@pgs_cons _ _ _ _ _ (@pg_name _ _ 0 _ nd5 rfl (Or.inl rfl) (by walk_at "f")) (@pgs_cons _ _ _ _ _ (@pg_name _ _ 1 _ nd5 rfl (Or.inl rfl) (by walk_at "f")) (@pgs_nil _) (by rfl)) (by rfl)) (by rfl) (by rfl) (by rfl))) (fun _ _ _ _ => (@pf_nil _)) (fun _ _ _ _ => (@pe_tup _ _ _ _ _ (@pa_cons _ _ _ _ _ (@pv _ 0 _ _ (by rfl) (by walk_at "v") (by decide) (by decide)) (@pa_cons _ _ _ _ _ (@pe_def _ _ _ _ _ _ _ _ _ _ _ d_law_column hr (by omega) rfl (@pa_cons _ _ _ _ _ (@pv _ 1 _ _ (by rfl) (by walk_at "v") (by decide) (by decide)) (@pa_cons _ _ _ _ _ (@pv _ 2 _ _ (by rfl) (by walk_at "v") (by decide) (by decide)) (@pa_nil _) (by rfl)) (by rfl)) (by decide) (by rfl) (by rfl)) (@pa_nil _) (by rfl)) (by rfl)))) (by intro _; rfl)) (@pa_nil _) (by rfl)) (by decide) (by decide) (by rfl) (by rfl)) (by rfl) (by walk_at "f")) (@pss_cons _ _ _ _ _ (@ps_set _ _ 11 _ _ _ _ sc_law_right.nd rfl (Or.inl rfl) (@pe_def _ _ _ _ _ _ _ _ _ _ _ d_sayable hr (by omega) rfl (@pa_cons _ _ _ _ _ (@pe_def _ _ _ _ _ _ _ _ _ _ _ d_law_turned hr (by omega) rfl (@pa_cons _ _ _ _ _ (@pv _ 1 _ _ (by rfl) (by walk_at "v") (by decide) (by decide)) (@pa_cons _ _ _ _ _ (@pv _ 9 _ _ (by rfl) (by walk_at "v") (by decide) (by decide)) (@pa_nil _) (by rfl)) (by rfl)) (by decide) (by rfl) (by rfl)) (@pa_cons _ _ _ _ _ (@pv _ 10 _ _ (by rfl) (by walk_at "v") (by decide) (by decide)) (@pa_cons _ _ _ _ _ (@pe_def _ _ _ _ _ _ _ _ _ _ _ d_law_column hr (by omega) rfl (@pa_cons _ _ _ _ _ (@pv _ 6 _ _ (by rfl) (by walk_at "v") (by decide) (by decide)) (@pa_cons _ _ _ _ _ (@pv _ 9 _ _ (by rfl) (by walk_at "v") (by decide) (by decide)) (@pa_nil _) (by rfl)) (by rfl)) (by decide) (by rfl) (by rfl)) (@pa_nil _) (by rfl)) (by rfl)) (by rfl)) (by decide) (by rfl) (by rfl)) (by rfl) (by walk_at "f")) (@pss_cons _ _ _ _ _ (@ps_if _ _ _ _ _ _ _ _ (@pt_cmpR _ _ _ _ _ _ _ _ (@op_eq _) (@pe_ix _ _ _ _ _ _ _ (@kix_seq _ K (by rfl)) (@pv _ 7 _ _ (by rfl) (by walk_at "v") (by decide) (by decide)) (@pe_int _ _ _ _) (fun _ _ => rfl)) (@pe_str _ _ _ _) (@nomark _ _ (by decide) (by decide))) (@pss_one _ _ _ (@ps_ret _ _ _ _ (@pe_cmpR _ _ _ _ _ _ _ _ (@op_eq _) (@pe_ix _ _ _ _ _ _ _ (@kix_seq _ K (by rfl)) (@pv _ 11 _ _ (by rfl) (by walk_at "v") (by decide) (by decide)) (@pe_int _ _ _ _) (fun _ _ => rfl)) (@pe_str _ _ _ _) (@nomark _ _ (by decide) (by decide))))) (@pss_nil _)) (@pss_one _ _ _ (@ps_ret _ _ _ _ (@pe_cmpR _ _ _ _ _ _ _ _ (@op_eqD _ 3 _ hr (by decide)) (@pv _ 11 _ _ (by rfl) (by walk_at "v") (by decide) (by decide)) (@pe_tup _ _ _ _ _ (@pa_cons _ _ _ _ _ (@pe_str _ _ _ _) (@pa_cons _ _ _ _ _ (@pe_callTy _ _ _ _ _ _ _ _ _ (@kcall_tuple_of _ K (by rfl)) rfl gb.tuple bt_tuple (@pa_cons _ _ _ _ _ (@pe_callB _ _ _ _ _ _ _ _ _ (@kcall_sortedTl _ K (by rfl)) rfl gb.sorted bt_sorted (@pa_cons _ _ _ _ _ (@pe_comp _ ["_law_column_here", "_law_order_here"] [none, some 9] _ _ _ _ _ _ _ _ _ _ (by exact (show CompOk ["_law_well_here", "_law_table_here", "_law_part", "_law_size", "_law_columns", "_law_letter", "_law_wish", "_law_found", "_law_column_here", "_law_order_here", "_law_more", "_law_behind"] (defScope s_law_right) ["_law_column_here", "_law_order_here"] [none, some 9] _ from ⟨rfl, by decide +kernel, by decide +kernel, by decide +kernel, by decide +kernel, rfl, by decide +kernel⟩)) rfl (@kpi_tup _ K _ _ _ (@pe_ix _ _ _ _ _ _ _ (@kix_seq _ K (by rfl)) (@pv _ 7 _ _ (by rfl) (by walk_at "v") (by decide) (by decide)) (@pe_int _ _ _ _) (fun _ _ => rfl)) (by rfl)) (fun _ _ _ _ => (@pg_name _ _ 0 _ nd6 rfl (Or.inl rfl) (by walk_at "f"))) (fun _ _ _ _ => (@pf_nil _)) (fun _ _ _ _ => (@pe_def _ _ _ _ _ _ _ _ _ _ _ d_law_column hr (by omega) rfl (@pa_cons _ _ _ _ _ (@pv _ 0 _ _ (by rfl) (by walk_at "v") (by decide) (by decide)) (@pa_cons _ _ _ _ _ (@pv _ 1 _ _ (by rfl) (by walk_at "v") (by decide) (by decide)) (@pa_nil _) (by rfl)) (by rfl)) (by decide) (by rfl) (by rfl))) (by intro _; rfl)) (@pa_nil _) (by rfl)) (by decide) (by decide) (by rfl) (by rfl)) (@pa_nil _) (by rfl)) (by decide) (by decide) (by rfl) (by rfl)) (@pa_nil _) (by rfl)) (by rfl))) (@nomark _ _ (by decide) (by decide)))))))))))))))))))), ?_⟩
  refine ⟨_, rfl, p, rfl, w, fun v T0 H1 o1 w1 g0 m4 n0 i0 => ?_⟩
  obtain ⟨a, wa, ca, vsA, rfl, h1, h2, h3, h4⟩ := id i0
  have m9 := g0.m9
  have m1 := g0.m1
  refine ⟨_, rfl, .inr (.inl ⟨a, _, 0, _, rfl, rfl, SqT.of h1, rfl, (T0.m : Int), rfl, by omega, by omega, fun D hD => ?_⟩)⟩
  rw [Int.toNat_natCast]
  have pD := w1.ne hD
  refine comp_range (fun i ys H' => ∃ ws : List Nat, ys = ws.map nV ∧ ws.Pairwise (· < ·) ∧ (∀ x ∈ ws, x < i) ∧ ws.length ≤ i ∧ Off p H1 H' ∧ Wel H' p) ⟨[], rfl, .nil, (fun x h => by cases h), Nat.le_refl _, Off.new hD, w1.off pD⟩ ?_ ?_
  · rintro i ys H2 hi ⟨ws, rfl, wr, wl, wn, o2, w2⟩ hD2
    refine ⟨_, rfl, p, 2, rfl, w2, by decide, by decide, fun v H3 v1 o3 w3 => ⟨rfl, _, rfl, ?_⟩⟩
    have hD3 := o3 D _ (Ne.symm pD) hD2
    refine ite2 (fun c => ?_) (fun c => ?_)
    · refine ⟨_, rfl, cyes hi rset1 hD3 (by rw [List.length_map]; exact small1000 (by omega)) ⟨ws ++ [i], by rw [List.map_append, Int.zero_add]; rfl, ?_, fun x hx => ?_, by rw [List.length_append]; exact Nat.succ_le_succ wn, (o2.trans o3).fresh hD, w3.off pD⟩⟩
      · rw [List.pairwise_append]
        exact ⟨wr, List.pairwise_singleton _ _, fun a ha b hb => by rw [List.mem_singleton.mp hb]; exact wl a ha⟩
      · rcases List.mem_append.mp hx with h | h
        · have := wl x h
          omega
        · rw [List.mem_singleton.mp h]
          omega
    · exact cno hi rset1 hD3 ⟨ws, rfl, wr, fun x hx => Nat.lt_succ_of_lt (wl x hx), Nat.le_succ_of_le wn, o2.trans o3, w3⟩
  rintro ys H2 ⟨ws, rfl, wr, wl, wn, o2, w2⟩ hD2
  refine ⟨_, rfl, small9 (by show 0 ≤ 1000; decide), fun e he => ?_⟩
  have n3 := same_new he (.lst [])
  refine ⟨D, e, _, rfl, rfl, SqL.of (n3 _ _ hD2), SqL.of upd_same, _, rfl, ?_⟩
  have w3 := w2.same n3
  have k3 : Tk H1 (upd H2 e (.lst [])) := (w1.tk o2).trans (Tk.of n3)
  have o3 : Off p H (upd H2 e (.lst [])) := (o1.trans o2).trans (Off.of n3)
  have hD3 := n3 _ _ hD2
  generalize upd H2 e (.lst []) = H3 at *
  cases ws with
  | nil =>
    refine iteP rfl ?_
    refine ⟨_, rfl, _, rfl, .inr (.inl ⟨a, _, 0, _, rfl, rfl, SqT.of (k3 _ _ h1), rfl, p, T0.m, rfl, w3, by omega, by omega, fun x0 H4 x1 o4 w4 => ?_⟩)⟩
    refine ⟨small9 (by show 1 ≤ 1000; decide), fun pa hpa => ?_⟩
    have n5 := same_new hpa (.lst [nV x0])
    have pap : pa ≠ p := Ne.symm (w4.ne hpa)
    have wP := w4.same n5
    have kP : Tk H1 (upd H4 pa (.lst [nV x0])) := k3.trans ((w3.tk o4).trans (Tk.of n5))
    have oP : Off p H (upd H4 pa (.lst [nV x0])) := o3.trans (o4.trans (Off.of n5))
    have hpaP : (upd H4 pa (.lst [nV x0])) pa = some (.lst (([x0] : List Nat).map nV)) := upd_same
    have hG : Pt T0.m [x0] := ⟨Nat.le_refl _, List.pairwise_singleton _ _, fun y hy => by rw [List.mem_singleton.mp hy]; exact x1⟩
    generalize upd H4 pa (.lst [nV x0]) = HP at *
    generalize ([x0] : List Nat) = G at *
    have i0P := i0.tk kP
    refine ⟨_, rfl, _, rfl, .ref a, pa, T0, G, rfl, i0P, g0, hG, hpaP, fun u U H5 s5 gU em esh hk iu => ?_⟩
    have nU : (nmsOf U).Nodup := nms_sh esh ▸ n0
    have hGU : Pt U.m G := by rw [em]; exact hG
    obtain ⟨b, wb, cb, vsB, rfl, j1, j2, j3, j4⟩ := id iu
    have w5 := wP.same s5
    have hpa5 := s5 _ _ hpaP
    have p2 : ∀ c ∈ U.cs, c.pl ≤ 2 := fun c hc => (gU.cn c hc).2.1
    have m4' : U.m ≤ 4 := by rw [em]; exact m4
    refine ⟨_, rfl, p, 2, rfl, w5, by decide, by decide, fun v2 H7 v21 o7 w7 => ⟨_, _, rfl, rfl, ?_⟩⟩
    obtain ⟨sz, esz, sz1, sz2⟩ : ∃ sz : Nat, V.int (1 + (v2 : Int)) = nV sz ∧ 1 ≤ sz ∧ sz ≤ 2 := ⟨1 + v2, by show V.int _ = V.int _; rw [Int.natCast_add]; rfl, by omega, by omega⟩
    dsimp only
    rw [esz]
    refine ⟨small9 (by show 0 ≤ 1000; decide), fun cl hcl => ?_⟩
    have n8 := same_new hcl (.lst [])
    have w8 := w7.same n8
    have clp : cl ≠ p := Ne.symm (w7.ne hcl)
    refine ⟨small9 (by show 2 ≤ 1000; decide), fun L0 hL0 => ⟨L0, rfl, ⟨_, SqL.of upd_same⟩, ?_⟩⟩
    have n9 := same_new hL0 (.lst [V.str "p", V.str "q"])
    have w9 := w8.same n9
    have L0p : L0 ≠ p := Ne.symm (w8.ne hL0)
    have L0c : L0 ≠ cl := fun z => by
      rw [z, upd_same] at hL0
      cases hL0
    have o59 : Off p H5 (upd (upd H7 cl (.lst [])) L0 (.lst [V.str "p", V.str "q"])) := o7.trans ((Off.of n8).trans (Off.of n9))
    have hpa9 := o59 pa _ pap hpa5
    have k59 := w5.tk o59
    have pac : pa ≠ cl := fun z => by
      have := o7 pa _ pap hpa5
      rw [z, hcl] at this
      cases this
    refine for_list (xs := [V.str "p", V.str "q"]) (fun i σ H' => (∃ x5 x6 x7 x8 x9 x10 x11, σ = [some (.ref p), some (.ref b), some (.ref pa), some (nV sz), some (.ref cl), x5, x6, x7, x8, x9, x10, x11]) ∧ (∀ bb oo, bb ≠ p → bb ≠ cl → (upd (upd H7 cl (.lst [])) L0 (.lst [V.str "p", V.str "q"])) bb = some oo → H' bb = some oo) ∧ Wel H' p ∧ ∃ cps ys, H' cl = some (.lst ys) ∧ PCs H' cps ys ∧ cps.length = i ∧ ∀ q ∈ cps, Ltr q.1 ∧ GoodCol U.m sz q.2 ∧ ∀ x ∈ q.2, x ∈ G) ⟨⟨_, _, _, _, _, _, _, rfl⟩, (fun bb oo _ _ h => h), w9, [], [], n9 _ _ upd_same, .nil, rfl, fun q h => by cases h⟩ (fun i σ H' _ h => SqL.of (h.2.1 _ _ L0p L0c upd_same)) ?_ ?_
    · rintro i x σ HA hx ⟨⟨x5, x6, x7, x8, x9, x10, x11, rfl⟩, oA, wA, cps, ys, hyA, hpA, cl', hqA⟩
      have hpaA := oA _ _ pap pac hpa9
      obtain ⟨lt, rfl, hlt⟩ : ∃ lt : Str, x = .str lt ∧ Ltr lt := by
        match i, hx with
        | 0, hx => exact ⟨"p", by simpa using hx.symm, ltr_of (c := 112) (by decide +kernel) (by decide) (by decide)⟩
        | 1, hx => exact ⟨"q", by simpa using hx.symm, ltr_of (c := 113) (by decide +kernel) (by decide) (by decide)⟩
      have i2 : i < 2 := (List.getElem?_eq_some_iff.mp hx).1
      have ypl := Paired.length hpA
      refine ⟨_, rfl, .inl ⟨rfl, _, SqL.of hyA⟩, _, rfl, _, rfl, (sz : Int), rfl, by omega, by omega, fun D2 hD2 => ?_⟩
      rw [Int.toNat_natCast]
      have pD2 := wA.ne hD2
      have gp : 0 < G.length := hGU.ne
      have gl4 : G.length ≤ 9 := Nat.le_trans hGU.len (by omega)
      have hml : ((G.map nV).length : Int) = (G.length : Int) := by rw [List.length_map]
      refine comp_range (fun j zs H' => ∃ col : List Nat, zs = col.map nV ∧ col.length = j ∧ (∀ x ∈ col, x ∈ G) ∧ Off p HA H' ∧ Wel H' p) ⟨[], rfl, rfl, (fun x h => by cases h), Off.new hD2, wA.off pD2⟩ ?_ ?_
      · rintro j zs HB hj ⟨col, rfl, cj, hcG, oB, wB⟩ hDB
        have hpaB := oB pa _ pap hpaA
        refine yes ⟨_, rfl, _, rfl, _, rfl, _, _, rfl, .inl ⟨_, SqL.of hpaB, rfl⟩, p, G.length, by (show [V.ref p, V.int ((G.map nV).length : Int)] = _; rw [hml]), wB, by omega, by omega, fun v3 HC v31 oC wC => ?_⟩
        have hpaC := oC pa _ pap hpaB
        have hDC := oC D2 _ (Ne.symm pD2) hDB
        refine .inl ⟨pa, _, _, _, rfl, rfl, SqL.of hpaC, at_nV v31, ?_⟩
        refine cyes hj rset1 hDC (by rw [List.length_map]; exact small1000 (by omega)) ⟨col ++ [Tn.at' G v3], by rw [List.map_append]; rfl, by rw [List.length_append, cj]; rfl, fun x hx => ?_, (oB.trans oC).fresh hD2, wC.off pD2⟩
        rcases List.mem_append.mp hx with h | h
        · exact hcG x h
        · rw [List.mem_singleton.mp h]
          exact List.mem_of_getElem? (Tn.at_map v31)
      · rintro zs HB ⟨col, rfl, cj, hcG, oB, wB⟩ hDB
        refine ⟨D2, _, rfl, .inl ⟨SqL.of hDB, fun tc htc => ?_⟩⟩
        have nC := same_new htc (.tup (col.map nV))
        refine ⟨small9 (by show 2 ≤ 1000; decide), fun tt htt => ?_⟩
        have nD := same_new htt (.tup [.str lt, .ref tc])
        have nCD := nC.trans nD
        have hyB := nCD _ _ (oB cl _ clp hyA)
        have kB := (wA.tk oB).trans (Tk.of nCD)
        refine ⟨cl, _, _, rfl, rfl, hyB, small1000 (by omega), ⟨⟨_, _, _, _, _, _, _, rfl⟩, (fun bb oo h1 h2 h => ?_), (wB.same nCD).off (Ne.symm clp), cps ++ [(lt, col)], _, upd_same, ?_, by rw [List.length_append, cl']; rfl, fun q hq => ?_⟩⟩
        · rw [upd_ne h2]
          exact nCD _ _ (oB bb _ h1 (oA bb oo h1 h2 h))
        · exact PCs.tk (Tk.put hyB) (PCs.snoc (hpA.tk kB) upd_same (nD _ _ upd_same))
        · rcases List.mem_append.mp hq with h | h
          · exact hqA q h
          · rw [List.mem_singleton.mp h]
            exact ⟨hlt, ⟨cj, fun x hx => hGU.lt x (hcG x hx)⟩, hcG⟩
    · rintro σ HA ⟨⟨x5, x6, x7, x8, x9, x10, x11, rfl⟩, oA, wA, cps, ys, hyA, hpA, cl', hqA⟩
      have kA : Tk H5 HA := fun bb xs h => by
        have h9 := k59 _ _ h
        have e1 : bb ≠ p := fun z => by
          obtain ⟨_, _, e⟩ := w9
          rw [z, e] at h9
          cases h9
        have e2 : bb ≠ cl := fun z => by
          rw [z, n9 _ _ upd_same] at h9
          cases h9
        exact oA _ _ e1 e2 h9
      have hpaA := oA _ _ pap pac hpa9
      have oHA : Off p H HA := fun bb oo hb e => oA bb oo hb (fun z => by
        have := (oP.trans ((Off.of s5).trans o7)) bb oo hb e
        rw [z, hcl] at this
        cases this) (o59 bb oo hb ((oP.trans (Off.of s5)) bb oo hb e))
      refine ⟨_, rfl, (sz : Int), rfl, by omega, by omega, fun D3 hD3 => ?_⟩
      rw [Int.toNat_natCast]
      have pD3 := wA.ne hD3
      have um1 := gU.m1
      refine comp_range (fun j zs H' => ∃ col : List Nat, zs = col.map nV ∧ col.length = j ∧ (∀ x ∈ col, x < U.m) ∧ Off p HA H' ∧ Wel H' p) ⟨[], rfl, rfl, (fun x h => by cases h), Off.new hD3, wA.off pD3⟩ ?_ ?_
      · rintro j zs HB hj ⟨col, rfl, cj, hcm, oB, wB⟩ hDB
        refine yes ⟨_, rfl, _, rfl, .inr (.inl ⟨b, _, 0, _, rfl, rfl, SqT.of ((kA.trans (wA.tk oB)) _ _ j1), rfl, p, U.m, rfl, wB, by omega, by omega, fun v3 HC v31 oC wC => ?_⟩)⟩
        have hDC := oC D3 _ (Ne.symm pD3) hDB
        refine cyes hj rset1 hDC (by rw [List.length_map]; exact small1000 (by omega)) ⟨col ++ [v3], by rw [List.map_append]; rfl, by rw [List.length_append, cj]; rfl, fun x hx => ?_, (oB.trans oC).fresh hD3, wC.off pD3⟩
        rcases List.mem_append.mp hx with h | h
        · exact hcm x h
        · rw [List.mem_singleton.mp h]
          exact v31
      rintro zs HB ⟨wish, rfl, cj, hcm, oB, wB⟩ hDB
      refine ⟨D3, _, rfl, .inl ⟨SqL.of hDB, fun wt hwt => ?_⟩⟩
      have nC := same_new hwt (.tup (wish.map nV))
      have hyC := nC _ _ (oB cl _ clp hyA)
      have kC := (kA.trans (wA.tk oB)).trans (Tk.of nC)
      refine ⟨_, rfl, _, rfl, cl, ys, rfl, .inl ⟨SqL.of hyC, fun ct hct => ?_⟩⟩
      have nD := same_new hct (.tup ys)
      have kD := kC.trans (Tk.of nD)
      have hpcD : PCs (upd (upd HB wt (.tup (wish.map nV))) ct (.tup ys)) cps ys := hpA.tk (((wA.tk oB).trans (Tk.of nC)).trans (Tk.of nD))
      have gB : ∀ q ∈ cps, Ltr q.1 ∧ GoodCol U.m sz q.2 := fun q hq => ⟨(hqA q hq).1, (hqA q hq).2.1⟩
      have mp : U.m ^ sz ≤ 16 := Nat.le_trans (Nat.pow_le_pow_left m4' sz) (Nat.le_trans (Nat.pow_le_pow_right (by decide) sz2) (by decide))
      have hwtD : (upd (upd HB wt (.tup (wish.map nV))) ct (.tup ys)) wt = some (.tup (wish.map nV)) := nD _ _ upd_same
      have hctD : (upd (upd HB wt (.tup (wish.map nV))) ct (.tup ys)) ct = some (.tup ys) := upd_same
      have wD := (wB.same nC).same nD
      have hyD := nD _ _ hyC
      have hpaD := nD _ _ (nC _ _ (oB pa _ pap hpaA))
      generalize upd (upd HB wt (.tup (wish.map nV))) ct (.tup ys) = HD at *
      have oHD : Off p H HD := oHA.trans (oB.trans ((Off.of nC).trans (Off.of nD)))
      refine ⟨_, rfl, .ref b, ct, wt, U, cps, ys, wish, rfl, iu.tk kD, gU, nU, hctD, hpcD, (by rw [cj]; exact gB), hwtD, by omega, by omega, by rw [cj]; exact mp, fun hsd t lt us HE sE ht hlt' hus => ?_, fun hsd t ut bs ks HE sE ht hut hP asc hks k16 => ?_⟩
      · have inG : ∀ x ∈ wish, x ∈ G := by
          refine sd_in_part gU nU (fun c hc r hl hr => keep_cell nU hk hc (p2 c hc) hl hr) (len := wish.length) (B := cps.map Prod.snd) (fun b' hb => ?_) (fun b' hb => ?_) hsd
          · obtain ⟨q, hq, rfl⟩ := List.mem_map.mp hb
            rw [cj]
            exact (hqA q hq).2.1
          · obtain ⟨q, hq, rfl⟩ := List.mem_map.mp hb
            exact (hqA q hq).2.2
        refine ⟨_, rfl, .inr (.inl ⟨t, _, 0, _, rfl, rfl, SqT.of ht, rfl, rfl, _, rfl, iteP (by simp) ?_⟩)⟩
        refine ⟨_, rfl, wt, rfl, ⟨_, SqT.of (sE _ _ hwtD)⟩, fun D4 hD4 => ?_⟩
        refine map_tup wish nV (fun x => .bl (decide (x ∈ G))) (sE _ _ hwtD) (by omega) hD4 (fun z hz H' Q' s5' q' => ?_) (fun HF sF hDF => ?_)
        · refine ⟨_, rfl, _, rfl, pa, _, rfl, .inl (SqL.of ((sE.trans s5') _ _ hpaD)), rfl, flat_nats _, ?_⟩
          rw [in_nats]
          exact q' H' Same.rfl'
        refine ⟨D4, wish.map fun x => decide (x ∈ G), rfl, SqL.of (by rw [hDF, List.map_map]; rfl), _, rfl, ?_⟩
        rw [show (wish.map fun x => decide (x ∈ G)).all id = true from List.all_eq_true.mpr fun bb hb => by
          obtain ⟨x, hx, rfl⟩ := List.mem_map.mp hb
          exact decide_eq_true (inG x hx)]
        refine iteF ?_
        have sFE := sE.trans sF
        refine ⟨_, rfl, .inr (.inl ⟨t, _, 1, _, rfl, rfl, SqT.of (sF _ _ ht), rfl, ?_⟩)⟩
        refine ⟨_, rfl, .inr (.inl ⟨t, _, 0, _, rfl, rfl, SqT.of (sF _ _ ht), rfl, rfl, .inr ⟨_, rfl, lt, us, rfl, SqT.of (sF _ _ hlt'), .inr ⟨by simp; decide +kernel, hus, fun e0 he0 => ?_⟩⟩⟩)⟩
        have n0' := same_new he0 (.tup [])
        have SX := sFE.trans n0'
        have htX := (sF.trans n0') _ _ ht
        refine ⟨e0, rfl, ⟨_, SqT.of upd_same⟩, ?_⟩
        generalize he00 : upd HF e0 (.tup []) = HX at *
        refine for_tup (xs := []) (fun i σ H' => H' = HX ∧ σ = [some (.ref p), some (.ref b), some (.ref pa), some (nV sz), some (.ref cl), x5, some (.ref wt), some (.ref t), x8, x9, x10, x11]) ⟨rfl, rfl⟩ (fun i σ H' _ h => by rw [h.1, ← he00]; exact SqT.of upd_same) (fun i x σ H' hx _ => by simp at hx) ?_
        rintro σ H' ⟨rfl, rfl⟩
        have wX := wD.same SX
        have kX := kD.trans (Tk.of SX)
        refine ⟨_, rfl, _, rfl, .inr (.inl ⟨b, _, 0, _, rfl, rfl, SqT.of (kX _ _ j1), rfl, p, U.m, rfl, wX, gU.m1, gU.m9, fun lo o HO oO wO ho lop hlo => ?_⟩)⟩
        have kXO := wX.tk oO
        have hyO := oO cl _ clp (SX _ _ hyD)
        have hpcO : PCs HO cps ys := (hpcD.tk (Tk.of SX)).tk kXO
        have hwtO := kXO _ _ (SX _ _ hwtD)
        have htO := kXO _ _ htX
        have ypl := Paired.length hpcO
        have cp2 : cps.length ≤ 2 := by rw [cl']; decide
        have gx : ∀ i, ∃ t' u' : Addr, i < cps.length → ys[i]? = some (.ref t') ∧ HO t' = some (.tup [.str (cps.getD i ("", [])).1, .ref u']) ∧ HO u' = some (.tup ((cps.getD i ("", [])).2.map nV)) := fun i => by
          by_cases hi : i < cps.length
          · have hc : cps[i]? = some (cps.getD i ("", [])) := by simp [List.getD, hi]
            have hy : ys[i]? = some (ys.getD i .non) := by
              have : i < ys.length := by omega
              simp [List.getD, this]
            obtain ⟨t', u', e1, e2, e3⟩ := Paired.at hpcO i _ _ hc hy
            exact ⟨t', u', fun _ => ⟨by rw [hy, e1], e2, e3⟩⟩
          · exact ⟨0, 0, fun h => absurd h hi⟩
        obtain ⟨ad, gx⟩ := Classical.axiomOfChoice gx
        obtain ⟨au, gx⟩ := Classical.axiomOfChoice gx
        have ge : ∀ i, i < cps.length → cps[i]? = some (cps.getD i ("", [])) := fun i hi => by simp [List.getD, hi]
        have gm : ∀ i, i < cps.length → cps.getD i ("", []) ∈ cps := fun i hi => List.mem_of_getElem? (ge i hi)
        refine ⟨_, rfl, cl, rfl, ⟨_, SqL.of hyO⟩, fun D5 hD5 => ?_⟩
        refine comp_ll2 (n := cps.length) (ad := ad) (v1 := fun i => .str (cps.getD i ("", [])).1) (v2 := fun i => .ref (au i)) (more := [some (.ref lo)]) (fun i zs H' => Same HO H' ∧ zs.length = i ∧ PCs H' ((cps.take i).map fun q => (q.1, ordC o q.2)) zs) ⟨same_new hD5 _, rfl, .nil⟩ (by omega) (fun i hi => (gx i hi).1) (fun i zs H' h _ => SqL.of (h.1 _ _ hyO)) (fun i zs H' hi h => SqT.of (h.1 _ _ (gx i hi).2.1)) ?_ ?_
        · rintro i zs HB' hi ⟨sB, zl, hP⟩ hDB'
          have gq := (hqA _ (gm i hi)).2.1
          refine yes ⟨_, rfl, _, rfl, _, rfl, au i, lo, (cps.getD i ("", [])).2, o, rfl, sB _ _ (gx i hi).2.2, sB _ _ hlo, by have := gq.1; omega, fun x hx => by rw [ho.len]; exact gq.2 x hx, fun tc HC sC htc => ?_⟩
          refine ⟨small9 (by show 2 ≤ 1000; decide), fun tt htt => ?_⟩
          have nT := same_new htt (.tup [.str (cps.getD i ("", [])).1, .ref tc])
          have hDC := (sC.trans nT) _ _ hDB'
          refine cyes hi ⟨_, _, rfl⟩ hDC (small1000 (by omega)) ⟨(sB.trans (sC.trans nT)).put hD5, by rw [List.length_append, zl]; rfl, ?_⟩
          rw [take_snoc (ge i hi), List.map_append]
          exact PCs.tk (Tk.put hDC) (PCs.snoc (p := ((cps.getD i ("", [])).1, ordC o (cps.getD i ("", [])).2)) (hP.tk (Tk.of (sC.trans nT))) upd_same (nT _ _ htc))
        rintro zs HM ⟨sM, zl, hPM⟩ hDM
        rw [List.take_length] at hPM
        refine ⟨D5, _, rfl, .inl ⟨SqL.of hDM, fun tm htm => ?_⟩⟩
        have nM := same_new htm (.tup zs)
        have S1 := sM.trans nM
        have htmM : (upd HM tm (.tup zs)) tm = some (.tup zs) := upd_same
        have hPM1 := hPM.tk (Tk.of nM)
        generalize upd HM tm (.tup zs) = HN at *
        have iuO := (iu.tk kX).tk kXO
        have ol : (ordC o wish).length = wish.length := by unfold ordC; rw [List.length_map]
        have eB : (cps.map fun q => (q.1, ordC o q.2)).map Prod.snd = (cps.map Prod.snd).map (ordC o) := by rw [List.map_map, List.map_map]; rfl
        have gB' : ∀ b' ∈ cps.map Prod.snd, GoodCol U.m wish.length b' := fun b' hb => by
          obtain ⟨q, hq, rfl⟩ := List.mem_map.mp hb
          rw [cj]
          exact (hqA q hq).2.1
        have gw : GoodCol U.m wish.length wish := ⟨rfl, hcm⟩
        have nY : (nmsOf (turnT U o)).Nodup := by rw [← nms_sh (turn_sh U o)]; exact nU
        refine ⟨_, rfl, _, rfl, .ref b, lo, U, o, rfl, iuO.same S1, gU, ho, S1 _ _ hlo, fun y HT sT iT => ?_⟩
        refine ⟨_, rfl, _, rfl, _, rfl, wt, lo, wish, o, rfl, (S1.trans sT) _ _ hwtO, (S1.trans sT) _ _ hlo, by omega, fun x hx => by rw [ho.len]; exact hcm x hx, fun tw HW sW htw => ?_⟩
        have SW := S1.trans (sT.trans sW)
        refine ⟨y, tm, tw, turnT U o, cps.map (fun q => (q.1, ordC o q.2)), zs, ordC o wish, rfl, iT.same sW, gU.turn ho, nY, (sT.trans sW) _ _ htmM, hPM1.tk (Tk.of (sT.trans sW)), fun q hq => ?_, htw, by omega, by omega, by rw [ol, cj]; exact mp, fun hs2 t2 lt2 us2 HZ sZ ht2 hlt2 hus2 => ?_, fun hs2 t2 ut2 bs2 ks2 HZ sZ ht2 hut2 hP2 asc2 hks2 k162 => ?_⟩
        · obtain ⟨q', hq', rfl⟩ := List.mem_map.mp hq
          exact ⟨(hqA q' hq').1, by rw [ol, cj]; exact ord_good ho (hqA q' hq').2.1⟩
        · have SZ := SW.trans sZ
          refine ⟨_, rfl, .inr (.inl ⟨t, _, 0, _, rfl, rfl, SqT.of (SZ _ _ htO), rfl, rfl, _, rfl, iteP (by simp) ?_⟩)⟩
          refine ⟨_, rfl, .inr (.inl ⟨t2, _, 0, _, rfl, rfl, SqT.of ht2, rfl, rfl, ?_⟩)⟩
          rw [decide_eq_true rfl]
          exact q HZ (oHD.trans ((Off.of SX).trans (oO.trans (Off.of SZ))))
        · exact absurd ((sd_ord gU nU ho gB' hsd)) (by rw [ol, eB] at hs2; exact hs2)
      · refine ⟨_, rfl, .inr (.inl ⟨t, _, 0, _, rfl, rfl, SqT.of ht, rfl, rfl, _, rfl, iteN (by simp; decide +kernel) (iteN rfl ?_)⟩)⟩
        have kcol : ∀ col ∈ ks, ∀ x ∈ col, x ∈ G := fun col hc => by
          refine sd_in_part gU nU (fun c hc r hl hr => keep_cell nU hk hc (p2 c hc) hl hr) (len := wish.length) (B := cps.map Prod.snd) (fun b' hb => ?_) (fun b' hb => ?_) ((hks col).mp hc)
          · obtain ⟨q, hq, rfl⟩ := List.mem_map.mp hb
            rw [cj]
            exact (hqA q hq).2.1
          · obtain ⟨q, hq, rfl⟩ := List.mem_map.mp hb
            exact (hqA q hq).2.2
        have kgood : ∀ col ∈ ks, GoodCol U.m wish.length col := fun col hc => sd_good gU nU (fun b' hb => by
          obtain ⟨q, hq, rfl⟩ := List.mem_map.mp hb
          rw [cj]
          exact (hqA q hq).2.1) ((hks col).mp hc)
        have kbl := Paired.length hP
        refine ⟨_, rfl, .inr (.inl ⟨t, _, 1, _, rfl, rfl, SqT.of ht, rfl, ?_⟩)⟩
        refine ⟨_, rfl, .inr (.inl ⟨t, _, 0, _, rfl, rfl, SqT.of ht, rfl, rfl, .inr ⟨_, rfl, ut, bs, rfl, SqT.of hut, .inl ⟨by simp, ?_⟩⟩⟩)⟩
        refine ⟨ut, rfl, ⟨_, SqT.of hut⟩, ?_⟩
        refine for_tup (xs := bs) (fun i σ H' => Same HE H' ∧ ∃ x8, σ = [some (.ref p), some (.ref b), some (.ref pa), some (nV sz), some (.ref cl), x5, some (.ref wt), some (.ref t), x8, x9, x10, x11]) ⟨Same.rfl', _, rfl⟩ (fun i σ H' _ h => SqT.of (h.1 _ _ hut)) ?_ ?_
        · rintro i x σ HF hx ⟨sF, x8, rfl⟩
          have hi : i < ks.length := by rw [kbl]; exact (List.getElem?_eq_some_iff.mp hx).1
          have hki : ks[i]? = some ks[i] := List.getElem?_eq_getElem hi
          generalize ks[i] = col at hki
          obtain ⟨tc, rfl, htc⟩ := Paired.at hP i _ _ hki hx
          have cmem := List.mem_of_getElem? hki
          refine ⟨_, rfl, tc, rfl, ⟨_, SqT.of (sF _ _ htc)⟩, fun D4 hD4 => ?_⟩
          refine map_tup col nV (fun x => .bl (decide (x ∈ G))) (sF _ _ htc) (by have := (kgood col cmem).1; omega) hD4 (fun z hz H' Q' s5' q' => ?_) (fun HG sG hDG => ?_)
          · refine ⟨_, rfl, _, rfl, pa, _, rfl, .inl (SqL.of ((sE.trans (sF.trans s5')) _ _ hpaD)), rfl, flat_nats _, ?_⟩
            rw [in_nats]
            exact q' H' Same.rfl'
          refine ⟨D4, col.map fun x => decide (x ∈ G), rfl, SqL.of (by rw [hDG, List.map_map]; rfl), _, rfl, ?_⟩
          rw [show (col.map fun x => decide (x ∈ G)).all id = true from List.all_eq_true.mpr fun bb hb => by
            obtain ⟨x, hx, rfl⟩ := List.mem_map.mp hb
            exact decide_eq_true (kcol col cmem x hx)]
          exact iteF ⟨sF.trans sG, _, rfl⟩
        rintro σ HX ⟨sX, x8, rfl⟩
        have SX := sE.trans sX
        have htX := sX _ _ ht
        have wX := wD.same SX
        have kX := kD.trans (Tk.of SX)
        refine ⟨_, rfl, _, rfl, .inr (.inl ⟨b, _, 0, _, rfl, rfl, SqT.of (kX _ _ j1), rfl, p, U.m, rfl, wX, gU.m1, gU.m9, fun lo o HO oO wO ho lop hlo => ?_⟩)⟩
        have kXO := wX.tk oO
        have hyO := oO cl _ clp (SX _ _ hyD)
        have hpcO : PCs HO cps ys := (hpcD.tk (Tk.of SX)).tk kXO
        have hwtO := kXO _ _ (SX _ _ hwtD)
        have htO := kXO _ _ htX
        have ypl := Paired.length hpcO
        have cp2 : cps.length ≤ 2 := by rw [cl']; decide
        have gx : ∀ i, ∃ t' u' : Addr, i < cps.length → ys[i]? = some (.ref t') ∧ HO t' = some (.tup [.str (cps.getD i ("", [])).1, .ref u']) ∧ HO u' = some (.tup ((cps.getD i ("", [])).2.map nV)) := fun i => by
          by_cases hi : i < cps.length
          · have hc : cps[i]? = some (cps.getD i ("", [])) := by simp [List.getD, hi]
            have hy : ys[i]? = some (ys.getD i .non) := by
              have : i < ys.length := by omega
              simp [List.getD, this]
            obtain ⟨t', u', e1, e2, e3⟩ := Paired.at hpcO i _ _ hc hy
            exact ⟨t', u', fun _ => ⟨by rw [hy, e1], e2, e3⟩⟩
          · exact ⟨0, 0, fun h => absurd h hi⟩
        obtain ⟨ad, gx⟩ := Classical.axiomOfChoice gx
        obtain ⟨au, gx⟩ := Classical.axiomOfChoice gx
        have ge : ∀ i, i < cps.length → cps[i]? = some (cps.getD i ("", [])) := fun i hi => by simp [List.getD, hi]
        have gm : ∀ i, i < cps.length → cps.getD i ("", []) ∈ cps := fun i hi => List.mem_of_getElem? (ge i hi)
        refine ⟨_, rfl, cl, rfl, ⟨_, SqL.of hyO⟩, fun D5 hD5 => ?_⟩
        refine comp_ll2 (n := cps.length) (ad := ad) (v1 := fun i => .str (cps.getD i ("", [])).1) (v2 := fun i => .ref (au i)) (more := [some (.ref lo)]) (fun i zs H' => Same HO H' ∧ zs.length = i ∧ PCs H' ((cps.take i).map fun q => (q.1, ordC o q.2)) zs) ⟨same_new hD5 _, rfl, .nil⟩ (by omega) (fun i hi => (gx i hi).1) (fun i zs H' h _ => SqL.of (h.1 _ _ hyO)) (fun i zs H' hi h => SqT.of (h.1 _ _ (gx i hi).2.1)) ?_ ?_
        · rintro i zs HB' hi ⟨sB, zl, hP⟩ hDB'
          have gq := (hqA _ (gm i hi)).2.1
          refine yes ⟨_, rfl, _, rfl, _, rfl, au i, lo, (cps.getD i ("", [])).2, o, rfl, sB _ _ (gx i hi).2.2, sB _ _ hlo, by have := gq.1; omega, fun x hx => by rw [ho.len]; exact gq.2 x hx, fun tc HC sC htc => ?_⟩
          refine ⟨small9 (by show 2 ≤ 1000; decide), fun tt htt => ?_⟩
          have nT := same_new htt (.tup [.str (cps.getD i ("", [])).1, .ref tc])
          have hDC := (sC.trans nT) _ _ hDB'
          refine cyes hi ⟨_, _, rfl⟩ hDC (small1000 (by omega)) ⟨(sB.trans (sC.trans nT)).put hD5, by rw [List.length_append, zl]; rfl, ?_⟩
          rw [take_snoc (ge i hi), List.map_append]
          exact PCs.tk (Tk.put hDC) (PCs.snoc (p := ((cps.getD i ("", [])).1, ordC o (cps.getD i ("", [])).2)) (hP.tk (Tk.of (sC.trans nT))) upd_same (nT _ _ htc))
        rintro zs HM ⟨sM, zl, hPM⟩ hDM
        rw [List.take_length] at hPM
        refine ⟨D5, _, rfl, .inl ⟨SqL.of hDM, fun tm htm => ?_⟩⟩
        have nM := same_new htm (.tup zs)
        have S1 := sM.trans nM
        have htmM : (upd HM tm (.tup zs)) tm = some (.tup zs) := upd_same
        have hPM1 := hPM.tk (Tk.of nM)
        generalize upd HM tm (.tup zs) = HN at *
        have iuO := (iu.tk kX).tk kXO
        have ol : (ordC o wish).length = wish.length := by unfold ordC; rw [List.length_map]
        have eB : (cps.map fun q => (q.1, ordC o q.2)).map Prod.snd = (cps.map Prod.snd).map (ordC o) := by rw [List.map_map, List.map_map]; rfl
        have gB' : ∀ b' ∈ cps.map Prod.snd, GoodCol U.m wish.length b' := fun b' hb => by
          obtain ⟨q, hq, rfl⟩ := List.mem_map.mp hb
          rw [cj]
          exact (hqA q hq).2.1
        have gw : GoodCol U.m wish.length wish := ⟨rfl, hcm⟩
        have nY : (nmsOf (turnT U o)).Nodup := by rw [← nms_sh (turn_sh U o)]; exact nU
        refine ⟨_, rfl, _, rfl, .ref b, lo, U, o, rfl, iuO.same S1, gU, ho, S1 _ _ hlo, fun y HT sT iT => ?_⟩
        refine ⟨_, rfl, _, rfl, _, rfl, wt, lo, wish, o, rfl, (S1.trans sT) _ _ hwtO, (S1.trans sT) _ _ hlo, by omega, fun x hx => by rw [ho.len]; exact hcm x hx, fun tw HW sW htw => ?_⟩
        have SW := S1.trans (sT.trans sW)
        refine ⟨y, tm, tw, turnT U o, cps.map (fun q => (q.1, ordC o q.2)), zs, ordC o wish, rfl, iT.same sW, gU.turn ho, nY, (sT.trans sW) _ _ htmM, hPM1.tk (Tk.of (sT.trans sW)), fun q hq => ?_, htw, by omega, by omega, by rw [ol, cj]; exact mp, fun hs2 t2 lt2 us2 HZ sZ ht2 hlt2 hus2 => ?_, fun hs2 t2 ut2 bs2 ks2 HZ sZ ht2 hut2 hP2 asc2 hks2 k162 => ?_⟩
        · obtain ⟨q', hq', rfl⟩ := List.mem_map.mp hq
          exact ⟨(hqA q' hq').1, by rw [ol, cj]; exact ord_good ho (hqA q' hq').2.1⟩
        · have := sd_back gU nU ho gB' (by rw [ol, eB] at hs2; exact hs2)
          rw [ord_back ho gw] at this
          exact absurd this hsd
        have SZ := SW.trans sZ
        have htZ := SZ _ _ htO
        refine ⟨_, rfl, .inr (.inl ⟨t, _, 0, _, rfl, rfl, SqT.of htZ, rfl, rfl, _, rfl, iteN (by simp; decide +kernel) ?_⟩)⟩
        have hutZ := SZ _ _ (kXO _ _ (sX _ _ hut))
        have hPZ : Paired (ColV HZ) ks bs := ColVs.tk (Tk.of SZ) (ColVs.tk kXO (ColVs.tk (Tk.of sX) hP))
        have hloZ := SZ _ _ hlo
        refine ⟨_, rfl, _, rfl, .inr (.inl ⟨t, _, 1, _, rfl, rfl, SqT.of htZ, rfl, ut, rfl, ⟨_, SqT.of hutZ⟩, fun D6 hD6 => ?_⟩)⟩
        refine comp_tup (xs := bs) (fun i zs' H' => Same HZ H' ∧ zs'.length = i ∧ Paired (ColV H') ((ks.take i).map (ordC o)) zs') ⟨same_new hD6 _, rfl, .nil⟩ (fun i zs' H' h _ => SqT.of (h.1 _ _ hutZ)) ?_ ?_
        · rintro i zs' HF x hx ⟨sF, zl', hPF⟩ hDF
          have hi : i < ks.length := by rw [kbl]; exact (List.getElem?_eq_some_iff.mp hx).1
          have hki : ks[i]? = some ks[i] := List.getElem?_eq_getElem hi
          generalize ks[i] = col at hki
          obtain ⟨tc, rfl, htc⟩ := Paired.at hPZ i _ _ hki hx
          have cmem := List.mem_of_getElem? hki
          have gc := kgood col cmem
          refine yes ⟨_, rfl, _, rfl, tc, lo, col, o, rfl, sF _ _ htc, sF _ _ hloZ, by have := gc.1; omega, fun x hx => by rw [ho.len]; exact gc.2 x hx, fun t3 HG sG ht3 => ?_⟩
          have hDG := sG _ _ hDF
          refine cyes (by omega) rset1 hDG (small1000 (by omega)) ⟨(sF.trans sG).put hD6, by rw [List.length_append, zl']; rfl, ?_⟩
          rw [take_snoc hki, List.map_append]
          exact paired_app (ColVs.tk (Tk.put hDG) (ColVs.tk (Tk.of sG) hPF)) (.cons ⟨t3, rfl, Tk.put hDG _ _ ht3⟩ .nil)
        rintro zs' HF ⟨sF, zl', hPF⟩ hDF
        rw [← kbl, List.take_length] at hPF
        have nd : ks.Nodup := List.Pairwise.imp (fun {x y} (e : lexB x y = true) (z : x = y) => by
          have := lex_asym _ _ e
          rw [z] at this e
          rw [e] at this
          cases this) asc
        refine ⟨D6, zs', ks.map (ordC o), wish.length, rfl, SqL.of hDF, hPF, fun k hk' => ?_, by omega, ?_, by rw [List.length_map]; omega, fun l bs3 ks3 hl hP3 per asc3 => ?_⟩
        · obtain ⟨c, hc, rfl⟩ := List.mem_map.mp hk'
          exact (ord_good ho (kgood c hc)).1
        · refine List.Pairwise.map _ ?_ (List.Pairwise.and_mem.mp nd)
          rintro x y ⟨hx, hy, ne⟩ e
          exact ne (ord_inj ho (kgood x hx) (kgood y hy) e)
        have n7 := same_new hl (.lst bs3)
        refine ⟨l, _, rfl, .inl ⟨SqL.of upd_same, fun tl htl => ?_⟩⟩
        have n8 := same_new htl (.tup bs3)
        refine ⟨small9 (by show 2 ≤ 1000; decide), fun t9 ht9 => ?_⟩
        have n9' := same_new ht9 (.tup [.str "unsaid", .ref tl])
        have S9 := n7.trans (n8.trans n9')
        have ek : ks2 = ks3 := lex_unique asc2 asc3 fun x => by
          rw [hks2, per.mem_iff, ol, eB]
          constructor
          · intro h
            refine List.mem_map.mpr ⟨_, (hks _).mpr (sd_back gU nU ho gB' h), ?_⟩
            have gx2 : GoodCol (turnT U o).m wish.length x := sd_good (gU.turn ho) nY (fun b' hb => by
              obtain ⟨c, hc, rfl⟩ := List.mem_map.mp hb
              exact ord_good ho (gB' c hc)) h
            exact ord_fwd ho gx2
          · intro h
            obtain ⟨c, hc, rfl⟩ := List.mem_map.mp h
            exact sd_ord gU nU ho gB' ((hks c).mp hc)
        have SF9 := sF.trans S9
        refine ⟨t2, t9, _, _, rfl, rfl, SF9 _ _ ht2, upd_same, .cons (.inl ⟨rfl, rfl⟩) (.cons (.inr ⟨ut2, tl, _, _, rfl, rfl, SF9 _ _ hut2, n9' _ _ upd_same, ?_⟩) .nil), ?_⟩
        · rw [ek] at hP2
          exact colv_alike (ColVs.tk (Tk.of SF9) hP2) (ColVs.tk (Tk.of S9) hP3)
        exact q _ (oHD.trans ((Off.of SX).trans (oO.trans (Off.of (SZ.trans SF9)))))
  | cons w0 ws =>
    refine iteN rfl ?_
    have hG : Pt T0.m (w0 :: ws) := ⟨by simp, wr, wl⟩
    have pap : D ≠ p := Ne.symm pD
    have wP := w3
    have kP := k3
    have oP := o3
    generalize D = pa at *
    have hpaP := hD3
    generalize (w0 :: ws) = G at *
    generalize H3 = HP at *
    have i0P := i0.tk kP
    refine ⟨_, rfl, _, rfl, .ref a, pa, T0, G, rfl, i0P, g0, hG, hpaP, fun u U H5 s5 gU em esh hk iu => ?_⟩
    have nU : (nmsOf U).Nodup := nms_sh esh ▸ n0
    have hGU : Pt U.m G := by rw [em]; exact hG
    obtain ⟨b, wb, cb, vsB, rfl, j1, j2, j3, j4⟩ := id iu
    have w5 := wP.same s5
    have hpa5 := s5 _ _ hpaP
    have p2 : ∀ c ∈ U.cs, c.pl ≤ 2 := fun c hc => (gU.cn c hc).2.1
    have m4' : U.m ≤ 4 := by rw [em]; exact m4
    refine ⟨_, rfl, p, 2, rfl, w5, by decide, by decide, fun v2 H7 v21 o7 w7 => ⟨_, _, rfl, rfl, ?_⟩⟩
    obtain ⟨sz, esz, sz1, sz2⟩ : ∃ sz : Nat, V.int (1 + (v2 : Int)) = nV sz ∧ 1 ≤ sz ∧ sz ≤ 2 := ⟨1 + v2, by show V.int _ = V.int _; rw [Int.natCast_add]; rfl, by omega, by omega⟩
    dsimp only
    rw [esz]
    refine ⟨small9 (by show 0 ≤ 1000; decide), fun cl hcl => ?_⟩
    have n8 := same_new hcl (.lst [])
    have w8 := w7.same n8
    have clp : cl ≠ p := Ne.symm (w7.ne hcl)
    refine ⟨small9 (by show 2 ≤ 1000; decide), fun L0 hL0 => ⟨L0, rfl, ⟨_, SqL.of upd_same⟩, ?_⟩⟩
    have n9 := same_new hL0 (.lst [V.str "p", V.str "q"])
    have w9 := w8.same n9
    have L0p : L0 ≠ p := Ne.symm (w8.ne hL0)
    have L0c : L0 ≠ cl := fun z => by
      rw [z, upd_same] at hL0
      cases hL0
    have o59 : Off p H5 (upd (upd H7 cl (.lst [])) L0 (.lst [V.str "p", V.str "q"])) := o7.trans ((Off.of n8).trans (Off.of n9))
    have hpa9 := o59 pa _ pap hpa5
    have k59 := w5.tk o59
    have pac : pa ≠ cl := fun z => by
      have := o7 pa _ pap hpa5
      rw [z, hcl] at this
      cases this
    refine for_list (xs := [V.str "p", V.str "q"]) (fun i σ H' => (∃ x5 x6 x7 x8 x9 x10 x11, σ = [some (.ref p), some (.ref b), some (.ref pa), some (nV sz), some (.ref cl), x5, x6, x7, x8, x9, x10, x11]) ∧ (∀ bb oo, bb ≠ p → bb ≠ cl → (upd (upd H7 cl (.lst [])) L0 (.lst [V.str "p", V.str "q"])) bb = some oo → H' bb = some oo) ∧ Wel H' p ∧ ∃ cps ys, H' cl = some (.lst ys) ∧ PCs H' cps ys ∧ cps.length = i ∧ ∀ q ∈ cps, Ltr q.1 ∧ GoodCol U.m sz q.2 ∧ ∀ x ∈ q.2, x ∈ G) ⟨⟨_, _, _, _, _, _, _, rfl⟩, (fun bb oo _ _ h => h), w9, [], [], n9 _ _ upd_same, .nil, rfl, fun q h => by cases h⟩ (fun i σ H' _ h => SqL.of (h.2.1 _ _ L0p L0c upd_same)) ?_ ?_
    · rintro i x σ HA hx ⟨⟨x5, x6, x7, x8, x9, x10, x11, rfl⟩, oA, wA, cps, ys, hyA, hpA, cl', hqA⟩
      have hpaA := oA _ _ pap pac hpa9
      obtain ⟨lt, rfl, hlt⟩ : ∃ lt : Str, x = .str lt ∧ Ltr lt := by
        match i, hx with
        | 0, hx => exact ⟨"p", by simpa using hx.symm, ltr_of (c := 112) (by decide +kernel) (by decide) (by decide)⟩
        | 1, hx => exact ⟨"q", by simpa using hx.symm, ltr_of (c := 113) (by decide +kernel) (by decide) (by decide)⟩
      have i2 : i < 2 := (List.getElem?_eq_some_iff.mp hx).1
      have ypl := Paired.length hpA
      refine ⟨_, rfl, .inl ⟨rfl, _, SqL.of hyA⟩, _, rfl, _, rfl, (sz : Int), rfl, by omega, by omega, fun D2 hD2 => ?_⟩
      rw [Int.toNat_natCast]
      have pD2 := wA.ne hD2
      have gp : 0 < G.length := hGU.ne
      have gl4 : G.length ≤ 9 := Nat.le_trans hGU.len (by omega)
      have hml : ((G.map nV).length : Int) = (G.length : Int) := by rw [List.length_map]
      refine comp_range (fun j zs H' => ∃ col : List Nat, zs = col.map nV ∧ col.length = j ∧ (∀ x ∈ col, x ∈ G) ∧ Off p HA H' ∧ Wel H' p) ⟨[], rfl, rfl, (fun x h => by cases h), Off.new hD2, wA.off pD2⟩ ?_ ?_
      · rintro j zs HB hj ⟨col, rfl, cj, hcG, oB, wB⟩ hDB
        have hpaB := oB pa _ pap hpaA
        refine yes ⟨_, rfl, _, rfl, _, rfl, _, _, rfl, .inl ⟨_, SqL.of hpaB, rfl⟩, p, G.length, by (show [V.ref p, V.int ((G.map nV).length : Int)] = _; rw [hml]), wB, by omega, by omega, fun v3 HC v31 oC wC => ?_⟩
        have hpaC := oC pa _ pap hpaB
        have hDC := oC D2 _ (Ne.symm pD2) hDB
        refine .inl ⟨pa, _, _, _, rfl, rfl, SqL.of hpaC, at_nV v31, ?_⟩
        refine cyes hj rset1 hDC (by rw [List.length_map]; exact small1000 (by omega)) ⟨col ++ [Tn.at' G v3], by rw [List.map_append]; rfl, by rw [List.length_append, cj]; rfl, fun x hx => ?_, (oB.trans oC).fresh hD2, wC.off pD2⟩
        rcases List.mem_append.mp hx with h | h
        · exact hcG x h
        · rw [List.mem_singleton.mp h]
          exact List.mem_of_getElem? (Tn.at_map v31)
      · rintro zs HB ⟨col, rfl, cj, hcG, oB, wB⟩ hDB
        refine ⟨D2, _, rfl, .inl ⟨SqL.of hDB, fun tc htc => ?_⟩⟩
        have nC := same_new htc (.tup (col.map nV))
        refine ⟨small9 (by show 2 ≤ 1000; decide), fun tt htt => ?_⟩
        have nD := same_new htt (.tup [.str lt, .ref tc])
        have nCD := nC.trans nD
        have hyB := nCD _ _ (oB cl _ clp hyA)
        have kB := (wA.tk oB).trans (Tk.of nCD)
        refine ⟨cl, _, _, rfl, rfl, hyB, small1000 (by omega), ⟨⟨_, _, _, _, _, _, _, rfl⟩, (fun bb oo h1 h2 h => ?_), (wB.same nCD).off (Ne.symm clp), cps ++ [(lt, col)], _, upd_same, ?_, by rw [List.length_append, cl']; rfl, fun q hq => ?_⟩⟩
        · rw [upd_ne h2]
          exact nCD _ _ (oB bb _ h1 (oA bb oo h1 h2 h))
        · exact PCs.tk (Tk.put hyB) (PCs.snoc (hpA.tk kB) upd_same (nD _ _ upd_same))
        · rcases List.mem_append.mp hq with h | h
          · exact hqA q h
          · rw [List.mem_singleton.mp h]
            exact ⟨hlt, ⟨cj, fun x hx => hGU.lt x (hcG x hx)⟩, hcG⟩
    · rintro σ HA ⟨⟨x5, x6, x7, x8, x9, x10, x11, rfl⟩, oA, wA, cps, ys, hyA, hpA, cl', hqA⟩
      have kA : Tk H5 HA := fun bb xs h => by
        have h9 := k59 _ _ h
        have e1 : bb ≠ p := fun z => by
          obtain ⟨_, _, e⟩ := w9
          rw [z, e] at h9
          cases h9
        have e2 : bb ≠ cl := fun z => by
          rw [z, n9 _ _ upd_same] at h9
          cases h9
        exact oA _ _ e1 e2 h9
      have hpaA := oA _ _ pap pac hpa9
      have oHA : Off p H HA := fun bb oo hb e => oA bb oo hb (fun z => by
        have := (oP.trans ((Off.of s5).trans o7)) bb oo hb e
        rw [z, hcl] at this
        cases this) (o59 bb oo hb ((oP.trans (Off.of s5)) bb oo hb e))
      refine ⟨_, rfl, (sz : Int), rfl, by omega, by omega, fun D3 hD3 => ?_⟩
      rw [Int.toNat_natCast]
      have pD3 := wA.ne hD3
      have um1 := gU.m1
      refine comp_range (fun j zs H' => ∃ col : List Nat, zs = col.map nV ∧ col.length = j ∧ (∀ x ∈ col, x < U.m) ∧ Off p HA H' ∧ Wel H' p) ⟨[], rfl, rfl, (fun x h => by cases h), Off.new hD3, wA.off pD3⟩ ?_ ?_
      · rintro j zs HB hj ⟨col, rfl, cj, hcm, oB, wB⟩ hDB
        refine yes ⟨_, rfl, _, rfl, .inr (.inl ⟨b, _, 0, _, rfl, rfl, SqT.of ((kA.trans (wA.tk oB)) _ _ j1), rfl, p, U.m, rfl, wB, by omega, by omega, fun v3 HC v31 oC wC => ?_⟩)⟩
        have hDC := oC D3 _ (Ne.symm pD3) hDB
        refine cyes hj rset1 hDC (by rw [List.length_map]; exact small1000 (by omega)) ⟨col ++ [v3], by rw [List.map_append]; rfl, by rw [List.length_append, cj]; rfl, fun x hx => ?_, (oB.trans oC).fresh hD3, wC.off pD3⟩
        rcases List.mem_append.mp hx with h | h
        · exact hcm x h
        · rw [List.mem_singleton.mp h]
          exact v31
      rintro zs HB ⟨wish, rfl, cj, hcm, oB, wB⟩ hDB
      refine ⟨D3, _, rfl, .inl ⟨SqL.of hDB, fun wt hwt => ?_⟩⟩
      have nC := same_new hwt (.tup (wish.map nV))
      have hyC := nC _ _ (oB cl _ clp hyA)
      have kC := (kA.trans (wA.tk oB)).trans (Tk.of nC)
      refine ⟨_, rfl, _, rfl, cl, ys, rfl, .inl ⟨SqL.of hyC, fun ct hct => ?_⟩⟩
      have nD := same_new hct (.tup ys)
      have kD := kC.trans (Tk.of nD)
      have hpcD : PCs (upd (upd HB wt (.tup (wish.map nV))) ct (.tup ys)) cps ys := hpA.tk (((wA.tk oB).trans (Tk.of nC)).trans (Tk.of nD))
      have gB : ∀ q ∈ cps, Ltr q.1 ∧ GoodCol U.m sz q.2 := fun q hq => ⟨(hqA q hq).1, (hqA q hq).2.1⟩
      have mp : U.m ^ sz ≤ 16 := Nat.le_trans (Nat.pow_le_pow_left m4' sz) (Nat.le_trans (Nat.pow_le_pow_right (by decide) sz2) (by decide))
      have hwtD : (upd (upd HB wt (.tup (wish.map nV))) ct (.tup ys)) wt = some (.tup (wish.map nV)) := nD _ _ upd_same
      have hctD : (upd (upd HB wt (.tup (wish.map nV))) ct (.tup ys)) ct = some (.tup ys) := upd_same
      have wD := (wB.same nC).same nD
      have hyD := nD _ _ hyC
      have hpaD := nD _ _ (nC _ _ (oB pa _ pap hpaA))
      generalize upd (upd HB wt (.tup (wish.map nV))) ct (.tup ys) = HD at *
      have oHD : Off p H HD := oHA.trans (oB.trans ((Off.of nC).trans (Off.of nD)))
      refine ⟨_, rfl, .ref b, ct, wt, U, cps, ys, wish, rfl, iu.tk kD, gU, nU, hctD, hpcD, (by rw [cj]; exact gB), hwtD, by omega, by omega, by rw [cj]; exact mp, fun hsd t lt us HE sE ht hlt' hus => ?_, fun hsd t ut bs ks HE sE ht hut hP asc hks k16 => ?_⟩
      · have inG : ∀ x ∈ wish, x ∈ G := by
          refine sd_in_part gU nU (fun c hc r hl hr => keep_cell nU hk hc (p2 c hc) hl hr) (len := wish.length) (B := cps.map Prod.snd) (fun b' hb => ?_) (fun b' hb => ?_) hsd
          · obtain ⟨q, hq, rfl⟩ := List.mem_map.mp hb
            rw [cj]
            exact (hqA q hq).2.1
          · obtain ⟨q, hq, rfl⟩ := List.mem_map.mp hb
            exact (hqA q hq).2.2
        refine ⟨_, rfl, .inr (.inl ⟨t, _, 0, _, rfl, rfl, SqT.of ht, rfl, rfl, _, rfl, iteP (by simp) ?_⟩)⟩
        refine ⟨_, rfl, wt, rfl, ⟨_, SqT.of (sE _ _ hwtD)⟩, fun D4 hD4 => ?_⟩
        refine map_tup wish nV (fun x => .bl (decide (x ∈ G))) (sE _ _ hwtD) (by omega) hD4 (fun z hz H' Q' s5' q' => ?_) (fun HF sF hDF => ?_)
        · refine ⟨_, rfl, _, rfl, pa, _, rfl, .inl (SqL.of ((sE.trans s5') _ _ hpaD)), rfl, flat_nats _, ?_⟩
          rw [in_nats]
          exact q' H' Same.rfl'
        refine ⟨D4, wish.map fun x => decide (x ∈ G), rfl, SqL.of (by rw [hDF, List.map_map]; rfl), _, rfl, ?_⟩
        rw [show (wish.map fun x => decide (x ∈ G)).all id = true from List.all_eq_true.mpr fun bb hb => by
          obtain ⟨x, hx, rfl⟩ := List.mem_map.mp hb
          exact decide_eq_true (inG x hx)]
        refine iteF ?_
        have sFE := sE.trans sF
        refine ⟨_, rfl, .inr (.inl ⟨t, _, 1, _, rfl, rfl, SqT.of (sF _ _ ht), rfl, ?_⟩)⟩
        refine ⟨_, rfl, .inr (.inl ⟨t, _, 0, _, rfl, rfl, SqT.of (sF _ _ ht), rfl, rfl, .inr ⟨_, rfl, lt, us, rfl, SqT.of (sF _ _ hlt'), .inr ⟨by simp; decide +kernel, hus, fun e0 he0 => ?_⟩⟩⟩)⟩
        have n0' := same_new he0 (.tup [])
        have SX := sFE.trans n0'
        have htX := (sF.trans n0') _ _ ht
        refine ⟨e0, rfl, ⟨_, SqT.of upd_same⟩, ?_⟩
        generalize he00 : upd HF e0 (.tup []) = HX at *
        refine for_tup (xs := []) (fun i σ H' => H' = HX ∧ σ = [some (.ref p), some (.ref b), some (.ref pa), some (nV sz), some (.ref cl), x5, some (.ref wt), some (.ref t), x8, x9, x10, x11]) ⟨rfl, rfl⟩ (fun i σ H' _ h => by rw [h.1, ← he00]; exact SqT.of upd_same) (fun i x σ H' hx _ => by simp at hx) ?_
        rintro σ H' ⟨rfl, rfl⟩
        have wX := wD.same SX
        have kX := kD.trans (Tk.of SX)
        refine ⟨_, rfl, _, rfl, .inr (.inl ⟨b, _, 0, _, rfl, rfl, SqT.of (kX _ _ j1), rfl, p, U.m, rfl, wX, gU.m1, gU.m9, fun lo o HO oO wO ho lop hlo => ?_⟩)⟩
        have kXO := wX.tk oO
        have hyO := oO cl _ clp (SX _ _ hyD)
        have hpcO : PCs HO cps ys := (hpcD.tk (Tk.of SX)).tk kXO
        have hwtO := kXO _ _ (SX _ _ hwtD)
        have htO := kXO _ _ htX
        have ypl := Paired.length hpcO
        have cp2 : cps.length ≤ 2 := by rw [cl']; decide
        have gx : ∀ i, ∃ t' u' : Addr, i < cps.length → ys[i]? = some (.ref t') ∧ HO t' = some (.tup [.str (cps.getD i ("", [])).1, .ref u']) ∧ HO u' = some (.tup ((cps.getD i ("", [])).2.map nV)) := fun i => by
          by_cases hi : i < cps.length
          · have hc : cps[i]? = some (cps.getD i ("", [])) := by simp [List.getD, hi]
            have hy : ys[i]? = some (ys.getD i .non) := by
              have : i < ys.length := by omega
              simp [List.getD, this]
            obtain ⟨t', u', e1, e2, e3⟩ := Paired.at hpcO i _ _ hc hy
            exact ⟨t', u', fun _ => ⟨by rw [hy, e1], e2, e3⟩⟩
          · exact ⟨0, 0, fun h => absurd h hi⟩
        obtain ⟨ad, gx⟩ := Classical.axiomOfChoice gx
        obtain ⟨au, gx⟩ := Classical.axiomOfChoice gx
        have ge : ∀ i, i < cps.length → cps[i]? = some (cps.getD i ("", [])) := fun i hi => by simp [List.getD, hi]
        have gm : ∀ i, i < cps.length → cps.getD i ("", []) ∈ cps := fun i hi => List.mem_of_getElem? (ge i hi)
        refine ⟨_, rfl, cl, rfl, ⟨_, SqL.of hyO⟩, fun D5 hD5 => ?_⟩
        refine comp_ll2 (n := cps.length) (ad := ad) (v1 := fun i => .str (cps.getD i ("", [])).1) (v2 := fun i => .ref (au i)) (more := [some (.ref lo)]) (fun i zs H' => Same HO H' ∧ zs.length = i ∧ PCs H' ((cps.take i).map fun q => (q.1, ordC o q.2)) zs) ⟨same_new hD5 _, rfl, .nil⟩ (by omega) (fun i hi => (gx i hi).1) (fun i zs H' h _ => SqL.of (h.1 _ _ hyO)) (fun i zs H' hi h => SqT.of (h.1 _ _ (gx i hi).2.1)) ?_ ?_
        · rintro i zs HB' hi ⟨sB, zl, hP⟩ hDB'
          have gq := (hqA _ (gm i hi)).2.1
          refine yes ⟨_, rfl, _, rfl, _, rfl, au i, lo, (cps.getD i ("", [])).2, o, rfl, sB _ _ (gx i hi).2.2, sB _ _ hlo, by have := gq.1; omega, fun x hx => by rw [ho.len]; exact gq.2 x hx, fun tc HC sC htc => ?_⟩
          refine ⟨small9 (by show 2 ≤ 1000; decide), fun tt htt => ?_⟩
          have nT := same_new htt (.tup [.str (cps.getD i ("", [])).1, .ref tc])
          have hDC := (sC.trans nT) _ _ hDB'
          refine cyes hi ⟨_, _, rfl⟩ hDC (small1000 (by omega)) ⟨(sB.trans (sC.trans nT)).put hD5, by rw [List.length_append, zl]; rfl, ?_⟩
          rw [take_snoc (ge i hi), List.map_append]
          exact PCs.tk (Tk.put hDC) (PCs.snoc (p := ((cps.getD i ("", [])).1, ordC o (cps.getD i ("", [])).2)) (hP.tk (Tk.of (sC.trans nT))) upd_same (nT _ _ htc))
        rintro zs HM ⟨sM, zl, hPM⟩ hDM
        rw [List.take_length] at hPM
        refine ⟨D5, _, rfl, .inl ⟨SqL.of hDM, fun tm htm => ?_⟩⟩
        have nM := same_new htm (.tup zs)
        have S1 := sM.trans nM
        have htmM : (upd HM tm (.tup zs)) tm = some (.tup zs) := upd_same
        have hPM1 := hPM.tk (Tk.of nM)
        generalize upd HM tm (.tup zs) = HN at *
        have iuO := (iu.tk kX).tk kXO
        have ol : (ordC o wish).length = wish.length := by unfold ordC; rw [List.length_map]
        have eB : (cps.map fun q => (q.1, ordC o q.2)).map Prod.snd = (cps.map Prod.snd).map (ordC o) := by rw [List.map_map, List.map_map]; rfl
        have gB' : ∀ b' ∈ cps.map Prod.snd, GoodCol U.m wish.length b' := fun b' hb => by
          obtain ⟨q, hq, rfl⟩ := List.mem_map.mp hb
          rw [cj]
          exact (hqA q hq).2.1
        have gw : GoodCol U.m wish.length wish := ⟨rfl, hcm⟩
        have nY : (nmsOf (turnT U o)).Nodup := by rw [← nms_sh (turn_sh U o)]; exact nU
        refine ⟨_, rfl, _, rfl, .ref b, lo, U, o, rfl, iuO.same S1, gU, ho, S1 _ _ hlo, fun y HT sT iT => ?_⟩
        refine ⟨_, rfl, _, rfl, _, rfl, wt, lo, wish, o, rfl, (S1.trans sT) _ _ hwtO, (S1.trans sT) _ _ hlo, by omega, fun x hx => by rw [ho.len]; exact hcm x hx, fun tw HW sW htw => ?_⟩
        have SW := S1.trans (sT.trans sW)
        refine ⟨y, tm, tw, turnT U o, cps.map (fun q => (q.1, ordC o q.2)), zs, ordC o wish, rfl, iT.same sW, gU.turn ho, nY, (sT.trans sW) _ _ htmM, hPM1.tk (Tk.of (sT.trans sW)), fun q hq => ?_, htw, by omega, by omega, by rw [ol, cj]; exact mp, fun hs2 t2 lt2 us2 HZ sZ ht2 hlt2 hus2 => ?_, fun hs2 t2 ut2 bs2 ks2 HZ sZ ht2 hut2 hP2 asc2 hks2 k162 => ?_⟩
        · obtain ⟨q', hq', rfl⟩ := List.mem_map.mp hq
          exact ⟨(hqA q' hq').1, by rw [ol, cj]; exact ord_good ho (hqA q' hq').2.1⟩
        · have SZ := SW.trans sZ
          refine ⟨_, rfl, .inr (.inl ⟨t, _, 0, _, rfl, rfl, SqT.of (SZ _ _ htO), rfl, rfl, _, rfl, iteP (by simp) ?_⟩)⟩
          refine ⟨_, rfl, .inr (.inl ⟨t2, _, 0, _, rfl, rfl, SqT.of ht2, rfl, rfl, ?_⟩)⟩
          rw [decide_eq_true rfl]
          exact q HZ (oHD.trans ((Off.of SX).trans (oO.trans (Off.of SZ))))
        · exact absurd ((sd_ord gU nU ho gB' hsd)) (by rw [ol, eB] at hs2; exact hs2)
      · refine ⟨_, rfl, .inr (.inl ⟨t, _, 0, _, rfl, rfl, SqT.of ht, rfl, rfl, _, rfl, iteN (by simp; decide +kernel) (iteN rfl ?_)⟩)⟩
        have kcol : ∀ col ∈ ks, ∀ x ∈ col, x ∈ G := fun col hc => by
          refine sd_in_part gU nU (fun c hc r hl hr => keep_cell nU hk hc (p2 c hc) hl hr) (len := wish.length) (B := cps.map Prod.snd) (fun b' hb => ?_) (fun b' hb => ?_) ((hks col).mp hc)
          · obtain ⟨q, hq, rfl⟩ := List.mem_map.mp hb
            rw [cj]
            exact (hqA q hq).2.1
          · obtain ⟨q, hq, rfl⟩ := List.mem_map.mp hb
            exact (hqA q hq).2.2
        have kgood : ∀ col ∈ ks, GoodCol U.m wish.length col := fun col hc => sd_good gU nU (fun b' hb => by
          obtain ⟨q, hq, rfl⟩ := List.mem_map.mp hb
          rw [cj]
          exact (hqA q hq).2.1) ((hks col).mp hc)
        have kbl := Paired.length hP
        refine ⟨_, rfl, .inr (.inl ⟨t, _, 1, _, rfl, rfl, SqT.of ht, rfl, ?_⟩)⟩
        refine ⟨_, rfl, .inr (.inl ⟨t, _, 0, _, rfl, rfl, SqT.of ht, rfl, rfl, .inr ⟨_, rfl, ut, bs, rfl, SqT.of hut, .inl ⟨by simp, ?_⟩⟩⟩)⟩
        refine ⟨ut, rfl, ⟨_, SqT.of hut⟩, ?_⟩
        refine for_tup (xs := bs) (fun i σ H' => Same HE H' ∧ ∃ x8, σ = [some (.ref p), some (.ref b), some (.ref pa), some (nV sz), some (.ref cl), x5, some (.ref wt), some (.ref t), x8, x9, x10, x11]) ⟨Same.rfl', _, rfl⟩ (fun i σ H' _ h => SqT.of (h.1 _ _ hut)) ?_ ?_
        · rintro i x σ HF hx ⟨sF, x8, rfl⟩
          have hi : i < ks.length := by rw [kbl]; exact (List.getElem?_eq_some_iff.mp hx).1
          have hki : ks[i]? = some ks[i] := List.getElem?_eq_getElem hi
          generalize ks[i] = col at hki
          obtain ⟨tc, rfl, htc⟩ := Paired.at hP i _ _ hki hx
          have cmem := List.mem_of_getElem? hki
          refine ⟨_, rfl, tc, rfl, ⟨_, SqT.of (sF _ _ htc)⟩, fun D4 hD4 => ?_⟩
          refine map_tup col nV (fun x => .bl (decide (x ∈ G))) (sF _ _ htc) (by have := (kgood col cmem).1; omega) hD4 (fun z hz H' Q' s5' q' => ?_) (fun HG sG hDG => ?_)
          · refine ⟨_, rfl, _, rfl, pa, _, rfl, .inl (SqL.of ((sE.trans (sF.trans s5')) _ _ hpaD)), rfl, flat_nats _, ?_⟩
            rw [in_nats]
            exact q' H' Same.rfl'
          refine ⟨D4, col.map fun x => decide (x ∈ G), rfl, SqL.of (by rw [hDG, List.map_map]; rfl), _, rfl, ?_⟩
          rw [show (col.map fun x => decide (x ∈ G)).all id = true from List.all_eq_true.mpr fun bb hb => by
            obtain ⟨x, hx, rfl⟩ := List.mem_map.mp hb
            exact decide_eq_true (kcol col cmem x hx)]
          exact iteF ⟨sF.trans sG, _, rfl⟩
        rintro σ HX ⟨sX, x8, rfl⟩
        have SX := sE.trans sX
        have htX := sX _ _ ht
        have wX := wD.same SX
        have kX := kD.trans (Tk.of SX)
        refine ⟨_, rfl, _, rfl, .inr (.inl ⟨b, _, 0, _, rfl, rfl, SqT.of (kX _ _ j1), rfl, p, U.m, rfl, wX, gU.m1, gU.m9, fun lo o HO oO wO ho lop hlo => ?_⟩)⟩
        have kXO := wX.tk oO
        have hyO := oO cl _ clp (SX _ _ hyD)
        have hpcO : PCs HO cps ys := (hpcD.tk (Tk.of SX)).tk kXO
        have hwtO := kXO _ _ (SX _ _ hwtD)
        have htO := kXO _ _ htX
        have ypl := Paired.length hpcO
        have cp2 : cps.length ≤ 2 := by rw [cl']; decide
        have gx : ∀ i, ∃ t' u' : Addr, i < cps.length → ys[i]? = some (.ref t') ∧ HO t' = some (.tup [.str (cps.getD i ("", [])).1, .ref u']) ∧ HO u' = some (.tup ((cps.getD i ("", [])).2.map nV)) := fun i => by
          by_cases hi : i < cps.length
          · have hc : cps[i]? = some (cps.getD i ("", [])) := by simp [List.getD, hi]
            have hy : ys[i]? = some (ys.getD i .non) := by
              have : i < ys.length := by omega
              simp [List.getD, this]
            obtain ⟨t', u', e1, e2, e3⟩ := Paired.at hpcO i _ _ hc hy
            exact ⟨t', u', fun _ => ⟨by rw [hy, e1], e2, e3⟩⟩
          · exact ⟨0, 0, fun h => absurd h hi⟩
        obtain ⟨ad, gx⟩ := Classical.axiomOfChoice gx
        obtain ⟨au, gx⟩ := Classical.axiomOfChoice gx
        have ge : ∀ i, i < cps.length → cps[i]? = some (cps.getD i ("", [])) := fun i hi => by simp [List.getD, hi]
        have gm : ∀ i, i < cps.length → cps.getD i ("", []) ∈ cps := fun i hi => List.mem_of_getElem? (ge i hi)
        refine ⟨_, rfl, cl, rfl, ⟨_, SqL.of hyO⟩, fun D5 hD5 => ?_⟩
        refine comp_ll2 (n := cps.length) (ad := ad) (v1 := fun i => .str (cps.getD i ("", [])).1) (v2 := fun i => .ref (au i)) (more := [some (.ref lo)]) (fun i zs H' => Same HO H' ∧ zs.length = i ∧ PCs H' ((cps.take i).map fun q => (q.1, ordC o q.2)) zs) ⟨same_new hD5 _, rfl, .nil⟩ (by omega) (fun i hi => (gx i hi).1) (fun i zs H' h _ => SqL.of (h.1 _ _ hyO)) (fun i zs H' hi h => SqT.of (h.1 _ _ (gx i hi).2.1)) ?_ ?_
        · rintro i zs HB' hi ⟨sB, zl, hP⟩ hDB'
          have gq := (hqA _ (gm i hi)).2.1
          refine yes ⟨_, rfl, _, rfl, _, rfl, au i, lo, (cps.getD i ("", [])).2, o, rfl, sB _ _ (gx i hi).2.2, sB _ _ hlo, by have := gq.1; omega, fun x hx => by rw [ho.len]; exact gq.2 x hx, fun tc HC sC htc => ?_⟩
          refine ⟨small9 (by show 2 ≤ 1000; decide), fun tt htt => ?_⟩
          have nT := same_new htt (.tup [.str (cps.getD i ("", [])).1, .ref tc])
          have hDC := (sC.trans nT) _ _ hDB'
          refine cyes hi ⟨_, _, rfl⟩ hDC (small1000 (by omega)) ⟨(sB.trans (sC.trans nT)).put hD5, by rw [List.length_append, zl]; rfl, ?_⟩
          rw [take_snoc (ge i hi), List.map_append]
          exact PCs.tk (Tk.put hDC) (PCs.snoc (p := ((cps.getD i ("", [])).1, ordC o (cps.getD i ("", [])).2)) (hP.tk (Tk.of (sC.trans nT))) upd_same (nT _ _ htc))
        rintro zs HM ⟨sM, zl, hPM⟩ hDM
        rw [List.take_length] at hPM
        refine ⟨D5, _, rfl, .inl ⟨SqL.of hDM, fun tm htm => ?_⟩⟩
        have nM := same_new htm (.tup zs)
        have S1 := sM.trans nM
        have htmM : (upd HM tm (.tup zs)) tm = some (.tup zs) := upd_same
        have hPM1 := hPM.tk (Tk.of nM)
        generalize upd HM tm (.tup zs) = HN at *
        have iuO := (iu.tk kX).tk kXO
        have ol : (ordC o wish).length = wish.length := by unfold ordC; rw [List.length_map]
        have eB : (cps.map fun q => (q.1, ordC o q.2)).map Prod.snd = (cps.map Prod.snd).map (ordC o) := by rw [List.map_map, List.map_map]; rfl
        have gB' : ∀ b' ∈ cps.map Prod.snd, GoodCol U.m wish.length b' := fun b' hb => by
          obtain ⟨q, hq, rfl⟩ := List.mem_map.mp hb
          rw [cj]
          exact (hqA q hq).2.1
        have gw : GoodCol U.m wish.length wish := ⟨rfl, hcm⟩
        have nY : (nmsOf (turnT U o)).Nodup := by rw [← nms_sh (turn_sh U o)]; exact nU
        refine ⟨_, rfl, _, rfl, .ref b, lo, U, o, rfl, iuO.same S1, gU, ho, S1 _ _ hlo, fun y HT sT iT => ?_⟩
        refine ⟨_, rfl, _, rfl, _, rfl, wt, lo, wish, o, rfl, (S1.trans sT) _ _ hwtO, (S1.trans sT) _ _ hlo, by omega, fun x hx => by rw [ho.len]; exact hcm x hx, fun tw HW sW htw => ?_⟩
        have SW := S1.trans (sT.trans sW)
        refine ⟨y, tm, tw, turnT U o, cps.map (fun q => (q.1, ordC o q.2)), zs, ordC o wish, rfl, iT.same sW, gU.turn ho, nY, (sT.trans sW) _ _ htmM, hPM1.tk (Tk.of (sT.trans sW)), fun q hq => ?_, htw, by omega, by omega, by rw [ol, cj]; exact mp, fun hs2 t2 lt2 us2 HZ sZ ht2 hlt2 hus2 => ?_, fun hs2 t2 ut2 bs2 ks2 HZ sZ ht2 hut2 hP2 asc2 hks2 k162 => ?_⟩
        · obtain ⟨q', hq', rfl⟩ := List.mem_map.mp hq
          exact ⟨(hqA q' hq').1, by rw [ol, cj]; exact ord_good ho (hqA q' hq').2.1⟩
        · have := sd_back gU nU ho gB' (by rw [ol, eB] at hs2; exact hs2)
          rw [ord_back ho gw] at this
          exact absurd this hsd
        have SZ := SW.trans sZ
        have htZ := SZ _ _ htO
        refine ⟨_, rfl, .inr (.inl ⟨t, _, 0, _, rfl, rfl, SqT.of htZ, rfl, rfl, _, rfl, iteN (by simp; decide +kernel) ?_⟩)⟩
        have hutZ := SZ _ _ (kXO _ _ (sX _ _ hut))
        have hPZ : Paired (ColV HZ) ks bs := ColVs.tk (Tk.of SZ) (ColVs.tk kXO (ColVs.tk (Tk.of sX) hP))
        have hloZ := SZ _ _ hlo
        refine ⟨_, rfl, _, rfl, .inr (.inl ⟨t, _, 1, _, rfl, rfl, SqT.of htZ, rfl, ut, rfl, ⟨_, SqT.of hutZ⟩, fun D6 hD6 => ?_⟩)⟩
        refine comp_tup (xs := bs) (fun i zs' H' => Same HZ H' ∧ zs'.length = i ∧ Paired (ColV H') ((ks.take i).map (ordC o)) zs') ⟨same_new hD6 _, rfl, .nil⟩ (fun i zs' H' h _ => SqT.of (h.1 _ _ hutZ)) ?_ ?_
        · rintro i zs' HF x hx ⟨sF, zl', hPF⟩ hDF
          have hi : i < ks.length := by rw [kbl]; exact (List.getElem?_eq_some_iff.mp hx).1
          have hki : ks[i]? = some ks[i] := List.getElem?_eq_getElem hi
          generalize ks[i] = col at hki
          obtain ⟨tc, rfl, htc⟩ := Paired.at hPZ i _ _ hki hx
          have cmem := List.mem_of_getElem? hki
          have gc := kgood col cmem
          refine yes ⟨_, rfl, _, rfl, tc, lo, col, o, rfl, sF _ _ htc, sF _ _ hloZ, by have := gc.1; omega, fun x hx => by rw [ho.len]; exact gc.2 x hx, fun t3 HG sG ht3 => ?_⟩
          have hDG := sG _ _ hDF
          refine cyes (by omega) rset1 hDG (small1000 (by omega)) ⟨(sF.trans sG).put hD6, by rw [List.length_append, zl']; rfl, ?_⟩
          rw [take_snoc hki, List.map_append]
          exact paired_app (ColVs.tk (Tk.put hDG) (ColVs.tk (Tk.of sG) hPF)) (.cons ⟨t3, rfl, Tk.put hDG _ _ ht3⟩ .nil)
        rintro zs' HF ⟨sF, zl', hPF⟩ hDF
        rw [← kbl, List.take_length] at hPF
        have nd : ks.Nodup := List.Pairwise.imp (fun {x y} (e : lexB x y = true) (z : x = y) => by
          have := lex_asym _ _ e
          rw [z] at this e
          rw [e] at this
          cases this) asc
        refine ⟨D6, zs', ks.map (ordC o), wish.length, rfl, SqL.of hDF, hPF, fun k hk' => ?_, by omega, ?_, by rw [List.length_map]; omega, fun l bs3 ks3 hl hP3 per asc3 => ?_⟩
        · obtain ⟨c, hc, rfl⟩ := List.mem_map.mp hk'
          exact (ord_good ho (kgood c hc)).1
        · refine List.Pairwise.map _ ?_ (List.Pairwise.and_mem.mp nd)
          rintro x y ⟨hx, hy, ne⟩ e
          exact ne (ord_inj ho (kgood x hx) (kgood y hy) e)
        have n7 := same_new hl (.lst bs3)
        refine ⟨l, _, rfl, .inl ⟨SqL.of upd_same, fun tl htl => ?_⟩⟩
        have n8 := same_new htl (.tup bs3)
        refine ⟨small9 (by show 2 ≤ 1000; decide), fun t9 ht9 => ?_⟩
        have n9' := same_new ht9 (.tup [.str "unsaid", .ref tl])
        have S9 := n7.trans (n8.trans n9')
        have ek : ks2 = ks3 := lex_unique asc2 asc3 fun x => by
          rw [hks2, per.mem_iff, ol, eB]
          constructor
          · intro h
            refine List.mem_map.mpr ⟨_, (hks _).mpr (sd_back gU nU ho gB' h), ?_⟩
            have gx2 : GoodCol (turnT U o).m wish.length x := sd_good (gU.turn ho) nY (fun b' hb => by
              obtain ⟨c, hc, rfl⟩ := List.mem_map.mp hb
              exact ord_good ho (gB' c hc)) h
            exact ord_fwd ho gx2
          · intro h
            obtain ⟨c, hc, rfl⟩ := List.mem_map.mp h
            exact sd_ord gU nU ho gB' ((hks c).mp hc)
        have SF9 := sF.trans S9
        refine ⟨t2, t9, _, _, rfl, rfl, SF9 _ _ ht2, upd_same, .cons (.inl ⟨rfl, rfl⟩) (.cons (.inr ⟨ut2, tl, _, _, rfl, rfl, SF9 _ _ hut2, n9' _ _ upd_same, ?_⟩) .nil), ?_⟩
        · rw [ek] at hP2
          exact colv_alike (ColVs.tk (Tk.of SF9) hP2) (ColVs.tk (Tk.of S9) hP3)
        exact q _ (oHD.trans ((Off.of SX).trans (oO.trans (Off.of (SZ.trans SF9)))))
abbrev s_law : Stmt := top 33
theorem sc_law : FnScope ["_law_script"] ["_law_script"] (defScope s_law) := ⟨rfl, rfl, rfl, by decide +kernel, rfl, by decide +kernel, by decide +kernel⟩
theorem ok_law {P : Program} {w : World} {K : PySem.W.Frag} {mg : Str → Option Value} {base : Heap} {f : Addr} {fd : FuncData} (F : Fun K "law" "law" s_law f fd) (gb : Gb mg) (d_law_right : Def P w K mg base 6 "_law_right" ["_law_well_here"] spRight28) (d_law_well : Def P w K mg base 1 "_law_well" ["_law_script", "_law_place"] (spWell K)) : FnOk P w K mg base CX0 7 f fd ["_law_script"] (spLaw K) := by
  refine F.ok sc_law (fun vs H Q E h => ?_) (fun cdv A outer s H vs Q E hr h => ?_)
  · obtain ⟨a, ns, rfl, _⟩ := h
    rfl
  obtain ⟨a, ns, rfl, hS, hn, q⟩ := h
  have nd0 : (["_law_k", "_law_script"] : List Str).Nodup := by decide +kernel
  refine ⟨_, (@pss_one _ _ _ (@ps_ret _ _ _ _ (@pe_callB _ _ _ _ _ _ _ _ _ (@kcall_all _ K rfl (by rfl)) rfl gb.all bt_all (@pa_cons _ _ _ _ _ (@pe_comp _ ["_law_k", "_law_script"] [none, some 0] _ _ _ _ _ _ _ _ _ _ (by exact (show CompOk ["_law_script"] (defScope s_law) ["_law_k", "_law_script"] [none, some 0] _ from ⟨rfl, by decide +kernel, by decide +kernel, by decide +kernel, by decide +kernel, rfl, by decide +kernel⟩)) rfl (@pi_range1 _ _ _ _ _ _ rfl gb.range (@pa_cons _ _ _ _ _ (@pe_callB _ _ _ _ _ _ _ _ _ (@kcall_max2 _ K rfl) rfl gb.max bt_max (@pa_cons _ _ _ _ _ (@pe_int _ _ _ _) (@pa_cons _ _ _ _ _ (@pe_callB _ _ _ _ _ _ _ _ _ (@kcall_min2 _ K rfl) rfl gb.min bt_min (@pa_cons _ _ _ _ _ (@pe_callB _ _ _ _ _ _ _ _ _ (@kcall_len _ K (by rfl)) rfl gb.len bt_len (@pa_cons _ _ _ _ _ (@pv _ 0 _ _ (by rfl) (by walk_at "v") (by decide) (by decide)) (@pa_nil _) (by rfl)) (by decide) (by decide) (by rfl) (by rfl)) (@pa_cons _ _ _ _ _ (@pe_int _ _ _ _) (@pa_nil _) (by rfl)) (by rfl)) (by decide) (by decide) (by rfl) (by rfl)) (@pa_nil _) (by rfl)) (by rfl)) (by decide) (by decide) (by rfl) (by rfl)) (@pa_nil _) (by rfl)) (by rfl)) (fun _ _ _ _ => (@pg_name _ _ 0 _ nd0 rfl (Or.inl rfl) (by walk_at "f"))) (fun _ _ _ _ => (@pf_nil _)) (fun _ _ _ _ => (@pe_def _ _ _ _ _ _ _ _ _ _ _ d_law_right hr (by omega) rfl (@pa_cons _ _ _ _ _ (@pe_def _ _ _ _ _ _ _ _ _ _ _ d_law_well hr (by omega) rfl (@pa_cons _ _ _ _ _ (@pv _ 1 _ _ (by rfl) (by walk_at "v") (by decide) (by decide)) (@pa_cons _ _ _ _ _ (@pv _ 0 _ _ (by rfl) (by walk_at "v") (by decide) (by decide)) (@pa_nil _) (by rfl)) (by rfl)) (by decide) (by rfl) (by rfl)) (@pa_nil _) (by rfl)) (by decide) (by rfl) (by rfl))) (by intro _; rfl)) (@pa_nil _) (by rfl)) (by decide) (by decide) (by rfl) (by rfl)))), ?_⟩
  obtain ⟨n, en, n0, n6⟩ : ∃ n : Int, (if (if (4 : Int) < ((ns.map V.int).length : Int) then 4 else ((ns.map V.int).length : Int)) > 1 then (if (4 : Int) < ((ns.map V.int).length : Int) then 4 else ((ns.map V.int).length : Int)) else 1) = n ∧ 0 ≤ n ∧ n ≤ 4 := ⟨_, rfl, by split <;> omega, by split <;> (try split) <;> omega⟩
  refine ⟨_, rfl, _, (ns.map V.int).length, rfl, .inl ⟨_, hS, rfl⟩, _, _, rfl, _, _, rfl, n, by (show [V.int _] = _; rw [en]), by omega, by omega, fun D hD => ?_⟩
  refine comp_range (fun i ys H' => Same H H' ∧ ys = (List.replicate i true).map V.bl) ⟨same_new hD _, rfl⟩ ?_ ?_
  · rintro i ys H1 hi ⟨s1, rfl⟩ hD1
    refine yes ⟨_, rfl, _, rfl, a, ns, _, rfl, s1.seq hS, hn, fun p H2 np s2 w2 => ⟨p, rfl, w2, fun H3 o3 => ?_⟩⟩
    have s3 : Same H1 H3 := fun b o e => o3 b o (ne_of_none e np) (s2 b o e)
    have hD3 := s3 _ _ hD1
    refine cyes hi rset1 hD3 (by rw [List.length_map, List.length_replicate]; exact small1000 (by omega)) ⟨(s1.trans s3).put hD, ?_⟩
    rw [List.replicate_succ', List.map_append]
    rfl
  · rintro ys H1 ⟨s1, rfl⟩ hD1
    refine ⟨D, _, rfl, SqL.of hD1, ?_⟩
    rw [show (List.replicate n.toNat true).all id = true by simp]
    exact q _
theorem lenK1 {α : Type} : ∀ {us : List α}, us.length = 1 → ∃ x0, us = [x0]
  | [x0], _ => ⟨x0, rfl⟩
theorem lenK2 {α : Type} : ∀ {us : List α}, us.length = 2 → ∃ x0 x1, us = [x0, x1]
  | [x0, x1], _ => ⟨x0, x1, rfl⟩
theorem lenK3 {α : Type} : ∀ {us : List α}, us.length = 3 → ∃ x0 x1 x2, us = [x0, x1, x2]
  | [x0, x1, x2], _ => ⟨x0, x1, x2, rfl⟩
theorem lenK4 {α : Type} : ∀ {us : List α}, us.length = 4 → ∃ x0 x1 x2 x3, us = [x0, x1, x2, x3]
  | [x0, x1, x2, x3], _ => ⟨x0, x1, x2, x3, rfl⟩
theorem lenK5 {α : Type} : ∀ {us : List α}, us.length = 5 → ∃ x0 x1 x2 x3 x4, us = [x0, x1, x2, x3, x4]
  | [x0, x1, x2, x3, x4], _ => ⟨x0, x1, x2, x3, x4, rfl⟩
theorem all_mk {l : PySem.W.OpenLaw} {w : World} {K : PySem.W.Frag} {h : Heap} {mg : Str → Option Value} {fa f0 f1 f2 f3 f4 f5 f6 f7 f8 f9 f10 f11 f12 f13 f14 f15 f16 f17 f18 f19 f20 f21 f22 f23 f24 : Addr} (X : K.In h) (G : h.Ns mainGlobals mg) (hfa : mg "law" = some (.ref fa))
    {od0 an0 od1 an1 od2 an2 od3 an3 od4 an4 od5 an5 od6 an6 od7 an7 od8 an8 od9 an9 od10 an10 od11 an11 od12 an12 od13 an13 od14 an14 od15 an15 od16 an16 od17 an17 od18 an18 od19 an19 od20 an20 od21 an21 od22 an22 od23 an23 od24 an24 : Option Addr} {sl0 sl1 sl2 sl3 sl4 sl5 sl6 sl7 sl8 sl9 sl10 sl11 sl12 sl13 sl14 sl15 sl16 sl17 sl18 sl19 sl20 sl21 sl22 sl23 sl24 : Array (Option Value)} {oc0 kV0 dc0 pm0 cd0 ct0 oc1 kV1 dc1 pm1 cd1 ct1 oc2 kV2 dc2 pm2 cd2 ct2 oc3 kV3 dc3 pm3 cd3 ct3 oc4 kV4 dc4 pm4 cd4 ct4 oc5 kV5 dc5 pm5 cd5 ct5 oc6 kV6 dc6 pm6 cd6 ct6 oc7 kV7 dc7 pm7 cd7 ct7 oc8 kV8 dc8 pm8 cd8 ct8 oc9 kV9 dc9 pm9 cd9 ct9 oc10 kV10 dc10 pm10 cd10 ct10 oc11 kV11 dc11 pm11 cd11 ct11 oc12 kV12 dc12 pm12 cd12 ct12 oc13 kV13 dc13 pm13 cd13 ct13 oc14 kV14 dc14 pm14 cd14 ct14 oc15 kV15 dc15 pm15 cd15 ct15 oc16 kV16 dc16 pm16 cd16 ct16 oc17 kV17 dc17 pm17 cd17 ct17 oc18 kV18 dc18 pm18 cd18 ct18 oc19 kV19 dc19 pm19 cd19 ct19 oc20 kV20 dc20 pm20 cd20 ct20 oc21 kV21 dc21 pm21 cd21 ct21 oc22 kV22 dc22 pm22 cd22 ct22 oc23 kV23 dc23 pm23 cd23 ct23 oc24 kV24 dc24 pm24 cd24 ct24 : Value}
    (a0 : PySem.W.nsIn K mainGlobals "has_small_letters_alone" = some (some (.ref f0))) (l0 : K.lookup f0 = some ⟨oc0, od0, .func (PySem.W.fnOf "has_small_letters_alone" "has_small_letters_alone" (defArgs s_has_small_letters_alone) (defBody s_has_small_letters_alone) (defScope s_has_small_letters_alone) .none kV0 dc0 pm0 an0 cd0 ct0), sl0⟩) (c0 : PySem.W.codeIn K cd0 "has_small_letters_alone" = true) (k0 : PySem.W.keepIn K (.ref f0) = true)
    (a1 : PySem.W.nsIn K mainGlobals "is_letter" = some (some (.ref f1))) (l1 : K.lookup f1 = some ⟨oc1, od1, .func (PySem.W.fnOf "is_letter" "is_letter" (defArgs s_is_letter) (defBody s_is_letter) (defScope s_is_letter) .none kV1 dc1 pm1 an1 cd1 ct1), sl1⟩) (c1 : PySem.W.codeIn K cd1 "is_letter" = true) (k1 : PySem.W.keepIn K (.ref f1) = true)
    (a2 : PySem.W.nsIn K mainGlobals "needed_lines" = some (some (.ref f2))) (l2 : K.lookup f2 = some ⟨oc2, od2, .func (PySem.W.fnOf "needed_lines" "needed_lines" (defArgs s_needed_lines) (defBody s_needed_lines) (defScope s_needed_lines) .none kV2 dc2 pm2 an2 cd2 ct2), sl2⟩) (c2 : PySem.W.codeIn K cd2 "needed_lines" = true) (k2 : PySem.W.keepIn K (.ref f2) = true)
    (a3 : PySem.W.nsIn K mainGlobals "cells_by_name" = some (some (.ref f3))) (l3 : K.lookup f3 = some ⟨oc3, od3, .func (PySem.W.fnOf "cells_by_name" "cells_by_name" (defArgs s_cells_by_name) (defBody s_cells_by_name) (defScope s_cells_by_name) .none kV3 dc3 pm3 an3 cd3 ct3), sl3⟩) (c3 : PySem.W.codeIn K cd3 "cells_by_name" = true) (k3 : PySem.W.keepIn K (.ref f3) = true)
    (a4 : PySem.W.nsIn K mainGlobals "column_from" = some (some (.ref f4))) (l4 : K.lookup f4 = some ⟨oc4, od4, .func (PySem.W.fnOf "column_from" "column_from" (defArgs s_column_from) (defBody s_column_from) (defScope s_column_from) .none kV4 dc4 pm4 an4 cd4 ct4), sl4⟩) (c4 : PySem.W.codeIn K cd4 "column_from" = true) (k4 : PySem.W.keepIn K (.ref f4) = true)
    (a5 : PySem.W.nsIn K mainGlobals "line_column" = some (some (.ref f5))) (l5 : K.lookup f5 = some ⟨oc5, od5, .func (PySem.W.fnOf "line_column" "line_column" (defArgs s_line_column) (defBody s_line_column) (defScope s_line_column) .none kV5 dc5 pm5 an5 cd5 ct5), sl5⟩) (c5 : PySem.W.codeIn K cd5 "line_column" = true) (k5 : PySem.W.keepIn K (.ref f5) = true)
    (a6 : PySem.W.nsIn K mainGlobals "renumbered" = some (some (.ref f6))) (l6 : K.lookup f6 = some ⟨oc6, od6, .func (PySem.W.fnOf "renumbered" "renumbered" (defArgs s_renumbered) (defBody s_renumbered) (defScope s_renumbered) .none kV6 dc6 pm6 an6 cd6 ct6), sl6⟩) (c6 : PySem.W.codeIn K cd6 "renumbered" = true) (k6 : PySem.W.keepIn K (.ref f6) = true)
    (a7 : PySem.W.nsIn K mainGlobals "needed_alone" = some (some (.ref f7))) (l7 : K.lookup f7 = some ⟨oc7, od7, .func (PySem.W.fnOf "needed_alone" "needed_alone" (defArgs s_needed_alone) (defBody s_needed_alone) (defScope s_needed_alone) .none kV7 dc7 pm7 an7 cd7 ct7), sl7⟩) (c7 : PySem.W.codeIn K cd7 "needed_alone" = true) (k7 : PySem.W.keepIn K (.ref f7) = true)
    (a8 : PySem.W.nsIn K mainGlobals "keep" = some (some (.ref f8))) (l8 : K.lookup f8 = some ⟨oc8, od8, .func (PySem.W.fnOf "keep" "keep" (defArgs s_keep) (defBody s_keep) (defScope s_keep) .none kV8 dc8 pm8 an8 cd8 ct8), sl8⟩) (c8 : PySem.W.codeIn K cd8 "keep" = true) (k8 : PySem.W.keepIn K (.ref f8) = true)
    (a9 : PySem.W.nsIn K mainGlobals "lines_without_parts" = some (some (.ref f9))) (l9 : K.lookup f9 = some ⟨oc9, od9, .func (PySem.W.fnOf "lines_without_parts" "lines_without_parts" (defArgs s_lines_without_parts) (defBody s_lines_without_parts) (defScope s_lines_without_parts) .none kV9 dc9 pm9 an9 cd9 ct9), sl9⟩) (c9 : PySem.W.codeIn K cd9 "lines_without_parts" = true) (k9 : PySem.W.keepIn K (.ref f9) = true)
    (a10 : PySem.W.nsIn K mainGlobals "lines_with" = some (some (.ref f10))) (l10 : K.lookup f10 = some ⟨oc10, od10, .func (PySem.W.fnOf "lines_with" "lines_with" (defArgs s_lines_with) (defBody s_lines_with) (defScope s_lines_with) .none kV10 dc10 pm10 an10 cd10 ct10), sl10⟩) (c10 : PySem.W.codeIn K cd10 "lines_with" = true) (k10 : PySem.W.keepIn K (.ref f10) = true)
    (a11 : PySem.W.nsIn K mainGlobals "all_sayable" = some (some (.ref f11))) (l11 : K.lookup f11 = some ⟨oc11, od11, .func (PySem.W.fnOf "all_sayable" "all_sayable" (defArgs s_all_sayable) (defBody s_all_sayable) (defScope s_all_sayable) .none kV11 dc11 pm11 an11 cd11 ct11), sl11⟩) (c11 : PySem.W.codeIn K cd11 "all_sayable" = true) (k11 : PySem.W.keepIn K (.ref f11) = true)
    (a12 : PySem.W.nsIn K mainGlobals "sayable" = some (some (.ref f12))) (l12 : K.lookup f12 = some ⟨oc12, od12, .func (PySem.W.fnOf "sayable" "sayable" (defArgs s_sayable) (defBody s_sayable) (defScope s_sayable) .none kV12 dc12 pm12 an12 cd12 ct12), sl12⟩) (c12 : PySem.W.codeIn K cd12 "sayable" = true) (k12 : PySem.W.keepIn K (.ref f12) = true)
    (a13 : PySem.W.nsIn K mainGlobals "_law_well" = some (some (.ref f13))) (l13 : K.lookup f13 = some ⟨oc13, od13, .func (PySem.W.fnOf "_law_well" "_law_well" (defArgs s_law_well) (defBody s_law_well) (defScope s_law_well) .none kV13 dc13 pm13 an13 cd13 ct13), sl13⟩) (c13 : PySem.W.codeIn K cd13 "_law_well" = true) (k13 : PySem.W.keepIn K (.ref f13) = true)
    (a14 : PySem.W.nsIn K mainGlobals "_law_draw" = some (some (.ref f14))) (l14 : K.lookup f14 = some ⟨oc14, od14, .func (PySem.W.fnOf "_law_draw" "_law_draw" (defArgs s_law_draw) (defBody s_law_draw) (defScope s_law_draw) .none kV14 dc14 pm14 an14 cd14 ct14), sl14⟩) (c14 : PySem.W.codeIn K cd14 "_law_draw" = true) (k14 : PySem.W.keepIn K (.ref f14) = true)
    (a15 : PySem.W.nsIn K mainGlobals "_law_names" = some (some (.ref f15))) (l15 : K.lookup f15 = some ⟨oc15, od15, .func (PySem.W.fnOf "_law_names" "_law_names" (defArgs s_law_names) (defBody s_law_names) (defScope s_law_names) .none kV15 dc15 pm15 an15 cd15 ct15), sl15⟩) (c15 : PySem.W.codeIn K cd15 "_law_names" = true) (k15 : PySem.W.keepIn K (.ref f15) = true)
    (a16 : PySem.W.nsIn K mainGlobals "_law_cells" = some (some (.ref f16))) (l16 : K.lookup f16 = some ⟨oc16, od16, .func (PySem.W.fnOf "_law_cells" "_law_cells" (defArgs s_law_cells) (defBody s_law_cells) (defScope s_law_cells) .none kV16 dc16 pm16 an16 cd16 ct16), sl16⟩) (c16 : PySem.W.codeIn K cd16 "_law_cells" = true) (k16 : PySem.W.keepIn K (.ref f16) = true)
    (a17 : PySem.W.nsIn K mainGlobals "_law_table" = some (some (.ref f17))) (l17 : K.lookup f17 = some ⟨oc17, od17, .func (PySem.W.fnOf "_law_table" "_law_table" (defArgs s_law_table) (defBody s_law_table) (defScope s_law_table) .none kV17 dc17 pm17 an17 cd17 ct17), sl17⟩) (c17 : PySem.W.codeIn K cd17 "_law_table" = true) (k17 : PySem.W.keepIn K (.ref f17) = true)
    (a18 : PySem.W.nsIn K mainGlobals "_law_rows" = some (some (.ref f18))) (l18 : K.lookup f18 = some ⟨oc18, od18, .func (PySem.W.fnOf "_law_rows" "_law_rows" (defArgs s_law_rows) (defBody s_law_rows) (defScope s_law_rows) .none kV18 dc18 pm18 an18 cd18 ct18), sl18⟩) (c18 : PySem.W.codeIn K cd18 "_law_rows" = true) (k18 : PySem.W.keepIn K (.ref f18) = true)
    (a19 : PySem.W.nsIn K mainGlobals "_law_kept" = some (some (.ref f19))) (l19 : K.lookup f19 = some ⟨oc19, od19, .func (PySem.W.fnOf "_law_kept" "_law_kept" (defArgs s_law_kept) (defBody s_law_kept) (defScope s_law_kept) .none kV19 dc19 pm19 an19 cd19 ct19), sl19⟩) (c19 : PySem.W.codeIn K cd19 "_law_kept" = true) (k19 : PySem.W.keepIn K (.ref f19) = true)
    (a20 : PySem.W.nsIn K mainGlobals "_law_column" = some (some (.ref f20))) (l20 : K.lookup f20 = some ⟨oc20, od20, .func (PySem.W.fnOf "_law_column" "_law_column" (defArgs s_law_column) (defBody s_law_column) (defScope s_law_column) .none kV20 dc20 pm20 an20 cd20 ct20), sl20⟩) (c20 : PySem.W.codeIn K cd20 "_law_column" = true) (k20 : PySem.W.keepIn K (.ref f20) = true)
    (a21 : PySem.W.nsIn K mainGlobals "_law_order" = some (some (.ref f21))) (l21 : K.lookup f21 = some ⟨oc21, od21, .func (PySem.W.fnOf "_law_order" "_law_order" (defArgs s_law_order) (defBody s_law_order) (defScope s_law_order) .none kV21 dc21 pm21 an21 cd21 ct21), sl21⟩) (c21 : PySem.W.codeIn K cd21 "_law_order" = true) (k21 : PySem.W.keepIn K (.ref f21) = true)
    (a22 : PySem.W.nsIn K mainGlobals "_law_turned" = some (some (.ref f22))) (l22 : K.lookup f22 = some ⟨oc22, od22, .func (PySem.W.fnOf "_law_turned" "_law_turned" (defArgs s_law_turned) (defBody s_law_turned) (defScope s_law_turned) .none kV22 dc22 pm22 an22 cd22 ct22), sl22⟩) (c22 : PySem.W.codeIn K cd22 "_law_turned" = true) (k22 : PySem.W.keepIn K (.ref f22) = true)
    (a23 : PySem.W.nsIn K mainGlobals "_law_right" = some (some (.ref f23))) (l23 : K.lookup f23 = some ⟨oc23, od23, .func (PySem.W.fnOf "_law_right" "_law_right" (defArgs s_law_right) (defBody s_law_right) (defScope s_law_right) .none kV23 dc23 pm23 an23 cd23 ct23), sl23⟩) (c23 : PySem.W.codeIn K cd23 "_law_right" = true) (k23 : PySem.W.keepIn K (.ref f23) = true)
    (a24 : PySem.W.nsIn K mainGlobals "law" = some (some (.ref f24))) (l24 : K.lookup f24 = some ⟨oc24, od24, .func (PySem.W.fnOf "law" "law" (defArgs s_law) (defBody s_law) (defScope s_law) .none kV24 dc24 pm24 an24 cd24 ct24), sl24⟩) (c24 : PySem.W.codeIn K cd24 "law" = true) (k24 : PySem.W.keepIn K (.ref f24) = true)
    (z0 : PySem.W.nsIn K mainGlobals "abs" = some none)
    (z1 : PySem.W.nsIn K mainGlobals "range" = some none)
    (z2 : PySem.W.nsIn K mainGlobals "tuple" = some none)
    (z3 : PySem.W.nsIn K mainGlobals "list" = some none)
    (z4 : PySem.W.nsIn K mainGlobals "isinstance" = some none)
    (z5 : PySem.W.nsIn K mainGlobals "int" = some none)
    (z6 : PySem.W.nsIn K mainGlobals "str" = some none)
    (z7 : PySem.W.nsIn K mainGlobals "len" = some none)
    (z8 : PySem.W.nsIn K mainGlobals "min" = some none)
    (z9 : PySem.W.nsIn K mainGlobals "max" = some none)
    (z10 : PySem.W.nsIn K mainGlobals "all" = some none)
    (z11 : PySem.W.nsIn K mainGlobals "any" = some none)
    (z12 : PySem.W.nsIn K mainGlobals "bool" = some none)
    (z13 : PySem.W.nsIn K mainGlobals "divmod" = some none)
    (z14 : PySem.W.nsIn K mainGlobals "dict" = some none)
    (z15 : PySem.W.nsIn K mainGlobals "sorted" = some none)
    (z16 : PySem.W.nsIn K mainGlobals "reversed" = some none)
    (z17 : PySem.W.nsIn K mainGlobals "zip" = some none)
    {yt0 : Tok} (y0 : PySem.W.nsIn K mainGlobals "MOST_COLUMNS" = some (some (.int 81 yt0)))
    : ∃ fd : FuncData, (∀ (s : Shared) (v : Value), BindsTo s fd ⟨[v], []⟩ [("_law_script", v)]) ∧ ∀ base : Heap, K.In base → base.Ns mainGlobals mg → FnOk l.prog w K mg base CX0 7 fa fd ["_law_script"] (spLaw K) := by
  have e := hfa.symm.trans (PySem.W.mg_of X G a24)
  cases e
  have F0 := fun_mk (st := s_has_small_letters_alone) l0 c0 k0
  have b0 := F0.binds (ps := ["text"]) fun _ _ _ _ _ _ us hl => by obtain ⟨z0_, rfl⟩ := lenK1 hl; rfl
  have F1 := fun_mk (st := s_is_letter) l1 c1 k1
  have b1 := F1.binds (ps := ["thing"]) fun _ _ _ _ _ _ us hl => by obtain ⟨z0_, rfl⟩ := lenK1 hl; rfl
  have F2 := fun_mk (st := s_needed_lines) l2 c2 k2
  have b2 := F2.binds (ps := ["lines"]) fun _ _ _ _ _ _ us hl => by obtain ⟨z0_, rfl⟩ := lenK1 hl; rfl
  have F3 := fun_mk (st := s_cells_by_name) l3 c3 k3
  have b3 := F3.binds (ps := ["H"]) fun _ _ _ _ _ _ us hl => by obtain ⟨z0_, rfl⟩ := lenK1 hl; rfl
  have F4 := fun_mk (st := s_column_from) l4 c4 k4
  have b4 := F4.binds (ps := ["cells", "many", "columns", "length"]) fun _ _ _ _ _ _ us hl => by obtain ⟨z0_, z1_, z2_, z3_, rfl⟩ := lenK4 hl; rfl
  have F5 := fun_mk (st := s_line_column) l5 c5 k5
  have b5 := F5.binds (ps := ["T", "cells", "ahead", "line", "length"]) fun _ _ _ _ _ _ us hl => by obtain ⟨z0_, z1_, z2_, z3_, z4_, rfl⟩ := lenK5 hl; rfl
  have F6 := fun_mk (st := s_renumbered) l6 c6 k6
  have b6 := F6.binds (ps := ["line", "numbers"]) fun _ _ _ _ _ _ us hl => by obtain ⟨z0_, z1_, rfl⟩ := lenK2 hl; rfl
  have F7 := fun_mk (st := s_needed_alone) l7 c7 k7
  have b7 := F7.binds (ps := ["lines"]) fun _ _ _ _ _ _ us hl => by obtain ⟨z0_, rfl⟩ := lenK1 hl; rfl
  have F8 := fun_mk (st := s_keep) l8 c8 k8
  have b8 := F8.binds (ps := ["found", "column", "line"]) fun _ _ _ _ _ _ us hl => by obtain ⟨z0_, z1_, z2_, rfl⟩ := lenK3 hl; rfl
  have F9 := fun_mk (st := s_lines_without_parts) l9 c9 k9
  have b9 := F9.binds (ps := ["T"]) fun _ _ _ _ _ _ us hl => by obtain ⟨z0_, rfl⟩ := lenK1 hl; rfl
  have F10 := fun_mk (st := s_lines_with) l10 c10 k10
  have b10 := F10.binds (ps := ["T", "number"]) fun _ _ _ _ _ _ us hl => by obtain ⟨z0_, z1_, rfl⟩ := lenK2 hl; rfl
  have F11 := fun_mk (st := s_all_sayable) l11 c11 k11
  have b11 := F11.binds (ps := ["T", "columns", "length"]) fun _ _ _ _ _ _ us hl => by obtain ⟨z0_, z1_, z2_, rfl⟩ := lenK3 hl; rfl
  have F12 := fun_mk (st := s_sayable) l12 c12 k12
  have b12 := F12.binds (ps := ["T", "columns", "wish"]) fun _ _ _ _ _ _ us hl => by obtain ⟨z0_, z1_, z2_, rfl⟩ := lenK3 hl; rfl
  have F13 := fun_mk (st := s_law_well) l13 c13 k13
  have b13 := F13.binds (ps := ["_law_script", "_law_place"]) fun _ _ _ _ _ _ us hl => by obtain ⟨z0_, z1_, rfl⟩ := lenK2 hl; rfl
  have F14 := fun_mk (st := s_law_draw) l14 c14 k14
  have b14 := F14.binds (ps := ["_law_well_here", "_law_many"]) fun _ _ _ _ _ _ us hl => by obtain ⟨z0_, z1_, rfl⟩ := lenK2 hl; rfl
  have F15 := fun_mk (st := s_law_names) l15 c15 k15
  have b15 := F15.binds (ps := ["_law_well_here", "_law_many"]) fun _ _ _ _ _ _ us hl => by obtain ⟨z0_, z1_, rfl⟩ := lenK2 hl; rfl
  have F16 := fun_mk (st := s_law_cells) l16 c16 k16
  have b16 := F16.binds (ps := ["_law_well_here", "_law_many", "_law_places"]) fun _ _ _ _ _ _ us hl => by obtain ⟨z0_, z1_, z2_, rfl⟩ := lenK3 hl; rfl
  have F17 := fun_mk (st := s_law_table) l17 c17 k17
  have b17 := F17.binds (ps := ["_law_well_here", "_law_most", "_law_some"]) fun _ _ _ _ _ _ us hl => by obtain ⟨z0_, z1_, z2_, rfl⟩ := lenK3 hl; rfl
  have F18 := fun_mk (st := s_law_rows) l18 c18 k18
  have b18 := F18.binds (ps := ["_law_size", "_law_places"]) fun _ _ _ _ _ _ us hl => by obtain ⟨z0_, z1_, rfl⟩ := lenK2 hl; rfl
  have F19 := fun_mk (st := s_law_kept) l19 c19 k19
  have b19 := F19.binds (ps := ["_law_table_here", "_law_part"]) fun _ _ _ _ _ _ us hl => by obtain ⟨z0_, z1_, rfl⟩ := lenK2 hl; rfl
  have F20 := fun_mk (st := s_law_column) l20 c20 k20
  have b20 := F20.binds (ps := ["_law_column_here", "_law_order_here"]) fun _ _ _ _ _ _ us hl => by obtain ⟨z0_, z1_, rfl⟩ := lenK2 hl; rfl
  have F21 := fun_mk (st := s_law_order) l21 c21 k21
  have b21 := F21.binds (ps := ["_law_well_here", "_law_many"]) fun _ _ _ _ _ _ us hl => by obtain ⟨z0_, z1_, rfl⟩ := lenK2 hl; rfl
  have F22 := fun_mk (st := s_law_turned) l22 c22 k22
  have b22 := F22.binds (ps := ["_law_table_here", "_law_order_here"]) fun _ _ _ _ _ _ us hl => by obtain ⟨z0_, z1_, rfl⟩ := lenK2 hl; rfl
  have F23 := fun_mk (st := s_law_right) l23 c23 k23
  have b23 := F23.binds (ps := ["_law_well_here"]) fun _ _ _ _ _ _ us hl => by obtain ⟨z0_, rfl⟩ := lenK1 hl; rfl
  have F24 := fun_mk (st := s_law) l24 c24 k24
  have b24 := F24.binds (ps := ["_law_script"]) fun _ _ _ _ _ _ us hl => by obtain ⟨z0_, rfl⟩ := lenK1 hl; rfl
  have gb : Gb mg := ⟨PySem.W.mg_none_of X G z0, PySem.W.mg_none_of X G z1, PySem.W.mg_none_of X G z2, PySem.W.mg_none_of X G z3, PySem.W.mg_none_of X G z4, PySem.W.mg_none_of X G z5, PySem.W.mg_none_of X G z6, PySem.W.mg_none_of X G z7, PySem.W.mg_none_of X G z8, PySem.W.mg_none_of X G z9, PySem.W.mg_none_of X G z10, PySem.W.mg_none_of X G z11, PySem.W.mg_none_of X G z12, PySem.W.mg_none_of X G z13, PySem.W.mg_none_of X G z14, PySem.W.mg_none_of X G z15, PySem.W.mg_none_of X G z16, PySem.W.mg_none_of X G z17, ⟨_, PySem.W.mg_of X G y0, _, rfl⟩⟩
  refine ⟨PySem.W.fnOf "law" "law" (defArgs s_law) (defBody s_law) (defScope s_law) .none kV24 dc24 pm24 an24 cd24 ct24, fun s v => .of_eq rfl, fun base _ _ => ?_⟩
  have d_has_small_letters_alone : Def l.prog w K mg base 1 "has_small_letters_alone" ["text"] spSmall := ⟨f0, _, ok_has_small_letters_alone F0 gb, PySem.W.mg_of X G a0, k0, b0⟩
  have d_is_letter : Def l.prog w K mg base 2 "is_letter" ["thing"] spIsLn := ⟨f1, _, ok_is_letter F1 gb d_has_small_letters_alone, PySem.W.mg_of X G a1, k1, b1⟩
  have d_needed_lines : Def l.prog w K mg base 3 "needed_lines" ["lines"] spNeed := ⟨f2, _, ok_needed_lines F2 gb d_is_letter, PySem.W.mg_of X G a2, k2, b2⟩
  have d_cells_by_name : Def l.prog w K mg base 1 "cells_by_name" ["H"] spCbn := ⟨f3, _, ok_cells_by_name F3 gb, PySem.W.mg_of X G a3, k3, b3⟩
  have d_column_from : Def l.prog w K mg base 1 "column_from" ["cells", "many", "columns", "length"] spColF := ⟨f4, _, ok_column_from F4 gb, PySem.W.mg_of X G a4, k4, b4⟩
  have d_line_column : Def l.prog w K mg base 2 "line_column" ["T", "cells", "ahead", "line", "length"] spLineC := ⟨f5, _, ok_line_column F5 gb d_column_from, PySem.W.mg_of X G a5, k5, b5⟩
  have d_renumbered : Def l.prog w K mg base 3 "renumbered" ["line", "numbers"] spRenum := ⟨f6, _, ok_renumbered F6 gb d_is_letter, PySem.W.mg_of X G a6, k6, b6⟩
  have d_needed_alone : Def l.prog w K mg base 4 "needed_alone" ["lines"] spAlone := ⟨f7, _, ok_needed_alone F7 gb d_needed_lines d_renumbered, PySem.W.mg_of X G a7, k7, b7⟩
  have d_keep : Def l.prog w K mg base 1 "keep" ["found", "column", "line"] spKeep := ⟨f8, _, ok_keep F8 gb, PySem.W.mg_of X G a8, k8, b8⟩
  have d_lines_without_parts : Def l.prog w K mg base 1 "lines_without_parts" ["T"] spLines0 := ⟨f9, _, ok_lines_without_parts F9 gb, PySem.W.mg_of X G a9, k9, b9⟩
  have d_lines_with : Def l.prog w K mg base 1 "lines_with" ["T", "number"] spLinesW := ⟨f10, _, ok_lines_with F10 gb, PySem.W.mg_of X G a10, k10, b10⟩
  have d_all_sayable : Def l.prog w K mg base 4 "all_sayable" ["T", "columns", "length"] spAllSay := ⟨f11, _, ok_all_sayable F11 gb d_cells_by_name d_keep d_line_column d_lines_without_parts d_lines_with, PySem.W.mg_of X G a11, k11, b11⟩
  have d_sayable : Def l.prog w K mg base 5 "sayable" ["T", "columns", "wish"] spSay := ⟨f12, _, ok_sayable F12 gb d_all_sayable d_needed_alone, PySem.W.mg_of X G a12, k12, b12⟩
  have d_law_well : Def l.prog w K mg base 1 "_law_well" ["_law_script", "_law_place"] (spWell K) := ⟨f13, _, ok_law_well F13 gb, PySem.W.mg_of X G a13, k13, b13⟩
  have d_law_draw : Def l.prog w K mg base 1 "_law_draw" ["_law_well_here", "_law_many"] spDrawW := ⟨f14, _, ok_law_draw F14 gb, PySem.W.mg_of X G a14, k14, b14⟩
  have d_law_names : Def l.prog w K mg base 2 "_law_names" ["_law_well_here", "_law_many"] spNames := ⟨f15, _, ok_law_names F15 gb d_law_draw, PySem.W.mg_of X G a15, k15, b15⟩
  have d_law_cells : Def l.prog w K mg base 2 "_law_cells" ["_law_well_here", "_law_many", "_law_places"] spCells := ⟨f16, _, ok_law_cells F16 gb d_law_draw, PySem.W.mg_of X G a16, k16, b16⟩
  have d_law_table : Def l.prog w K mg base 3 "_law_table" ["_law_well_here", "_law_most", "_law_some"] spTable := ⟨f17, _, ok_law_table F17 gb d_law_draw d_law_names d_law_cells, PySem.W.mg_of X G a17, k17, b17⟩
  have d_law_rows : Def l.prog w K mg base 1 "_law_rows" ["_law_size", "_law_places"] spRows := ⟨f18, _, ok_law_rows F18 gb, PySem.W.mg_of X G a18, k18, b18⟩
  have d_law_kept : Def l.prog w K mg base 2 "_law_kept" ["_law_table_here", "_law_part"] spKept := ⟨f19, _, ok_law_kept F19 gb d_law_rows, PySem.W.mg_of X G a19, k19, b19⟩
  have d_law_column : Def l.prog w K mg base 1 "_law_column" ["_law_column_here", "_law_order_here"] spColumn := ⟨f20, _, ok_law_column F20 gb, PySem.W.mg_of X G a20, k20, b20⟩
  have d_law_order : Def l.prog w K mg base 2 "_law_order" ["_law_well_here", "_law_many"] spOrderL := ⟨f21, _, ok_law_order F21 gb d_law_draw, PySem.W.mg_of X G a21, k21, b21⟩
  have d_law_turned : Def l.prog w K mg base 2 "_law_turned" ["_law_table_here", "_law_order_here"] spTurnL := ⟨f22, _, ok_law_turned F22 gb d_law_rows, PySem.W.mg_of X G a22, k22, b22⟩
  have d_law_right : Def l.prog w K mg base 6 "_law_right" ["_law_well_here"] spRight28 := ⟨f23, _, ok_law_right F23 gb d_law_table d_law_draw d_law_kept d_sayable d_law_order d_law_column d_law_turned, PySem.W.mg_of X G a23, k23, b23⟩
  exact ok_law F24 gb d_law_right d_law_well
theorem walk {l : PySem.W.OpenLaw} {q : Program} {loose : List Str} {XP : (Str → Option Value) → Heap → Prop} {YP : World → Heap → Prop} {d : DefRec} {K : Params → PySem.W.Frag} (hn : l.most = some 63) (hdf : d.params.defaults = [])
    (hY : ∀ (w : World) (h : Heap), YP w h → (K w.params).In h)
    (F : ∀ (w : World) (mg : Str → Option Value) (fa : Addr) (h : Heap), (K w.params).In h → h.Ns mainGlobals mg → mg d.name = some (.ref fa) →
      ∃ fd : FuncData, (∀ (s : Shared) (u : Value), BindsTo s fd ⟨[u], []⟩ [("_law_script", u)]) ∧ ∀ base : Heap, (K w.params).In base → base.Ns mainGlobals mg → FnOk l.prog w (K w.params) mg base CX0 7 fa fd ["_law_script"] (spLaw (K w.params))) :
    PySem.W.WalkO q loose XP YP l.row.toRowW d [] (fun f vs => PySem.call f vs) :=
  L2.walk_of (n := 63) (k := 7) (x := "_law_script") (CX := fun _ => CX0) (sp := fun w => spLaw (K w.params)) hn (by decide) hdf ⟨rfl, by decide, by decide⟩ hY F (fun _ _ a ns hl _ hS => ⟨a, ns, rfl, hS, hl, fun _ => rfl⟩) fun _ _ _ _ _ z => z
end K28
open PySem PySem.W PyProof.Rows
set_option maxRecDepth 100000 in
set_option maxHeartbeats 0 in
theorem PySem.Challenge.cw_truthgrades_k28_whole_kept_and_turned_holds : PySem.Challenge.rw_truthgrades_k28_whole_kept_and_turned.Holds := by
  w_on; o_law; k_head; (case hw => w_witness2)
  k_fill
  refine K28.walk (l := PySem.Challenge.rw_truthgrades_k28_whole_kept_and_turned) rfl rfl (fun w h Y => PySem.W.kIn_of Y) ?F
  case F =>
    intro w mg fa h KX G hmg
    refine' K28.all_mk KX G hmg ?a0 ?l0 ?c0 ?k0 ?a1 ?l1 ?c1 ?k1 ?a2 ?l2 ?c2 ?k2 ?a3 ?l3 ?c3 ?k3 ?a4 ?l4 ?c4 ?k4 ?a5 ?l5 ?c5 ?k5 ?a6 ?l6 ?c6 ?k6 ?a7 ?l7 ?c7 ?k7 ?a8 ?l8 ?c8 ?k8 ?a9 ?l9 ?c9 ?k9 ?a10 ?l10 ?c10 ?k10 ?a11 ?l11 ?c11 ?k11 ?a12 ?l12 ?c12 ?k12 ?a13 ?l13 ?c13 ?k13 ?a14 ?l14 ?c14 ?k14 ?a15 ?l15 ?c15 ?k15 ?a16 ?l16 ?c16 ?k16 ?a17 ?l17 ?c17 ?k17 ?a18 ?l18 ?c18 ?k18 ?a19 ?l19 ?c19 ?k19 ?a20 ?l20 ?c20 ?k20 ?a21 ?l21 ?c21 ?k21 ?a22 ?l22 ?c22 ?k22 ?a23 ?l23 ?c23 ?k23 ?a24 ?l24 ?c24 ?k24 ?z0 ?z1 ?z2 ?z3 ?z4 ?z5 ?z6 ?z7 ?z8 ?z9 ?z10 ?z11 ?z12 ?z13 ?z14 ?z15 ?z16 ?z17 ?y0
    (case a0 => k_is); (case l0 => k_is); (case c0 => k_is); (case k0 => k_is)
    (case a1 => k_is); (case l1 => k_is); (case c1 => k_is); (case k1 => k_is)
    (case a2 => k_is); (case l2 => k_is); (case c2 => k_is); (case k2 => k_is)
    (case a3 => k_is); (case l3 => k_is); (case c3 => k_is); (case k3 => k_is)
    (case a4 => k_is); (case l4 => k_is); (case c4 => k_is); (case k4 => k_is)
    (case a5 => k_is); (case l5 => k_is); (case c5 => k_is); (case k5 => k_is)
    (case a6 => k_is); (case l6 => k_is); (case c6 => k_is); (case k6 => k_is)
    (case a7 => k_is); (case l7 => k_is); (case c7 => k_is); (case k7 => k_is)
    (case a8 => k_is); (case l8 => k_is); (case c8 => k_is); (case k8 => k_is)
    (case a9 => k_is); (case l9 => k_is); (case c9 => k_is); (case k9 => k_is)
    (case a10 => k_is); (case l10 => k_is); (case c10 => k_is); (case k10 => k_is)
    (case a11 => k_is); (case l11 => k_is); (case c11 => k_is); (case k11 => k_is)
    (case a12 => k_is); (case l12 => k_is); (case c12 => k_is); (case k12 => k_is)
    (case a13 => k_is); (case l13 => k_is); (case c13 => k_is); (case k13 => k_is)
    (case a14 => k_is); (case l14 => k_is); (case c14 => k_is); (case k14 => k_is)
    (case a15 => k_is); (case l15 => k_is); (case c15 => k_is); (case k15 => k_is)
    (case a16 => k_is); (case l16 => k_is); (case c16 => k_is); (case k16 => k_is)
    (case a17 => k_is); (case l17 => k_is); (case c17 => k_is); (case k17 => k_is)
    (case a18 => k_is); (case l18 => k_is); (case c18 => k_is); (case k18 => k_is)
    (case a19 => k_is); (case l19 => k_is); (case c19 => k_is); (case k19 => k_is)
    (case a20 => k_is); (case l20 => k_is); (case c20 => k_is); (case k20 => k_is)
    (case a21 => k_is); (case l21 => k_is); (case c21 => k_is); (case k21 => k_is)
    (case a22 => k_is); (case l22 => k_is); (case c22 => k_is); (case k22 => k_is)
    (case a23 => k_is); (case l23 => k_is); (case c23 => k_is); (case k23 => k_is)
    (case a24 => k_is); (case l24 => k_is); (case c24 => k_is); (case k24 => k_is)
    (case z0 => k_is)
    (case z1 => k_is)
    (case z2 => k_is)
    (case z3 => k_is)
    (case z4 => k_is)
    (case z5 => k_is)
    (case z6 => k_is)
    (case z7 => k_is)
    (case z8 => k_is)
    (case z9 => k_is)
    (case z10 => k_is)
    (case z11 => k_is)
    (case z12 => k_is)
    (case z13 => k_is)
    (case z14 => k_is)
    (case z15 => k_is)
    (case z16 => k_is)
    (case z17 => k_is)
    (case y0 => k_is)
