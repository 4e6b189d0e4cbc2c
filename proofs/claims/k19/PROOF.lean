import PyProof.Rows.All
import Wide.All
import OpenK.AllK
import Wide.FinOn
import Lean
import PyProof.EqAt
import PyProof.EqKinds
import PyProof.TupleCall
import PySem.Challenge.RW_truthgrades_k19_what_follows
set_option bootstrap.genMatcherCode false
set_option genSizeOfSpec false
local macro_rules | `(tactic| omega) => `(tactic| lia)
set_option maxHeartbeats 4000000
set_option maxRecDepth 100000
set_option linter.all false
set_option Elab.async false
namespace L2
open PySem PySem.Spec PyProof.Rows
abbrev Key := Sum Int Str
def yL : Key -> Value -> Bool
 | .inl k, v => Value.isInt k v
 | .inr x, v => Value.isStrOf x v
def keyH (w : World) : Key -> Int
 | .inl k => hashInt k
 | .inr x => hashStr w x
theorem qg : ∀ {k : Key} {v : Value}, yL k v = true -> (∃ i t, k = Sum.inl i /\ v = Value.int i t) \/ (∃ x t, k = Sum.inr x /\ v = Value.str x t)
 | .inl i, v, h => by
  obtain ⟨t, e⟩ := Value.isInt_shape (k := i) (v := v) h
  exact .inl ⟨i, t, rfl, e⟩
 | .inr x, v, h => by
  obtain ⟨t, e⟩ := Value.isStrOf_shape (x := x) (v := v) h
  exact .inr ⟨x, t, rfl, e⟩
theorem Yy (i : Int) (t : Tok) : yL (.inl i) (.int i t) = true := by simp [yL, Value.isInt]
theorem Yz (x : Str) (t : Tok) : yL (.inr x) (.str x t) = true := by simp [yL, Value.isStrOf]
theorem key_ll (a b : Int) : decide ((Sum.inl a : Key) = Sum.inl b) = (a == b) := by
 by_cases e : a = b
 ·subst e; simp
 ·have h : ¬ (Sum.inl a : Key) = Sum.inl b := fun q => e (Sum.inl.inj q)
  rw [decide_eq_false h]
  exact (beq_eq_false_iff_ne.mpr e).symm
theorem key_rr (a b : Str) : decide ((Sum.inr a : Key) = Sum.inr b) = decide (a = b) := by
 by_cases e : a = b
 ·subst e; simp
 ·have h : ¬ (Sum.inr a : Key) = Sum.inr b := fun q => e (Sum.inr.inj q)
  rw [decide_eq_false h, decide_eq_false e]
theorem key_lr (a : Int) (b : Str) : decide ((Sum.inl a : Key) = Sum.inr b) = false := decide_eq_false (fun q => nomatch q)
theorem key_rl (a : Str) (b : Int) : decide ((Sum.inr a : Key) = Sum.inl b) = false := decide_eq_false (fun q => nomatch q)
def zE (prog : Program) (w : World) : PySem.KeyKind prog w Key where
 is := yL
 hash := keyH w
 inj := fun v a b ha hb => by
  rcases qg ha with ⟨i, t, rfl, rfl⟩ | ⟨x, t, rfl, rfl⟩
  ·rcases qg hb with ⟨j, u, rfl, e⟩ | ⟨y, u, rfl, e⟩
   ·injection e with e1 _; rw [e1]
   ·exact nomatch e
  ·rcases qg hb with ⟨j, u, rfl, e⟩ | ⟨y, u, rfl, e⟩
   ·exact nomatch e
   ·injection e with e1 _; rw [e1]
 byValue := fun k v h => by
  rcases qg h with ⟨i, t, rfl, rfl⟩ | ⟨x, t, rfl, rfl⟩ <;> rfl
 pyHash := fun hv h => by
  rcases qg hv with ⟨i, t, rfl, rfl⟩ | ⟨x, t, rfl, rfl⟩
  ·exact wpAny_pyHash_int h
  ·exact wpAny_pyHash_str h
 eqBool := fun hu hv h => by
  rcases qg hu with ⟨i, t, rfl, rfl⟩ | ⟨x, t, rfl, rfl⟩
  ·rcases qg hv with ⟨j, u, rfl, rfl⟩ | ⟨y, u, rfl, rfl⟩
   ·rw [key_ll] at h; exact wpAny_eqBool_int h
   ·rw [key_lr] at h; exact SeqAt.EqAt.int_str i t y u _ _ _ _ h
  ·rcases qg hv with ⟨j, u, rfl, rfl⟩ | ⟨y, u, rfl, rfl⟩
   ·rw [key_rl] at h; exact SeqAt.EqAt.str_int x t j u _ _ _ _ h
   ·rw [key_rr] at h; exact wpAny_eqBool_str h
 «strs» := fun k x t v h => by
  rcases qg h with ⟨i, u, rfl, e⟩ | ⟨y, u, rfl, e⟩
  ·exact nomatch e
  ·injection e with e1 _
   subst e1
   cases v <;> rfl
theorem WB (prog : Program) (w : World) (i : Int) (t : Tok) : (zE prog w).is (.inl i) (.int i t) = true := Yy i t
theorem WC (prog : Program) (w : World) (x : Str) (t : Tok) : (zE prog w).is (.inr x) (.str x t) = true := Yz x t
end L2
namespace L2
open PySem PySem.Spec PyProof.Rows
inductive V where
 | non | bl (b : Bool) | int (i : Int) | str (x : Str) | byt (b : Array UInt8) | flt (b : UInt64) | ref (a : Addr) | ty (n : String)
 deriving DecidableEq
def RelV : V -> Value -> Prop
 | .non, u => u = Value.none
 | .bl b, u => u = Value.bool b
 | .int i, u => ∃ t, u = Value.int i t
 | .str x, u => ∃ t, u = Value.str x t
 | .byt b, u => ∃ t, u = Value.bytes b t
 | .flt b, u => ∃ t, u = Value.float b t
 | .ref a, u => u = Value.ref a
 | .ty n, u => u = Value.type n
abbrev qo : List V -> List Value -> Prop := Paired RelV
theorem qo.length {xs : List V} {us : List Value} (r : qo xs us) : xs.length = us.length := Paired.length r
theorem qo.get : ∀ {xs : List V} {us : List Value} {i : Nat} {x : V}, qo xs us -> xs[i]? = some x -> ∃ u, us[i]? = some u /\ RelV x u
 | _, _, _, _, .nil, e => by simp at e
 | _, _, 0, _, .cons r _, e => by simp at e; subst e; exact ⟨_, rfl, r⟩
 | _, _, i + 1, x, .cons _ t, e => by
  obtain ⟨u, h1, h2⟩ := qo.get (i := i) (x := x) t (by simpa using e)
  exact ⟨u, by simpa using h1, h2⟩
theorem qo.set {x : V} {u : Value} (r : RelV x u) : ∀ {xs : List V} {us : List Value} (i : Nat), qo xs us -> qo (xs.set i x) (us.set i u)
 | _, _, _, .nil => .nil
 | _, _, 0, .cons _ t => .cons r t
 | _, _, i + 1, .cons q t => .cons q (qo.set r i t)
theorem qo.append : ∀ {xs ys : List V} {us ws : List Value}, qo xs us -> qo ys ws -> qo (xs ++ ys) (us ++ ws)
 | _, _, _, _, .nil, s => s
 | _, _, _, _, .cons r t, s => .cons r (qo.append t s)
theorem qo.take : ∀ {xs : List V} {us : List Value} (n : Nat), qo xs us -> qo (xs.take n) (us.take n)
 | _, _, 0, _ => .nil
 | _, _, _ + 1, .nil => .nil
 | _, _, n + 1, .cons r t => .cons r (qo.take n t)
theorem qo.drop : ∀ {xs : List V} {us : List Value} (n : Nat), qo xs us -> qo (xs.drop n) (us.drop n)
 | _, _, 0, r => r
 | _, _, _ + 1, .nil => .nil
 | _, _, n + 1, .cons _ t => qo.drop n t
def ya : Option V -> Option Value -> Prop
 | some v, some u => RelV v u
 | none, none => True
 | _, _ => False
def KV {κ : Type} : List (κ × V) -> List (κ × Value) -> Prop := Paired fun (p : κ × V) (q : κ × Value) => p.1 = q.1 /\ RelV p.2 q.2
def kV : Key -> V
 | .inl i => .int i
 | .inr x => .str x
def PTup (h : Heap) (a : Addr) (items : Array Value) : Prop := ∃ o, h.get? a = some o /\ o.cls = .type "tuple" /\ (∃ n, o.data = .seq items n) /\ o.dict = none
theorem PTup.lt {h : Heap} {a : Addr} {items : Array Value} (x : PTup h a items) : a < h.objs.size := let ⟨_, e, _⟩ := x; Heap.lt_size e
theorem PTup.isTup {h : Heap} {a : Addr} {items : Array Value} (x : PTup h a items) : IsTup h a items := let ⟨o, e, c, n, _⟩ := x; ⟨o, e, c, n⟩
theorem PTup.new (h : Heap) (items : Array Value) : PTup (h.push { cls := .type "tuple", data := .seq items }) h.objs.size items := ⟨_, Heap.get?_push_size _ rfl, rfl, ⟨_, rfl⟩, rfl⟩
inductive HO where
 /-- a list -/
 | lst (xs : List V)
 /-- a tuple (never changes) -/
 | tup (xs : List V)
 /-- a dict whose keys are ints and texts; one whose keys are tuples of ints and texts (the empty one is both) -/
 | dK (kvs : List (Key × V)) | dT (kvs : List (List Key × V))
 /-- a set of ints: its members, its size -/
 | set (S : Int -> Bool) (n : Nat)
 /-- an instance of the class at C, its dict at dx, its attributes -/
 | ins (C dx : Addr) (fs : List (Str × V))
 /-- the dict of the instance at x -/
 | own (x : Addr)
 /-- the dict of an exception -/
 | xd (fs : List (Str × V))
 /-- a bound method, f of x -/
 | met (f x : Addr)
 /-- a range object lo, lo + 1, .. below hi -/
 | rng (lo hi : Int)
 /-- a thing that is known to the object (the script; a dict while a loop walks it): read, never written while it is so -/
 | frz (o : Obj) (u : HO)
 /-- a code object's table -/
 | tbl (ps : Array Value)
 /-- any other thing, by what is true of its one object (a def of one's own: SetO a S n := HO.ext fun h => ..) -/
 | ext (φ : Heap -> Prop)
abbrev Hp := Addr -> Option HO
def upd (H : Hp) (a : Addr) (o : HO) : Hp := fun b => if b = a then some o else H b
theorem zd {H : Hp} {a : Addr} {o : HO} : upd H a o a = some o := by unfold upd; rw [if_pos rfl]
theorem zn {H : Hp} {a b : Addr} {o : HO} (h : b ≠ a) : upd H a o b = H b := by unfold upd; rw [if_neg h]
theorem upd_upd {H : Hp} {a : Addr} {o u : HO} : upd (upd H a o) a u = upd H a u := by
 funext b; unfold upd; split <;> rfl
theorem wC {H : Hp} {a b : Addr} {o u : HO} (h : H a = some o) (h' : H b = some u) (d : o ≠ u) : a ≠ b := by
 intro e; subst e; rw [h] at h'; exact d (Option.some.inj h')
theorem zx {H : Hp} {a b : Addr} {o : HO} (h : H a = some o) (h' : H b = none) : a ≠ b := by
 intro e; subst e; rw [h] at h'; cases h'
section
variable (P : Program) (w : World)
def qu (H : Hp) (h : Heap) (a : Addr) : HO -> Prop
 | .lst xs => xs.length <= sizeLine /\ ∃ (its : List Value) (n : Nat), qo xs its /\ h.get? a = some { cls := .type "list", data := .seq its.toArray n }
 | .tup xs => xs.length <= sizeLine /\ ∃ its : List Value, qo xs its /\ PTup h a its.toArray
 | .dK kvs => kvs.length <= sizeLine /\ (a == sysModules) = false /\ ∃ vs, KV kvs vs /\ h.DictOf (zE P w) a vs
 | .dT kvs => kvs.length <= sizeLine /\ (a == sysModules) = false /\ ∃ xs : List (List Key × Addr × Value),
   Paired (fun (p : List Key × V) (q : List Key × Addr × Value) => p.1 = q.1 /\ H q.2.1 = some (.tup (p.1.map kV)) /\ RelV p.2 q.2.2) kvs xs /\
   ∃ o es ep, h.get? a = some o /\ o.ExactDict /\ o.data = .dict es ep /\ es.toList = xs.map (entryOfKey (tupleKind (zE P w))) /\ (xs.map (·.1)).Nodup
 | .set S n => h.SetOf (intKind P w) a S n
 | .ins C dx fs => H dx = some (.own a) /\ fs.length <= 1000 /\ dx ≠ a /\ h.get? a = some (PySem.W.instObj C dx) /\
   ∃ mA, h.Ns1 dx mA /\ (∀ f, ya (fs.lookup f) (mA f)) /\ PySem.Within mA (fs.map (·.1))
 | .own _ => ∃ o, h.get? a = some o
 | .xd fs => ∃ mA, h.Ns1 a mA /\ ∀ f, ya (fs.lookup f) (mA f)
 | .rng lo hi => ∃ t u v, h.get? a = some { cls := .type "range", data := .fields #[.int lo t, .int hi u, .int 1 v] }
 | .frz o u => h.get? a = some o /\ qu H h a u
 | .tbl ps => h.get? a = some { cls := .none, data := .fields ps }
 | .met f x => h.get? a = some (PySem.W.methodObj (.ref f) (.ref x))
 | .ext φ => φ h /\ (∃ o, h.get? a = some o) /\ ∀ h1 h2 : Heap, φ h1 -> (∀ o, h1.get? a = some o -> h2.get? a = some o) -> φ h2
def HOk (H : Hp) (h : Heap) : Prop := ∀ a o, H a = some o -> qu P w H h a o
end
section
variable {P : Program} {w : World} {H H' : Hp} {h h' : Heap} {a : Addr} {o : HO}
theorem qu.lt (x : qu P w H h a o) : a < h.objs.size := by
 cases o with
 | lst xs => obtain ⟨_, _, _, _, e⟩ := x; exact Heap.lt_size e
 | tup xs => obtain ⟨_, _, _, p⟩ := x; exact p.lt
 | dK kvs => obtain ⟨_, _, _, _, o, _, _, e, _⟩ := x; exact Heap.lt_size e
 | dT kvs => obtain ⟨_, _, _, _, o, _, _, e, _⟩ := x; exact Heap.lt_size e
 | set S n => obtain ⟨o, _, _, _, e, _⟩ := x; exact Heap.lt_size e
 | ins C dx fs => obtain ⟨_, _, _, e, _⟩ := x; exact Heap.lt_size e
 | own y => obtain ⟨_, e⟩ := x; exact Heap.lt_size e
 | xd fs => obtain ⟨_, ⟨_, _, _, e, _⟩, _⟩ := x; exact Heap.lt_size e
 | rng lo hi => obtain ⟨_, _, _, e⟩ := x; exact Heap.lt_size e
 | frz ob u => obtain ⟨e, _⟩ := x; exact Heap.lt_size e
 | tbl ps => exact Heap.lt_size (show h.get? a = some _ from x)
 | met f y => exact Heap.lt_size (show h.get? a = some _ from x)
 | ext φ => obtain ⟨_, ⟨_, e⟩, _⟩ := x; exact Heap.lt_size e
theorem Paired.mapP {α β : Type} {F G : α -> β -> Prop} : ∀ {l₁ : List α} {l₂ : List β}, Paired F l₁ l₂ -> (∀ a b, F a b -> G a b) -> Paired G l₁ l₂
 | _, _, .nil, _ => .nil
 | _, _, .cons r t, f => .cons (f _ _ r) (Paired.mapP t f)
theorem Paired.imp' {α β : Type} {F G : α -> β -> Prop} (f : ∀ a b, F a b -> G a b) {l₁ : List α} {l₂ : List β} (r : Paired F l₁ l₂) : Paired G l₁ l₂ := Paired.mapP r f
theorem qu.stay (x : qu P w H h a o) (k : ∀ b u, (b = a \/ H b = some (.own a)) -> h.get? b = some u -> h'.get? b = some u)
  (ho : ∀ b, H b = some (.own a) -> H' b = some (.own a)) (ht : ∀ b xs, H b = some (.tup xs) -> H' b = some (.tup xs)) : qu P w H' h' a o := by
 induction o with
 | lst xs => obtain ⟨z, its, n, r, e⟩ := x; exact ⟨z, its, n, r, k _ _ (.inl rfl) e⟩
 | tup xs => obtain ⟨z, its, r, ob, e, c⟩ := x; exact ⟨z, its, r, ob, k _ _ (.inl rfl) e, c⟩
 | dK kvs => obtain ⟨z, y, vs, r, ob, es, ep, e, c⟩ := x; exact ⟨z, y, vs, r, ob, es, ep, k _ _ (.inl rfl) e, c⟩
 | dT kvs =>
  obtain ⟨z, y, xs, r, ob, es, ep, e, c⟩ := x
  exact ⟨z, y, xs, Paired.mapP r fun p q z => ⟨z.1, ht _ _ z.2.1, z.2.2⟩, ob, es, ep, k _ _ (.inl rfl) e, c⟩
 | set S n => obtain ⟨ob, es, ep, t, e, c⟩ := x; exact ⟨ob, es, ep, t, k _ _ (.inl rfl) e, c⟩
 | ins C dx fs =>
  obtain ⟨d, z, ne, e, mA, ⟨od, es, ep, e2, c⟩, r⟩ := x
  exact ⟨ho _ d, z, ne, k _ _ (.inl rfl) e, mA, ⟨od, es, ep, k _ _ (.inr d) e2, c⟩, r⟩
 | own y => obtain ⟨ob, e⟩ := x; exact ⟨ob, k _ _ (.inl rfl) e⟩
 | xd fs => obtain ⟨mA, ⟨od, es, ep, e, c⟩, r⟩ := x; exact ⟨mA, ⟨od, es, ep, k _ _ (.inl rfl) e, c⟩, r⟩
 | rng lo hi => obtain ⟨t, u, v, e⟩ := x; exact ⟨t, u, v, k _ _ (.inl rfl) e⟩
 | frz ob u ih => obtain ⟨e, q⟩ := x; exact ⟨k _ _ (.inl rfl) e, ih q⟩
 | tbl ps =>
  have e : h.get? a = some { cls := .none, data := .fields ps } := x
  show h'.get? a = some { cls := .none, data := .fields ps }
  exact k a _ (.inl rfl) e
 | met f y =>
  have e : h.get? a = some (PySem.W.methodObj (.ref f) (.ref y)) := x
  show h'.get? a = some (PySem.W.methodObj (.ref f) (.ref y))
  exact k a _ (.inl rfl) e
 | ext φ => obtain ⟨p, ⟨o, e⟩, st⟩ := x; exact ⟨st _ _ p fun o q => k _ _ (.inl rfl) q, ⟨o, k _ _ (.inl rfl) e⟩, st⟩
theorem HOk.lt (x : HOk P w H h) (e : H a = some o) : a < h.objs.size := (x a o e).lt
theorem HOk.fresh (x : HOk P w H h) (e : h.objs.size <= a) : H a = none := by
 cases q : H a with
 | none => rfl
 | some u => exact absurd (Nat.lt_of_lt_of_le (x.lt q) e) (Nat.lt_irrefl _)
theorem HOk.kept (x : HOk P w H h) (k : ∀ b u, h.get? b = some u -> h'.get? b = some u) : HOk P w H h' := fun a o e =>
 (x a o e).stay (fun b u _ q => k b u q) (fun _ q => q) fun _ _ q => q
theorem HOk.laid (x : HOk P w H h) (k : ∀ b u, h.get? b = some u -> h'.get? b = some u) (hp : h.objs.size <= a) (new : qu P w (upd H a o) h' a o) : HOk P w (upd H a o) h' := fun b u e => by
 have hn := x.fresh hp
 by_cases hb : b = a
 ·subst hb; rw [zd] at e; cases e; exact new
 ·rw [zn hb] at e
  exact (x b u e).stay (fun c v _ q => k c v q) (fun c q => by rw [zn (zx q hn)]; exact q) fun c xs q => by rw [zn (zx q hn)]; exact q
end
def Rd (H : Hp) (a : Addr) (u : HO) : Prop := H a = some u \/ ∃ o, H a = some (.frz o u)
theorem Rd.ok {P : Program} {w : World} {H : Hp} {h : Heap} {a : Addr} {u : HO} (r : Rd H a u) (x : HOk P w H h) : qu P w H h a u := by
 rcases r with r | ⟨o, r⟩
 ·exact x a u r
 ·obtain ⟨_, q⟩ := x a _ r
  exact q
def Mut : Option HO -> Prop
 | some (.lst _) => True
 | some (.dK _) => True
 | some (.dT _) => True
 | some (.set _ _) => True
 | some (.ins _ _ _) => True
 | some (.ext _) => True
 | _ => False
section
variable {P : Program} {w : World} {H : Hp} {h h' : Heap} {x e : Addr} {o' : HO}
theorem HOk.write (ok : HOk P w H h) (mu : Mut (H x)) (he : e = x \/ H e = some (.own x)) (k : ∀ b u, b ≠ e -> h.get? b = some u -> h'.get? b = some u) (heo : ∃ u, h'.get? e = some u)
  (new : qu P w (upd H x o') h' x o') : HOk P w (upd H x o') h' := fun b u q => by
 have nown : ∀ c y, H c = some (.own y) -> c ≠ x := fun c y r z => by subst z; rw [r] at mu; exact mu
 have ntup : ∀ c xs, H c = some (.tup xs) -> c ≠ x := fun c xs r z => by subst z; rw [r] at mu; exact mu
 by_cases hb : b = x
 ·subst hb; rw [zd] at q; cases q; exact new
 ·rw [zn hb] at q
  by_cases hbe : b = e
  ·have q' : H b = some (.own x) := by
    rcases he with z | z
    ·exact absurd (hbe.trans z) hb
    ·rw [hbe]; exact z
   rw [q] at q'; cases q'
   obtain ⟨v, hv⟩ := heo
   exact ⟨v, by rw [hbe]; exact hv⟩
  ·refine (ok b u q).stay (fun c v hc r => k c v ?_ r) (fun c r => by rw [zn (nown c b r)]; exact r) fun c xs r => by rw [zn (ntup c xs r)]; exact r
   rcases hc with rfl | hc
   ·exact hbe
   ·rintro rfl
    rcases he with z | z
    ·exact nown c b hc z
    ·rw [hc] at z; cases z; exact hb rfl
end
structure Un (fs ex : List Addr) (H H' : Hp) (h h' : Heap) : Prop where
 keep : ∀ b o, h.get? b = some o -> H b = none -> b ∉ fs -> b ∉ ex -> h'.get? b = some o
 slot : ∀ b o, h.get? b = some o -> H b = none -> b ∈ fs -> b ∉ ex -> ∃ sl, h'.get? b = some { o with slots := sl }
 free : ∀ b o, h.get? b = some o -> H b = none -> b ∉ ex -> H' b = none
 there : ∀ b o, h.get? b = some o -> b ∉ ex -> ∃ o', h'.get? b = some o'
 tups : ∀ b xs, H b = some (.tup xs) -> H' b = some (.tup xs)
 frzs : ∀ b o u, H b = some (.frz o u) -> H' b = some (.frz o u)
 tbls : ∀ b ps, H b = some (.tbl ps) -> ∃ more, H' b = some (.tbl (ps ++ more))
section
variable {fs fs' ex ex' : List Addr} {H H1 H2 : Hp} {h h1 h2 h' : Heap} {a x e : Addr} {o : HO}
theorem Un.any (u : Un fs ex H H1 h h1) {b : Addr} {ob : Obj} (q : h.get? b = some ob) (n : H b = none) (hx : b ∉ ex) : ∃ sl, h1.get? b = some { ob with slots := sl } := by
 by_cases hb : b ∈ fs
 ·exact u.slot b ob q n hb hx
 ·exact ⟨ob.slots, u.keep b ob q n hb hx⟩
theorem Un.kept (k : ∀ b u, h.get? b = some u -> h'.get? b = some u) : Un fs ex H H h h' :=
 ⟨fun b ob q _ _ _ => k b ob q, fun b ob q _ _ _ => ⟨ob.slots, k b ob q⟩, fun _ _ _ n _ => n, fun b ob q _ => ⟨ob, k b ob q⟩, fun _ _ q => q, fun _ _ _ q => q, fun _ ps q => ⟨#[], by rw [q]; simp⟩⟩
theorem Un.refl : Un fs ex H H h h := Un.kept fun _ _ q => q
theorem Un.laid (k : ∀ b u, h.get? b = some u -> h'.get? b = some u) (hp : h.objs.size <= a) (hn : H a = none) : Un fs ex H (upd H a o) h h' where
 keep := fun b u q _ _ _ => k b u q
 slot := fun b u q _ _ _ => ⟨u.slots, k b u q⟩
 free := fun b u q n _ => by rw [zn (Nat.ne_of_lt (Nat.lt_of_lt_of_le (Heap.lt_size q) hp))]; exact n
 there := fun b u q _ => ⟨u, k b u q⟩
 tups := fun b xs q => by rw [zn (zx q hn)]; exact q
 frzs := fun b u xs q => by rw [zn (zx q hn)]; exact q
 tbls := fun b ps q => ⟨#[], by rw [zn (zx q hn), q]; simp⟩
theorem Un.write (mu : Mut (H x)) (he : e = x \/ H e = some (.own x)) (k : ∀ b u, b ≠ e -> h.get? b = some u -> h'.get? b = some u) (heo : ∃ u, h'.get? e = some u) : Un fs ex H (upd H x o) h h' := by
 have hx : ∀ b, H b = none -> b ≠ x := fun b n z => by subst z; rw [n] at mu; exact mu
 have hb : ∀ b, H b = none -> b ≠ e := fun b n z => by
  subst z
  rcases he with r | r
  ·exact hx b n r
  ·rw [n] at r; cases r
 have hm : ∀ b u, H b = some u -> ¬ Mut (some u) -> b ≠ x := fun b u q nm z => by subst z; rw [q] at mu; exact nm mu
 refine ⟨fun b u q n _ _ => k b u (hb b n) q, fun b u q n _ _ => ⟨u.slots, k b u (hb b n) q⟩, fun b u q n _ => by rw [zn (hx b n)]; exact n, fun b u q _ => ?_,
  fun b xs q => by rw [zn (hm b _ q fun z => z)]; exact q, fun b u xs q => by rw [zn (hm b _ q fun z => z)]; exact q, fun b ps q => ⟨#[], by rw [zn (hm b _ q fun z => z), q]; simp⟩⟩
 by_cases hbe : b = e
 ·subst hbe; exact heo
 ·exact ⟨u, k b u hbe q⟩
end
def trk (h : Heap) (H : Hp) : List Addr := (List.range h.objs.size).filter fun a => (H a).isSome
def hidT (h : Heap) (H : Hp) : Heap := PySem.W.hideAll h (trk h H)
theorem YA (h : Heap) (H : Hp) : (hidT h H).objs.size = h.objs.size := PySem.W.hideAll_size _ _
theorem hidT_get {h : Heap} {H : Hp} {b : Addr} {o : Obj} (e : h.get? b = some o) (n : H b = none) : (hidT h H).get? b = some o :=
 PySem.W.hideAll_get _ e fun hm => by
  have q : (H b).isSome = true := (List.mem_filter.mp hm).2
  rw [n] at q; simp at q
theorem of_hidT {h : Heap} {H : Hp} {b : Addr} {o : Obj} (e : (hidT h H).get? b = some o) : h.get? b = some o /\ H b = none := by
 have e' : h.get? b = some o := PySem.W.of_hideAll (trk h H) e
 refine ⟨e', ?_⟩
 cases q : H b with
 | none => rfl
 | some x =>
  have hm : b ∈ trk h H := List.mem_filter.mpr ⟨List.mem_range.mpr (Heap.lt_size e'), by simp [q]⟩
  have z : (hidT h H).get? b = none := PySem.W.hideAll_none (trk h H) hm
  rw [z] at e; cases e
end L2
namespace L2
open PySem PySem.Spec PyProof.Rows
structure Mod (K : PySem.W.Frag) (mg : Str -> Option Value) (base : Heap) : Prop where
 kin : K.In base
 glob : base.Ns mainGlobals mg
 blt : ∃ mb, base.Ns builtinsNs mb /\ ∀ x : Str, x ≠ "__name__" -> mb x = bootBuiltins x
 nolimit : base.NoLimit
structure Cx where
 prog : Program
 w : World
 K : PySem.W.Frag
 mg : Str -> Option Value
 base : Heap
 A : Around
 N : List Str
 s₀ : Shared
 H₀ : Hp
 env : Env
 outer : List Env
 stack : List Env
 ex : List Addr
 fn : Str -> Bool
 calm : Bool
 pn : List (Addr × Obj)
 xe : Value -> Shared -> Prop
def frs (l : List Env) : List Addr := l.filterMap (·.frame)
abbrev Cx.fs (X : Cx) : List Addr := frs X.outer
def Vis (sc : Scope) (x : Str) : Prop := sc.names.lookup x = some .local \/ sc.names.lookup x = some .cell \/ sc.names.lookup x = some .free
def Loc (sc : Scope) (x : Str) : Prop := sc.names.lookup x = some .local \/ sc.names.lookup x = some .cell
def Look (env : Env) (h : Heap) (m : Str -> Option Value) (x : Str) (u : Value) : Prop :=
 (env.kindOf x = some .local /\ m x = some u) \/ ((env.kindOf x = some .cell \/ env.kindOf x = some .free) /\ ∃ c, env.cells.lookup x = some c /\ h.IsCell c (some u))
structure Cx.Ok (X : Cx) : Prop where
 mod : Mod X.K X.mg X.base
 kind : X.env.scope.kind = .function
 glob : X.env.globals = mainGlobals
 blt : X.env.builtins = builtinsNs
 above : X.s₀.heap.objs.size <= X.env.locals
 inj : ∀ x y c, X.env.cells.lookup x = some c -> X.env.cells.lookup y = some c -> x = y
 has : ∀ x, (X.env.kindOf x = some .cell \/ X.env.kindOf x = some .free) -> ∃ c, X.env.cells.lookup x = some c
 cab : ∀ x c, X.fn x = true -> X.env.cells.lookup x = some c -> X.s₀.heap.objs.size <= c
 hd : X.calm = true -> X.A.handled = none
 frames : X.A.frames = some X.stack
 stk : X.stack = X.outer \/ (X.stack = X.env :: X.outer /\ X.env.frame = some X.env.locals)
 exf : ∀ b ∈ X.ex, b ≠ X.env.locals /\ ∀ x c, X.env.cells.lookup x = some c -> c ≠ b
 bs : ∀ b o, X.base.get? b = some o -> X.s₀.heap.get? b = some o /\ X.H₀ b = none
 bsz : X.base.objs.size <= X.s₀.heap.objs.size
 noex : ∀ b o, X.base.get? b = some o -> b ∉ X.ex
 exfs : ∀ b ∈ X.ex, b ∉ X.fs
 funs : X.s₀.heap.FunFrames X.base X.outer
 frf : ∀ b ∈ X.fs, X.H₀ b = none
structure Inv (X : Cx) (pins : List (Addr × Obj)) (σ : List (Option V)) (H : Hp) (s : Shared) : Prop where
 ok : X.Ok
 os : s.os = X.s₀.os
 bare : AllBare s.gens
 base : Un X.fs X.ex X.H₀ H X.s₀.heap s.heap
 loc : ∃ m, s.heap.Ns X.env.locals m /\ ∀ (i : Nat) (x : Str) (v : V), X.N[i]? = some x -> σ[i]? = some (some v) -> Vis X.env.scope x -> ∃ u, RelV v u /\ Look X.env s.heap m x u
 cell : ∀ x c, X.env.cells.lookup x = some c -> ∃ v, s.heap.IsCell c v
 free : H X.env.locals = none
 freeC : ∀ x c, X.env.cells.lookup x = some c -> H c = none
 pin : ∀ p ∈ X.pn ++ pins, s.heap.get? p.1 = some p.2 /\ H p.1 = none /\ p.1 ≠ X.env.locals /\ p.1 ∉ X.fs /\ ∀ v, p.2.data ≠ .cell v
 hok : HOk X.prog X.w H s.heap
 len : σ.length = X.N.length
section
variable {X : Cx} {pins : List (Addr × Obj)} {σ : List (Option V)} {H H' : Hp} {s : Shared} {h' : Heap}
theorem Cx.Ok.nofr (ok : X.Ok) {b : Addr} {o : Obj} (e : X.base.get? b = some o) : b ∉ X.fs := fun hb => by
 have := (ok.funs.mem hb).1
 rw [e] at this; cases this
theorem Inv.bs (I : Inv X pins σ H s) : ∀ b o, X.base.get? b = some o -> s.heap.get? b = some o /\ H b = none := fun b o e =>
 ⟨I.base.keep b o (I.ok.bs b o e).1 (I.ok.bs b o e).2 (I.ok.nofr e) (I.ok.noex b o e), I.base.free b o (I.ok.bs b o e).1 (I.ok.bs b o e).2 (I.ok.noex b o e)⟩
theorem Inv.bk (I : Inv X pins σ H s) : ∀ b o, X.base.get? b = some o -> s.heap.get? b = some o := fun b o e => (I.bs b o e).1
theorem Inv.mod (I : Inv X pins σ H s) : Mod X.K X.mg X.base := I.ok.mod
theorem Inv.kIn (I : Inv X pins σ H s) : X.K.In s.heap := I.ok.mod.kin.keeps I.bk
theorem Inv.lt (I : Inv X pins σ H s) : X.env.locals < s.heap.objs.size := let ⟨_, hn, _⟩ := I.loc; hn.lt
theorem Inv.sz (I : Inv X pins σ H s) : X.s₀.heap.objs.size <= s.heap.objs.size := Nat.le_trans I.ok.above (Nat.le_of_lt I.lt)
theorem Inv.nofs (I : Inv X pins σ H s) {a : Addr} (h : s.heap.objs.size <= a) : a ∉ X.fs := fun hb => by
 obtain ⟨_, o, ho, _⟩ := I.ok.funs.mem hb
 exact absurd (Nat.lt_of_lt_of_le (Heap.lt_size ho) (Nat.le_trans I.sz h)) (Nat.lt_irrefl _)
theorem Inv.cne (I : Inv X pins σ H s) : ∀ x c, X.env.cells.lookup x = some c -> c ≠ X.env.locals := fun x c e z => by
 obtain ⟨v, o, ho, hd⟩ := I.cell x c e
 obtain ⟨m, ⟨o', es, ep, ho', hd', _⟩, _⟩ := I.loc
 rw [z, ho'] at ho; cases ho; rw [hd'] at hd; cases hd
theorem Inv.funs (I : Inv X pins σ H s) : s.heap.FunFrames X.base X.outer := by
 have all : ∀ (l : List Env), (∀ b ∈ frs l, b ∈ X.fs) -> X.s₀.heap.FunFrames X.base l -> s.heap.FunFrames X.base l := by
  intro l
  induction l with
  | nil => intro _ _; trivial
  | cons env r ih =>
   intro hs hl
   obtain ⟨hk, ⟨L, o, hf, hn, ho, hd⟩, hr⟩ := hl
   have hL : L ∈ X.fs := hs L (by unfold frs; rw [List.filterMap_cons, hf]; exact List.mem_cons_self)
   obtain ⟨sl, e⟩ := I.base.slot L o ho (I.ok.frf L hL) hL fun z => I.ok.exfs L z hL
   exact ⟨hk, ⟨L, _, hf, hn, e, hd⟩, ih (fun b hb => hs b (by unfold frs; rw [List.filterMap_cons, hf]; exact List.mem_cons_of_mem _ hb)) hr⟩
 exact all X.outer (fun _ hb => hb) I.ok.funs
theorem Inv.stack (I : Inv X pins σ H s) : s.heap.FunFrames X.base X.stack := by
 rcases I.ok.stk with e | ⟨e, hf⟩
 ·rw [e]; exact I.funs
 ·rw [e]
  obtain ⟨m, hn, _⟩ := I.loc
  refine .cons (by rw [I.ok.kind]; decide) hf hn ?_ I.funs
  exact Heap.get?_none_of_le (Nat.le_trans I.ok.bsz I.ok.above)
theorem Inv.stkSub (I : Inv X pins σ H s) : ∀ b ∈ frs X.stack, b ∈ X.env.locals :: X.fs := fun b hb => by
 rcases I.ok.stk with e | ⟨e, hf⟩
 ·rw [e] at hb; exact List.mem_cons_of_mem _ hb
 ·rw [e] at hb
  unfold frs at hb
  rw [List.filterMap_cons, hf] at hb
  exact hb
theorem Inv.stkFree (I : Inv X pins σ H s) : ∀ b ∈ frs X.stack, H b = none := fun b hb => by
 rcases List.mem_cons.mp (I.stkSub b hb) with e | hb
 ·rw [e]; exact I.free
 ·obtain ⟨_, o, ho, _⟩ := I.ok.funs.mem hb
  exact I.base.free b o ho (I.ok.frf b hb) fun z => I.ok.exfs b z hb
theorem Inv.step {g' : Array GenState} {t' : Nat} {d' : Drawn} {ch : List Addr} (I : Inv X pins σ H s)
  (hch : ∀ b ∈ ch, (b ∈ X.ex \/ X.s₀.heap.objs.size <= b) /\ b ≠ X.env.locals /\ (∀ x c, X.env.cells.lookup x = some c -> c ≠ b) /\ ∀ p ∈ X.pn ++ pins, p.1 ≠ b)
  (keep : ∀ b o, b ≠ X.env.locals -> b ∉ X.fs -> b ∉ ch -> s.heap.get? b = some o -> H b = none -> h'.get? b = some o)
  (slot : ∀ b o, b ≠ X.env.locals -> b ∈ X.fs -> b ∉ ch -> s.heap.get? b = some o -> H b = none -> ∃ sl, h'.get? b = some { o with slots := sl }) (free : ∀ b o, b ∉ ch -> s.heap.get? b = some o -> H b = none -> H' b = none)
  (there : ∀ b o, b ∉ ch -> s.heap.get? b = some o -> ∃ o', h'.get? b = some o')
  (tups : ∀ b xs, H b = some (.tup xs) -> H' b = some (.tup xs)) (frzs : ∀ b o u, H b = some (.frz o u) -> H' b = some (.frz o u)) (tbls : ∀ b ps, H b = some (.tbl ps) -> ∃ more, H' b = some (.tbl (ps ++ more)))
  (ns : ∀ m, s.heap.Ns X.env.locals m -> h'.Ns X.env.locals m) (hok : HOk X.prog X.w H' h') (hg : AllBare g') :
  Inv X pins σ H' { s with heap := h', gens := g', drawn := d', toks := t' } := by
 have neL : ∀ b o, X.s₀.heap.get? b = some o -> b ≠ X.env.locals := fun b o e => Nat.ne_of_lt (Nat.lt_of_lt_of_le (Heap.lt_size e) I.ok.above)
 have neC : ∀ b o, X.s₀.heap.get? b = some o -> b ∉ X.ex -> b ∉ ch := fun b o e hx hb => by
  rcases (hch b hb).1 with z | z
  ·exact hx z
  ·exact absurd (Nat.lt_of_lt_of_le (Heap.lt_size e) z) (Nat.lt_irrefl _)
 have cellK : ∀ x c, X.env.cells.lookup x = some c -> ∀ v, s.heap.IsCell c v -> h'.IsCell c v := fun x c e v ⟨o, ho, hd⟩ => by
  have nch : c ∉ ch := fun z => (hch c z).2.2.1 x c e rfl
  by_cases hc : c ∈ X.fs
  ·obtain ⟨sl, q⟩ := slot c o (I.cne x c e) hc nch ho (I.freeC x c e)
   exact ⟨_, q, hd⟩
  ·exact ⟨o, keep c o (I.cne x c e) hc nch ho (I.freeC x c e), hd⟩
 refine ⟨I.ok, I.os, hg, ⟨fun b o e n hb hx => ?_, fun b o e n hb hx => ?_, fun b o e n hx => ?_, fun b o e hx => ?_, fun b xs e => tups b xs (I.base.tups b xs e), fun b o xs e => frzs b o xs (I.base.frzs b o xs e), fun b ps e => ?_⟩, ?_, fun x c e => ?_, ?_, fun x c e => ?_, fun p hp => ?_, hok, I.len⟩
 ·exact keep b o (neL b o e) hb (neC b o e hx) (I.base.keep b o e n hb hx) (I.base.free b o e n hx)
 ·obtain ⟨sl, e1⟩ := I.base.slot b o e n hb hx
  obtain ⟨sl', e2⟩ := slot b _ (neL b o e) hb (neC b o e hx) e1 (I.base.free b o e n hx)
  exact ⟨sl', e2⟩
 ·obtain ⟨o', e1⟩ := I.base.there b o e hx
  exact free b o' (neC b o e hx) e1 (I.base.free b o e n hx)
 ·obtain ⟨o', e1⟩ := I.base.there b o e hx
  exact there b o' (neC b o e hx) e1
 ·obtain ⟨m1, e1⟩ := I.base.tbls b ps e
  obtain ⟨m2, e2⟩ := tbls b _ e1
  exact ⟨m1 ++ m2, by rw [e2, Array.append_assoc]⟩
 ·obtain ⟨m, hn, hl⟩ := I.loc
  refine ⟨m, ns m hn, fun i x v e1 e2 e3 => ?_⟩
  obtain ⟨u, r, l⟩ := hl i x v e1 e2 e3
  refine ⟨u, r, ?_⟩
  rcases l with l | ⟨k, c, e, z⟩
  ·exact .inl l
  ·exact .inr ⟨k, c, e, cellK x c e _ z⟩
 ·obtain ⟨v, z⟩ := I.cell x c e
  exact ⟨v, cellK x c e v z⟩
 ·obtain ⟨m, ⟨o, _, _, ho, _⟩, _⟩ := I.loc
  exact free _ o (fun z => (hch _ z).2.1 rfl) ho I.free
 ·obtain ⟨v, o, ho, hd⟩ := I.cell x c e
  exact free c o (fun z => (hch c z).2.2.1 x c e rfl) ho (I.freeC x c e)
 ·obtain ⟨e, n, ne, nf, d⟩ := I.pin p hp
  have nch : p.1 ∉ ch := fun z => (hch p.1 z).2.2.2 p hp rfl
  exact ⟨keep p.1 p.2 ne nf nch e n, free p.1 p.2 nch e n, ne, nf, d⟩
theorem Inv.un {t' : Nat} (I : Inv X pins σ H s) (u : Un X.fs [] H H' s.heap h') (hok : HOk X.prog X.w H' h') : Inv X pins σ H' { s with heap := h', toks := t' } := by
 obtain ⟨m, ⟨o, es, ep, ho, r⟩, _⟩ := id I.loc
 obtain ⟨sl, hL⟩ := u.any ho I.free (by simp)
 exact I.step (g' := s.gens) (d' := s.drawn) (ch := []) (fun _ z => nomatch z) (fun b o _ hb _ e n => u.keep b o e n hb (by simp)) (fun b o _ hb _ e n => u.slot b o e n hb (by simp)) (fun b o _ e n => u.free b o e n (by simp)) (fun b o _ e => u.there b o e (by simp)) u.tups u.frzs u.tbls (fun m' hm => by
  obtain ⟨o', es', ep', ho', r'⟩ := hm
  rw [ho] at ho'; cases ho'
  exact ⟨_, es', ep', hL, r'⟩) hok I.bare
theorem Inv.call {g' : Array GenState} {t' : Nat} {d' : Drawn} {ch : List Addr} (I : Inv X pins σ H s) (u : Un (frs X.stack) ch H H' s.heap h') (hok : HOk X.prog X.w H' h') (hg : AllBare g')
  (hch : ∀ b ∈ ch, (b ∈ X.ex \/ X.s₀.heap.objs.size <= b) /\ b ≠ X.env.locals /\ (∀ x c, X.env.cells.lookup x = some c -> c ≠ b) /\ ∀ p ∈ X.pn ++ pins, p.1 ≠ b) :
  Inv X pins σ H' { s with heap := h', gens := g', drawn := d', toks := t' } := by
 obtain ⟨m, ⟨o, es, ep, ho, r⟩, _⟩ := id I.loc
 obtain ⟨sl, hL⟩ := u.any ho I.free fun z => (hch _ z).2.1 rfl
 exact I.step (ch := ch) hch (fun b o hL hb hc e n => u.keep b o e n (fun z => (List.mem_cons.mp (I.stkSub b z)).elim hL hb) hc) (fun b o _ _ hc e n => u.any e n hc) (fun b o hc e n => u.free b o e n hc) (fun b o hc e => u.there b o e hc) u.tups u.frzs u.tbls (fun m' hm => by
  obtain ⟨o', es', ep', ho', r'⟩ := hm
  rw [ho] at ho'; cases ho'
  exact ⟨_, es', ep', hL, r'⟩) hok hg
theorem Inv.turned {t' : Nat} {it : Addr} (I : Inv X pins σ H s) (k : ∀ b o, b ≠ it -> s.heap.get? b = some o -> h'.get? b = some o) (hn : H it = none) (hL : it ≠ X.env.locals)
  (h1 : it ∈ X.ex \/ X.s₀.heap.objs.size <= it) (h2 : ∀ x c, X.env.cells.lookup x = some c -> c ≠ it) (h3 : ∀ p ∈ X.pn ++ pins, p.1 ≠ it) : Inv X pins σ H { s with heap := h', toks := t' } := by
 have nit : ∀ b u, H b = some u -> b ≠ it := fun b u e z => by rw [z, hn] at e; cases e
 refine I.step (g' := s.gens) (d' := s.drawn) (ch := [it]) (fun b hb => ?_) (fun b o _ _ hc e _ => k b o (fun z => hc (by simp [z])) e) (fun b o _ _ hc e _ => ⟨o.slots, k b o (fun z => hc (by simp [z])) e⟩) (fun _ _ _ _ n => n)
  (fun b o hc e => ⟨o, k b o (fun z => hc (by simp [z])) e⟩) (fun _ _ e => e) (fun _ _ _ e => e) (fun b ps e => ⟨#[], by rw [e]; simp⟩) (fun m hm => ?_) (fun b u e => ?_) I.bare
 ·have e : b = it := by simpa using hb
  subst e
  exact ⟨h1, hL, h2, h3⟩
 ·obtain ⟨o, es, ep, ho, r⟩ := hm
  exact ⟨o, es, ep, k _ o (Ne.symm hL) ho, r⟩
 ·refine (I.hok b u e).stay (fun c v hc q => k c v ?_ q) (fun _ q => q) fun _ _ q => q
  rcases hc with z | z
  ·rw [z]; exact nit b u e
  ·exact nit c _ z
theorem Inv.tok (I : Inv X pins σ H s) (t : Nat) : Inv X pins σ H { s with toks := t } := I.un (h' := s.heap) (t' := t) Un.refl I.hok
theorem Inv.kept {t' : Nat} (I : Inv X pins σ H s) (k : ∀ b u, s.heap.get? b = some u -> h'.get? b = some u) : Inv X pins σ H { s with heap := h', toks := t' } := I.un (Un.kept k) (I.hok.kept k)
theorem Inv.laid {a : Addr} {o : HO} {t' : Nat} (I : Inv X pins σ H s) (k : ∀ b u, s.heap.get? b = some u -> h'.get? b = some u) (hp : s.heap.objs.size <= a) (new : qu X.prog X.w (upd H a o) h' a o) :
  Inv X pins σ (upd H a o) { s with heap := h', toks := t' } := I.un (Un.laid k hp (I.hok.fresh hp)) (I.hok.laid k hp new)
theorem Inv.write {x e : Addr} {o : HO} {t' : Nat} (I : Inv X pins σ H s) (mu : Mut (H x)) (he : e = x \/ H e = some (.own x)) (k : ∀ b u, b ≠ e -> s.heap.get? b = some u -> h'.get? b = some u) (heo : ∃ u, h'.get? e = some u)
  (new : qu X.prog X.w (upd H x o) h' x o) : Inv X pins σ (upd H x o) { s with heap := h', toks := t' } := I.un (Un.write mu he k heo) (I.hok.write mu he k heo new)
theorem Inv.pins_of {pins' : List (Addr × Obj)} (I : Inv X pins σ H s) (h : ∀ p ∈ pins', s.heap.get? p.1 = some p.2 /\ H p.1 = none /\ p.1 ≠ X.env.locals /\ p.1 ∉ X.fs /\ ∀ v, p.2.data ≠ .cell v) : Inv X pins' σ H s :=
 ⟨I.ok, I.os, I.bare, I.base, I.loc, I.cell, I.free, I.freeC, fun p hp => (List.mem_append.mp hp).elim (fun z => I.pin p (List.mem_append_left _ z)) (h p), I.hok, I.len⟩
theorem yb {N : List Str} (hN : N.Nodup) {i j : Nat} {x : Str} (a : N[i]? = some x) (b : N[j]? = some x) : i = j := by
 obtain ⟨h1, e1⟩ := List.getElem?_eq_some_iff.mp a
 obtain ⟨h2, e2⟩ := List.getElem?_eq_some_iff.mp b
 exact (List.getElem_inj hN).mp (e1.trans e2.symm)
theorem wD {M : Model} {A : Around} {E : Value -> Shared -> Prop} {i : Nat} {x : Str} {v : V} {u : Value} {Q : Unit -> Shared -> Prop} (I : Inv X pins σ H s) (hN : X.N.Nodup) (hi : X.N[i]? = some x) (hx : Loc X.env.scope x) (r : RelV v u)
  (h : ∀ s', Inv X pins (σ.set i (some v)) H s' -> (∃ a, Heap.SameBut a s.heap s'.heap /\ (a = X.env.locals \/ X.env.cells.lookup x = some a)) -> Q () s') (hf : X.fn x = true \/ X.env.scope.names.lookup x = some .local := by first | exact .inl rfl | exact .inr rfl | assumption) : wpAny M A (storeName X.env x u) Q E s := by
 obtain ⟨m, hn, hl⟩ := id I.loc
 have hcls : (X.env.scope.kind == .class || (X.env.scope.kind == .module && X.env.locals != X.env.globals)) = false := by rw [I.ok.kind]; rfl
 have hiσ : i < σ.length := by rw [I.len]; exact (List.getElem?_eq_some_iff.mp hi).1
 have cne := I.cne
 have tracked : ∀ {a : Addr} {h' : Heap}, (∃ o, s.heap.get? a = some o /\ H a = none) -> Heap.SameBut a s.heap h' -> HOk X.prog X.w H h' := fun {a h'} ha hs b ob e => by
  obtain ⟨_, _, hfree⟩ := ha
  refine (I.hok b ob e).stay (fun c w' hc q => (hs.2 c ?_).trans q) (fun _ q => q) fun _ _ q => q
  rintro rfl
  rcases hc with rfl | hc
  ·rw [hfree] at e; cases e
  ·rw [hfree] at hc; cases hc
 rcases hx with hk | hk
 ·refine wpAny_storeName_local hk hn (fun h' hn' hs => ?_) hcls
  obtain ⟨oL, _, _, hoL, _⟩ := id hn
  refine h _ ⟨I.ok, I.os, I.bare, ⟨fun b o e n hb hx => ?_, fun b o e n hb hx => ?_, I.base.free, fun b o e hx => ?_, I.base.tups, I.base.frzs, I.base.tbls⟩, ⟨_, hn', fun j y v' e1 e2 e3 => ?_⟩, fun y c e => ?_, I.free, I.freeC, fun p hp => ?_, tracked ⟨oL, hoL, I.free⟩ hs, by simpa using I.len⟩ ⟨_, hs, .inl rfl⟩
  ·exact (hs.2 b (Nat.ne_of_lt (Nat.lt_of_lt_of_le (Heap.lt_size e) I.ok.above))).trans (I.base.keep b o e n hb hx)
  ·obtain ⟨sl, e1⟩ := I.base.slot b o e n hb hx
   exact ⟨sl, (hs.2 b (Nat.ne_of_lt (Nat.lt_of_lt_of_le (Heap.lt_size e) I.ok.above))).trans e1⟩
  ·obtain ⟨o', e1⟩ := I.base.there b o e hx
   exact ⟨o', (hs.2 b (Nat.ne_of_lt (Nat.lt_of_lt_of_le (Heap.lt_size e) I.ok.above))).trans e1⟩
  ·by_cases hj : j = i
   ·subst hj
    rw [hi] at e1; cases e1
    rw [List.getElem?_set_self hiσ] at e2
    cases e2
    exact ⟨u, r, .inl ⟨hk, by simp⟩⟩
   ·rw [List.getElem?_set_ne (Ne.symm hj)] at e2
    obtain ⟨u', r', q⟩ := hl j y v' e1 e2 e3
    refine ⟨u', r', ?_⟩
    rcases q with ⟨k, e⟩ | ⟨k, c, e, z⟩
    ·refine .inl ⟨k, ?_⟩
     have : y ≠ x := fun e => hj (yb hN e1 (e ▸ hi))
     simp [this, e]
    ·exact .inr ⟨k, c, e, z.sameBut hs (cne y c e)⟩
  ·obtain ⟨w', z⟩ := I.cell y c e
   exact ⟨w', z.sameBut hs (cne y c e)⟩
  ·obtain ⟨e, n, ne, nf, d⟩ := I.pin p hp
   exact ⟨(hs.2 p.1 ne).trans e, n, ne, nf, d⟩
 ·have hfn : X.fn x = true := by
   rcases hf with z | z
   ·exact z
   ·rw [z] at hk; cases hk
  obtain ⟨c, hc⟩ := I.ok.has x (.inl hk)
  obtain ⟨w', z⟩ := I.cell x c hc
  refine wpAny_storeName_cell I.ok.kind hk hc z (fun h' hc' hs => ?_)
  obtain ⟨oc, hoc, hocd⟩ := id z
  refine h { s with heap := h' } ⟨I.ok, I.os, I.bare, ⟨fun b o e n hb hx => ?_, fun b o e n hb hx => ?_, I.base.free, fun b o e hx => ?_, I.base.tups, I.base.frzs, I.base.tbls⟩, ⟨m, hn.sameBut hs (Ne.symm (cne x c hc)), fun j y v' e1 e2 e3 => ?_⟩, fun y c' e => ?_, I.free, I.freeC, fun p hp => ?_, tracked ⟨oc, hoc, I.freeC x c hc⟩ hs, by simpa using I.len⟩ ⟨c, hs, .inr hc⟩
  ·exact (hs.2 b (Nat.ne_of_lt (Nat.lt_of_lt_of_le (Heap.lt_size e) (I.ok.cab x c hfn hc)))).trans (I.base.keep b o e n hb hx)
  ·obtain ⟨sl, e1⟩ := I.base.slot b o e n hb hx
   exact ⟨sl, (hs.2 b (Nat.ne_of_lt (Nat.lt_of_lt_of_le (Heap.lt_size e) (I.ok.cab x c hfn hc)))).trans e1⟩
  ·obtain ⟨o', e1⟩ := I.base.there b o e hx
   exact ⟨o', (hs.2 b (Nat.ne_of_lt (Nat.lt_of_lt_of_le (Heap.lt_size e) (I.ok.cab x c hfn hc)))).trans e1⟩
  ·by_cases hj : j = i
   ·subst hj
    rw [hi] at e1; cases e1
    rw [List.getElem?_set_self hiσ] at e2
    cases e2
    exact ⟨u, r, .inr ⟨.inl hk, c, hc, hc'⟩⟩
   ·rw [List.getElem?_set_ne (Ne.symm hj)] at e2
    obtain ⟨u', r', q⟩ := hl j y v' e1 e2 e3
    refine ⟨u', r', ?_⟩
    rcases q with q | ⟨k, c', e, z'⟩
    ·exact .inl q
    ·refine .inr ⟨k, c', e, z'.sameBut hs ?_⟩
     rintro rfl
     exact hj (yb hN e1 (I.ok.inj _ _ _ e hc ▸ hi))
  ·by_cases hcc : c' = c
   ·subst hcc; exact ⟨_, hc'⟩
   ·obtain ⟨w2, z2⟩ := I.cell y c' e
    exact ⟨w2, z2.sameBut hs hcc⟩
  ·obtain ⟨e, n, ne, nf, d⟩ := I.pin p hp
   refine ⟨(hs.2 p.1 ?_).trans e, n, ne, nf, d⟩
   intro q
   rw [q, hoc] at e
   have q' : oc = p.2 := Option.some.inj e
   exact d w' (by rw [<- q']; exact hocd)
theorem yc {M : Model} {A : Around} {E : Value -> Shared -> Prop} {i : Nat} {x : Str} {v : V} {u : Value} {Q : Unit -> Shared -> Prop} (I : Inv X pins σ H s) (hN : X.N.Nodup) (hi : X.N[i]? = some x) (hx : Loc X.env.scope x) (r : RelV v u)
  (h : ∀ s', Inv X pins (σ.set i (some v)) H s' -> Q () s') (hf : X.fn x = true \/ X.env.scope.names.lookup x = some .local := by first | exact .inl rfl | exact .inr rfl | assumption) : wpAny M A (storeName X.env x u) Q E s :=
 wD I hN hi hx r (fun s' I' _ => h s' I') hf
theorem Inv.call' {s' : Shared} {ch : List Addr} (I : Inv X pins σ H s) (ho : s'.os = s.os) (u : Un (frs X.stack) ch H H' s.heap s'.heap) (hok : HOk X.prog X.w H' s'.heap) (hg : AllBare s'.gens)
  (hch : ∀ b ∈ ch, (b ∈ X.ex \/ X.s₀.heap.objs.size <= b) /\ b ≠ X.env.locals /\ (∀ x c, X.env.cells.lookup x = some c -> c ≠ b) /\ ∀ p ∈ X.pn ++ pins, p.1 ≠ b) : Inv X pins σ H' s' := by
 obtain ⟨h', g', d', t', o'⟩ := s'
 have e : o' = s.os := ho
 subst e
 exact I.call (g' := g') (t' := t') (d' := d') u hok hg hch
end
abbrev XK := Value -> Option Addr -> Hp -> Prop
abbrev St := List (Option V)
abbrev VK := V -> Hp -> Prop
abbrev TE := St -> Hp -> VK -> Prop
abbrev TT := St -> Hp -> (Bool -> Hp -> Prop) -> Prop
abbrev TA := St -> Hp -> (List V -> Hp -> Prop) -> Prop
structure Ends where
 nx : St -> Hp -> Prop
 rt : VK
 bk : St -> Hp -> Prop := fun _ _ => False
 ct : St -> Hp -> Prop := fun _ _ => False
abbrev TS := Ends -> St -> Hp -> Prop
def EP (X : Cx) (pins : List (Addr × Obj)) (σ : St) (Q : VK) (u : Value) (s' : Shared) : Prop := ∃ v H', Inv X pins σ H' s' /\ RelV v u /\ Q v H'
def TP (X : Cx) (pins : List (Addr × Obj)) (σ : St) (Q : Bool -> Hp -> Prop) (b : Bool) (s' : Shared) : Prop := ∃ H', Inv X pins σ H' s' /\ Q b H'
def AP (X : Cx) (pins : List (Addr × Obj)) (σ : St) (Q : List V -> Hp -> Prop) (us : List Value) (s' : Shared) : Prop := ∃ vs H', Inv X pins σ H' s' /\ qo vs us /\ Q vs H'
def SP (X : Cx) (pins : List (Addr × Obj)) (D : Ends) (f : Flow) (s' : Shared) : Prop :=
 match f with
 | .next => ∃ σ' H', Inv X pins σ' H' s' /\ D.nx σ' H'
 | .brk => ∃ σ' H', Inv X pins σ' H' s' /\ D.bk σ' H'
 | .cont => ∃ σ' H', Inv X pins σ' H' s' /\ D.ct σ' H'
 | .ret u => ∃ v σ' H', Inv X pins σ' H' s' /\ RelV v u /\ D.rt v H'
def PE (X : Cx) (e : Expr) (t : TE) : Prop :=
 ∀ (pins : List (Addr × Obj)) (s : Shared) (σ : St) (H : Hp) (Q : VK), Inv X pins σ H s -> t σ H Q -> wpAny (model X.prog X.w) X.A (eval e X.env) (EP X pins σ Q) X.xe s
def PT (X : Cx) (e : Expr) (t : TT) : Prop :=
 ∀ (pins : List (Addr × Obj)) (s : Shared) (σ : St) (H : Hp) (Q : Bool -> Hp -> Prop), Inv X pins σ H s -> t σ H Q -> wpAny (model X.prog X.w) X.A (isTrue e X.env (eval e X.env)) (TP X pins σ Q) X.xe s
def PW (X : Cx) (e : Expr) (t : TT) : Prop :=
 ∀ (whole : Sem Value) (pins : List (Addr × Obj)) (s : Shared) (σ : St) (H : Hp) (Q : Bool -> Hp -> Prop), Inv X pins σ H s -> t σ H Q -> wpAny (model X.prog X.w) X.A (isTrue e X.env whole) (TP X pins σ Q) X.xe s
theorem PW.pt {X : Cx} {e : Expr} {t : TT} (h : PW X e t) : PT X e t := h _
def PA (X : Cx) (es : List Expr) (t : TA) : Prop :=
 ∀ (pos : Pos) (pins : List (Addr × Obj)) (s : Shared) (σ : St) (H : Hp) (Q : List V -> Hp -> Prop), Inv X pins σ H s -> t σ H Q -> wpAny (model X.prog X.w) X.A (spliced (backTo pos (starEach es X.env))) (AP X pins σ Q) X.xe s
def PS (X : Cx) (st : Stmt) (t : TS) : Prop :=
 ∀ (pins : List (Addr × Obj)) (s : Shared) (σ : St) (H : Hp) (D : Ends), Inv X pins σ H s -> t D σ H -> wpAny (model X.prog X.w) X.A (exec st X.env) (SP X pins D) X.xe s
def PSs (X : Cx) (st : List Stmt) (t : TS) : Prop :=
 ∀ (pins : List (Addr × Obj)) (s : Shared) (σ : St) (H : Hp) (D : Ends), Inv X pins σ H s -> t D σ H -> wpAny (model X.prog X.w) X.A (execs st X.env) (SP X pins D) X.xe s
theorem thn {α : Type} {t : Sem α} {Q Q' : α -> Shared -> Prop} {M : Model} {A : Around} {E : Value -> Shared -> Prop} {s : Shared} (h : wpAny M A t Q E s) (hQ : ∀ a s, Q a s -> Q' a s) : wpAny M A t Q' E s := wpAny_mono h hQ fun _ _ x => x
end L2
namespace L2
open PySem PySem.Spec PyProof.Rows
section
variable {X : Cx}
def tVar (i : Nat) : TE := fun σ H Q => ∃ v, σ[i]? = some (some v) /\ Q v H
def tC (v : V) : TE := fun _ H Q => Q v H
theorem pe_var {i : Nat} {x : Str} {pos : Pos} (hN : X.N[i]? = some x) (hv : Vis X.env.scope x) (hd : (x == ("__debug__" : Str)) = false := by decide) (hcd : (x == ("__classdict__" : Str)) = false := by decide) : PE X (.Name x pos) (tVar i) := by
 intro pins s σ H Q I h
 obtain ⟨v, e, h⟩ := h
 obtain ⟨m, hn, hl⟩ := I.loc
 obtain ⟨u, r, l⟩ := hl i x v hN e hv
 have fin : EP X pins σ Q u s := ⟨v, H, I, r, h⟩
 rcases l with ⟨hk, hm⟩ | ⟨hk, c, hc, hcell⟩
 ·exact wpAny_Name (wpAny_loadName_local I.ok.kind hk hn hm fin) hd
 ·rcases hk with hk | hk
  ·exact wpAny_Name (wpAny_loadName_cell I.ok.kind hk hc hcell fin) hd
  ·exact wpAny_Name (wpAny_loadName_free I.ok.kind hk hc hcell fin hcd) hd
theorem zh {i j pos} : PE X (.Constant (.int i) j pos) (tC (.int i)) := fun _ _ _ H _ I h => wpAny_Constant_int ⟨.int i, H, I.tok _, ⟨_, rfl⟩, h⟩
theorem Qg {b j pos} : PE X (.Constant (.bool b) j pos) (tC (.bl b)) := fun _ _ _ H _ I h => Constant_bool ⟨.bl b, H, I, rfl, h⟩
theorem pe_non {j pos} : PE X (.Constant .none j pos) (tC .non) := fun _ _ _ H _ I h => Constant_none ⟨.non, H, I, rfl, h⟩
theorem qO {x j pos} : PE X (.Constant (.str x) j pos) (tC (.str x)) := fun _ _ _ H _ I h => Calls.Constant_str ⟨.str x, H, I.tok _, ⟨_, rfl⟩, h⟩
def Gl (X : Cx) (x : Str) : Prop := X.env.kindOf x = some .globalImplicit
theorem ld_glob {E : Value -> Shared -> Prop} {pins : List (Addr × Obj)} {s : Shared} {σ : St} {H : Hp} {x : Str} {u : Value} {pos : Pos} {Q : Value -> Shared -> Prop} (I : Inv X pins σ H s) (hg : Gl X x) (hm : X.mg x = some u) (h : Q u s)
  (hd : (x == ("__debug__" : Str)) = false := by decide) : wpAny (model X.prog X.w) X.A (eval (.Name x pos) X.env) Q E s :=
 Calls.Name_function_global I.ok.kind hg (Calls.loadGlobal_global (by rw [I.ok.glob]; exact I.mod.glob.keeps I.bk) hm h) hd
theorem ZR {E : Value -> Shared -> Prop} {pins : List (Addr × Obj)} {s : Shared} {σ : St} {H : Hp} {x : Str} {u : Value} {pos : Pos} {Q : Value -> Shared -> Prop} (I : Inv X pins σ H s) (hg : Gl X x) (hm : X.mg x = none) (hv : bootBuiltins x = some u) (h : Q u s)
  (hn : x ≠ "__name__" := by decide) (hd : (x == ("__debug__" : Str)) = false := by decide) : wpAny (model X.prog X.w) X.A (eval (.Name x pos) X.env) Q E s := by
 obtain ⟨mb, h1, h2⟩ := I.mod.blt
 exact Calls.Name_function_global I.ok.kind hg (Calls.loadGlobal_builtin (by rw [I.ok.glob]; exact I.mod.glob.keeps I.bk) hm (by rw [I.ok.blt]; exact h1.keeps I.bk) ((h2 x hn).trans hv) h) hd
theorem jt {x : Str} {v : V} {u : Value} {pos : Pos} (hg : Gl X x) (hm : X.mg x = none) (hv : bootBuiltins x = some u) (r : RelV v u) (hn : x ≠ "__name__" := by decide) (hd : (x == ("__debug__" : Str)) = false := by decide) : PE X (.Name x pos) (tC v) :=
 fun _ _ _ H _ I h => ZR I hg hm hv ⟨v, H, I, r, h⟩ hn hd
variable {a b : Expr} {ta tb : TE} {pos : Pos}
def tB (t : TE) : TT := fun σ H Q => t σ H fun x H1 => ∃ c, x = .bl c /\ Q c H1
theorem qF {e : Expr} {t : TE} (h : PE X e t) (he : ∀ whole, isTrue e X.env whole = (do let v <- whole; standAt e.pos; holding [v] (truthy v)) := by intro _; rfl) : PT X e (tB t) := by
 intro pins s σ H Q I hw
 refine isTrue_plain (thn (h pins s σ H _ I hw) fun v s1 ⟨x, H1, I1, r1, q1⟩ => ?_) (he _)
 obtain ⟨d, rfl, q⟩ := q1
 cases r1
 exact wpAny_truthy_bool ⟨H1, I1, q⟩
variable {tA tB' : TT} {rest : List Expr}
def tAnd (t u : TT) : TT := fun σ H Q => t σ H fun c H1 => if c = true then u σ H1 Q else Q false H1
def tOr (t u : TT) : TT := fun σ H Q => t σ H fun c H1 => if c = true then Q true H1 else u σ H1 Q
def tNot (t : TT) : TT := fun σ H Q => t σ H fun c H1 => Q (!c) H1
theorem YB (ha : PT X a tA) : PW X (.BoolOp .And [a] pos) tA := by
 intro wh pins s σ H Q I h
 refine isTrue_and (thn (ha pins s σ H Q I h) fun c s1 e => ?_)
 cases c with
 | true => exact isTrue_and_nil e
 | false => exact e
theorem Jt (ha : PT X a tA) : PW X (.BoolOp .Or [a] pos) tA := by
 intro wh pins s σ H Q I h
 refine isTrue_or (thn (ha pins s σ H Q I h) fun c s1 e => ?_)
 cases c with
 | false => exact isTrue_or_nil e
 | true => exact e
theorem pw_and (ha : PT X a tA) (hb : PW X (.BoolOp .And (b :: rest) pos) tB') : PW X (.BoolOp .And (a :: b :: rest) pos) (tAnd tA tB') := by
 intro wh pins s σ H Q I h
 refine isTrue_and (thn (ha pins s σ H _ I h) fun c s1 ⟨H1, I1, q1⟩ => ?_)
 cases c with
 | true => exact hb wh pins s1 σ H1 Q I1 q1
 | false => exact ⟨H1, I1, q1⟩
theorem Jk (ha : PT X a tA) (hb : PW X (.BoolOp .Or (b :: rest) pos) tB') : PW X (.BoolOp .Or (a :: b :: rest) pos) (tOr tA tB') := by
 intro wh pins s σ H Q I h
 refine isTrue_or (thn (ha pins s σ H _ I h) fun c s1 ⟨H1, I1, q1⟩ => ?_)
 cases c with
 | true => exact ⟨H1, I1, q1⟩
 | false => exact hb wh pins s1 σ H1 Q I1 q1
theorem jR (ha : PT X a tA) : PT X (.UnaryOp .Not a pos) (tNot tA) := by
 intro pins s σ H Q I h
 exact isTrue_not (ha pins s σ H (fun c H1 => Q (!c) H1) I h)
def tAndV (ta tb : TE) : TE := fun σ H Q => ta σ H fun x H1 => ∃ c, x = .bl c /\ if c = true then tb σ H1 Q else Q (.bl false) H1
def tNotV (ta : TE) : TE := fun σ H Q => ta σ H fun x H1 => ∃ c, x = .bl c /\ Q (.bl (!c)) H1
theorem pe_one {op} {t : TE} (h : PE X a t) : PE X (.BoolOp op [a] pos) t := fun pins s σ H Q I hw => BoolOp_one (h pins s σ H Q I hw)
theorem YC (ha : PE X a ta) (hb : PE X (.BoolOp .And (b :: rest) pos) tb) : PE X (.BoolOp .And (a :: b :: rest) pos) (tAndV ta tb) := by
 intro pins s σ H Q I h
 refine BoolOp_and (thn (ha pins s σ H _ I h) fun v s1 ⟨x, H1, I1, r1, q1⟩ => ?_)
 obtain ⟨c, rfl, q1⟩ := q1
 cases r1
 refine wpAny_truthy_bool ?_
 cases c with
 | true => exact hb pins s1 σ H1 Q I1 q1
 | false => exact ⟨.bl false, H1, I1, rfl, q1⟩
theorem pe_not (ha : PE X a ta) : PE X (.UnaryOp .Not a pos) (tNotV ta) := by
 intro pins s σ H Q I h
 refine UnaryOp_ (thn (ha pins s σ H _ I h) fun v s1 ⟨x, H1, I1, r1, q1⟩ => ?_)
 obtain ⟨c, rfl, q1⟩ := q1
 cases r1
 exact not_of (wpAny_truthy_bool ⟨.bl (!c), H1, I1, rfl, q1⟩)
def tIf (t : TT) (ta tb : TE) : TE := fun σ H Q => t σ H fun c H1 => if c = true then ta σ H1 Q else tb σ H1 Q
theorem yd {c : Expr} (hc : PT X c tA) (ha : PE X a ta) (hb : PE X b tb) : PE X (.IfExp c a b pos) (tIf tA ta tb) := by
 intro pins s σ H Q I h
 refine wpAny_IfExp (thn (hc pins s σ H _ I h) fun d s1 ⟨H1, I1, q1⟩ => ?_)
 cases d with
 | true => exact ha pins s1 σ H1 Q I1 q1
 | false => exact hb pins s1 σ H1 Q I1 q1
end
end L2
namespace L2
open PySem PySem.Spec PyProof.Rows
def SqL (K : PySem.W.Frag) (H : Hp) (a : Addr) (xs : List V) : Prop :=
 Rd H a (.lst xs) \/
  ∃ (o : Obj) (its : Array Value) (n : Nat), K.lookup a = some o /\ o.cls = .type "list" /\ o.dict = none /\ o.data = .seq its n /\ its.size <= sizeLine /\ qo xs its.toList
def SqT (K : PySem.W.Frag) (H : Hp) (a : Addr) (xs : List V) : Prop :=
 Rd H a (.tup xs) \/
  ∃ (o : Obj) (its : Array Value) (n : Nat), K.lookup a = some o /\ o.cls = .type "tuple" /\ o.data = .seq its n /\ its.size <= sizeLine /\ qo xs its.toList
def absV : Value -> Option V
 | .none => some .non
 | .bool b => some (.bl b)
 | .int i _ => some (.int i)
 | .str x _ => some (.str x)
 | .bytes b _ => some (.byt b)
 | .float b _ => some (.flt b)
 | .ref a => some (.ref a)
 | .type n => some (.ty n)
 | _ => none
theorem RelV.abs {x : V} {u : Value} (r : RelV x u) : absV u = some x := by
 cases x with
 | non => cases r; rfl
 | bl _ => cases r; rfl
 | int _ => obtain ⟨t, rfl⟩ := r; rfl
 | str _ => obtain ⟨t, rfl⟩ := r; rfl
 | byt _ => obtain ⟨t, rfl⟩ := r; rfl
 | flt _ => obtain ⟨t, rfl⟩ := r; rfl
 | ref _ => cases r; rfl
 | ty _ => cases r; rfl
theorem RelV.inj {x y : V} {u : Value} (r : RelV x u) (q : RelV y u) : x = y := Option.some.inj (r.abs.symm.trans q.abs)
theorem qo.inj : ∀ {xs ys : List V} {us : List Value}, qo xs us -> qo ys us -> xs = ys
 | _, _, _, .nil, .nil => rfl
 | _, _, _, .cons r t, .cons r' t' => by rw [r.inj r', qo.inj t t']
section
variable {X : Cx} {pins : List (Addr × Obj)} {σ : St} {H : Hp} {s : Shared} {a : Addr} {xs ys : List V}
theorem SqL.of {K : PySem.W.Frag} (h : H a = some (.lst xs)) : SqL K H a xs := .inl (.inl h)
theorem SqT.of {K : PySem.W.Frag} (h : H a = some (.tup xs)) : SqT K H a xs := .inl (.inl h)
theorem Inv.list (I : Inv X pins σ H s) (h : SqL X.K H a xs) : ∃ its : List Value, qo xs its /\ PlainL s.heap a its.toArray /\ xs.length <= sizeLine := by
 rcases h with h | ⟨o, its, n, hk, hc, hd, hs, hz, r⟩
 ·obtain ⟨z, its, n, r, e⟩ := h.ok I.hok
  exact ⟨its, r, ⟨_, n, e, rfl, rfl, rfl⟩, z⟩
 ·refine ⟨its.toList, r, ⟨o, n, I.kIn a o hk, hc, hd, by simpa using hs⟩, ?_⟩
  have e := r.length
  simp only [Array.length_toList] at e
  omega
theorem Inv.tuple (I : Inv X pins σ H s) (h : SqT X.K H a xs) : ∃ its : List Value, qo xs its /\ IsTup s.heap a its.toArray /\ xs.length <= sizeLine := by
 rcases h with h | ⟨o, its, n, hk, hc, hs, hz, r⟩
 ·obtain ⟨z, its, r, p⟩ := h.ok I.hok
  exact ⟨its, r, p.isTup, z⟩
 ·refine ⟨its.toList, r, ⟨o, I.kIn a o hk, hc, n, by simpa using hs⟩, ?_⟩
  have e := r.length
  simp only [Array.length_toList] at e
  omega
theorem Inv.list_inj (I : Inv X pins σ H s) (h : SqL X.K H a xs) (h' : SqL X.K H a ys) : xs = ys := by
 obtain ⟨its, r, ⟨o, n, e, _, _, d⟩, _⟩ := I.list h
 obtain ⟨its', r', ⟨o', n', e', _, _, d'⟩, _⟩ := I.list h'
 rw [e] at e'; cases e'
 rw [d] at d'
 injection d' with d1 _
 have : its = its' := by simpa using congrArg Array.toList d1
 subst this
 exact r.inj r'
theorem Inv.tuple_inj (I : Inv X pins σ H s) (h : SqT X.K H a xs) (h' : SqT X.K H a ys) : xs = ys := by
 obtain ⟨its, r, ⟨o, e, _, n, d⟩, _⟩ := I.tuple h
 obtain ⟨its', r', ⟨o', e', _, n', d'⟩, _⟩ := I.tuple h'
 rw [e] at e'; cases e'
 rw [d] at d'
 injection d' with d1 _
 have : its = its' := by simpa using congrArg Array.toList d1
 subst this
 exact r.inj r'
end
abbrev Cx.wish (X : Cx) (E : Value -> Shared -> Prop) : Cx := { X with xe := E }
abbrev Cx.nox (X : Cx) : Cx := X.wish fun _ _ => False
theorem Cx.Ok.wish {X : Cx} (ok : X.Ok) (E : Value -> Shared -> Prop) : (X.wish E).Ok :=
 ⟨ok.mod, ok.kind, ok.glob, ok.blt, ok.above, ok.inj, ok.has, ok.cab, ok.hd, ok.frames, ok.stk, ok.exf, ok.bs, ok.bsz, ok.noex, ok.exfs, ok.funs, ok.frf⟩
theorem Cx.Ok.unwish {X : Cx} {E : Value -> Shared -> Prop} (ok : (X.wish E).Ok) : X.Ok :=
 ⟨ok.mod, ok.kind, ok.glob, ok.blt, ok.above, ok.inj, ok.has, ok.cab, ok.hd, ok.frames, ok.stk, ok.exf, ok.bs, ok.bsz, ok.noex, ok.exfs, ok.funs, ok.frf⟩
section
variable {X : Cx} {pins : List (Addr × Obj)} {σ : St} {H : Hp} {s : Shared} {E : Value -> Shared -> Prop}
theorem Inv.wish (I : Inv X pins σ H s) (E : Value -> Shared -> Prop) : Inv (X.wish E) pins σ H s := ⟨I.ok.wish E, I.os, I.bare, I.base, I.loc, I.cell, I.free, I.freeC, I.pin, I.hok, I.len⟩
theorem Inv.unwish (I : Inv (X.wish E) pins σ H s) : Inv X pins σ H s := ⟨I.ok.unwish, I.os, I.bare, I.base, I.loc, I.cell, I.free, I.freeC, I.pin, I.hok, I.len⟩
theorem SP.unwish {D : Ends} {f : Flow} {s' : Shared} (h : SP (X.wish E) pins D f s') : SP X pins D f s' := by
 cases f with
 | next => obtain ⟨σ', H', I, q⟩ := h; exact ⟨σ', H', I.unwish, q⟩
 | brk => obtain ⟨σ', H', I, q⟩ := h; exact ⟨σ', H', I.unwish, q⟩
 | cont => obtain ⟨σ', H', I, q⟩ := h; exact ⟨σ', H', I.unwish, q⟩
 | ret u => obtain ⟨v, σ', H', I, r, q⟩ := h; exact ⟨v, σ', H', I.unwish, r, q⟩
theorem PSs.nox {st : List Stmt} {t : TS} (h : PSs X.nox st t) : PSs X st t := fun pins s σ H D I hw =>
 wpAny_mono (h pins s σ H D (I.wish _) hw) (fun _ _ q => q.unwish) fun _ _ z => False.elim z
end
section
variable {X : Cx} {st : Stmt} {rest : List Stmt} {t u : TS} {e : Expr} {te : TE} {pos : Pos}
def tNext : TS := fun D σ H => D.nx σ H
def tSeq (t u : TS) : TS := fun D σ H => t { D with nx := u D } σ H
theorem zI : PSs X [] tNext := fun _ _ σ H _ I h => wpAny_execs_nil ⟨σ, H, I, h⟩
theorem ze (h1 : PS X st t) (h2 : PSs X rest u) : PSs X (st :: rest) (tSeq t u) := by
 intro pins s σ H D I h
 refine wpAny_execs_cons (thn (h1 pins s σ H { D with nx := u D } I h) fun f s1 q => ?_)
 cases f with
 | next =>
  obtain ⟨σ', H', I', q⟩ := q
  exact h2 pins s1 σ' H' D I' q
 | ret v => exact q
 | brk => exact q
 | cont => exact q
theorem zi (h1 : PS X st t) : PSs X [st] t := by
 intro pins s σ H D I h
 refine wpAny_execs_cons (thn (h1 pins s σ H D I h) fun f s1 q => ?_)
 cases f with
 | next => exact wpAny_execs_nil q
 | ret v => exact q
 | brk => exact q
 | cont => exact q
theorem Inv.quiet {pins : List (Addr × Obj)} {σ : St} {H : Hp} {s : Shared} (I : Inv X pins σ H s) : interactive X.env = false := by simp [interactive, I.ok.kind]
def tDrop (te : TE) : TS := fun D σ H => te σ H fun _ H1 => D.nx σ H1
theorem jL (he : PE X e te) (hs : swapsWith e none pos.line X.env = pure false := by rfl) : PS X (.Expr e pos) (tDrop te) := by
 intro pins s σ H D I h
 exact wpAny_Expr_any (thn (he pins s σ H _ I h) fun v s1 ⟨x, H1, I1, r1, q1⟩ => ⟨σ, H1, I1, q1⟩) I.quiet hs
def tRet (te : TE) : TS := fun D σ H => te σ H D.rt
theorem zy (he : PE X e te) : PS X (.Return (some e) pos) (tRet te) := by
 intro pins s σ H D I h
 exact wpAny_Return_some (thn (he pins s σ H _ I h) fun v s1 ⟨x, H1, I1, r1, q1⟩ => ⟨x, σ, H1, I1, r1, q1⟩)
def tIfS (c : TT) (t u : TS) : TS := fun D σ H => c σ H fun b H1 => if b = true then t D σ H1 else u D σ H1
theorem qR {c : Expr} {a b : List Stmt} {tc : TT} (hc : PT X c tc) (ha : PSs X a t) (hb : PSs X b u) : PS X (.If c a b pos) (tIfS tc t u) := by
 intro pins s σ H D I h
 refine wpAny_If (thn (hc pins s σ H _ I h) fun d s1 ⟨H1, I1, q1⟩ => ?_)
 cases d with
 | true => exact ha pins s1 σ H1 D I1 q1
 | false => exact hb pins s1 σ H1 D I1 q1
def tNever : TS := fun _ _ _ => False
theorem ps_never : PS X st tNever := fun _ _ _ _ _ _ h => h.elim
end
abbrev TG := V -> St -> Hp -> (St -> Hp -> Prop) -> Prop
abbrev TGs := List V -> St -> Hp -> (St -> Hp -> Prop) -> Prop
def PG (X : Cx) (target : Expr) (t : TG) : Prop :=
 ∀ (pins : List (Addr × Obj)) (s : Shared) (σ : St) (H : Hp) (v : V) (u : Value) (Q : St -> Hp -> Prop), Inv X pins σ H s -> RelV v u -> t v σ H Q ->
  wpAny (model X.prog X.w) X.A (assign target X.env u) (fun _ s' => ∃ σ' H', Inv X pins σ' H' s' /\ Q σ' H') X.xe s
def PGs (X : Cx) (ts : List Expr) (t : TGs) : Prop :=
 ∀ (pins : List (Addr × Obj)) (s : Shared) (σ : St) (H : Hp) (vs : List V) (us : List Value) (Q : St -> Hp -> Prop), Inv X pins σ H s -> qo vs us -> t vs σ H Q ->
  wpAny (model X.prog X.w) X.A (assignInOrder ((assignEach ts X.env).map (·.2)) us) (fun _ s' => ∃ σ' H', Inv X pins σ' H' s' /\ Q σ' H') X.xe s
abbrev TSet := V -> V -> V -> Hp -> (Hp -> Prop) -> Prop
def PSet (X : Cx) (t : TSet) : Prop :=
 ∀ (pins : List (Addr × Obj)) (s : Shared) (σ : St) (H : Hp) (o i v : V) (ov iv u : Value) (Q : Hp -> Prop), Inv X pins σ H s -> RelV o ov -> RelV i iv -> RelV v u -> t o i v H Q ->
  wpAny (model X.prog X.w) X.A (setItem ov iv u) (fun _ s' => ∃ H', Inv X pins σ H' s' /\ Q H') X.xe s
section
variable {X : Cx} {pos : Pos}
def Za (i : Nat) : TG := fun v σ H Q => Q (σ.set i (some v)) H
theorem zk {i : Nat} {x : Str} (hN : X.N.Nodup) (hi : X.N[i]? = some x) (hx : Loc X.env.scope x) (hf : X.fn x = true \/ X.env.scope.names.lookup x = some .local := by first | exact .inl rfl | exact .inr rfl | assumption) : PG X (.Name x pos) (Za i) := by
 intro pins s σ H v u Q I r h
 exact wpAny_assign_Name (yc I hN hi hx r (fun s' I' => ⟨_, H, I', h⟩) hf)
def gNil : TGs := fun vs σ H Q => vs = [] /\ Q σ H
def gCons (t : TG) (u : TGs) : TGs := fun vs σ H Q => ∃ v r, vs = v :: r /\ t v σ H fun σ' H' => u r σ' H' Q
theorem QL : PGs X [] gNil := by
 intro pins s σ H vs us Q I r h
 obtain ⟨e, h⟩ := h
 subst e
 cases r
 exact assignInOrder_nil ⟨σ, H, I, h⟩
theorem qr {e : Expr} {es : List Expr} {t : TG} {u : TGs} (h1 : PG X e t) (h2 : PGs X es u)
  (hs : (assignEach (e :: es) X.env).map (·.2) = assign e X.env :: (assignEach es X.env).map (·.2) := by rfl) : PGs X (e :: es) (gCons t u) := by
 intro pins s σ H vs us Q I r h
 obtain ⟨v, vr, e1, h⟩ := h
 subst e1
 cases r with
 | cons r rr =>
  rw [hs]
  refine assignInOrder_cons (thn (h1 pins s σ H _ _ _ I r h) fun _ s1 ⟨σ1, H1, I1, q1⟩ => ?_)
  exact h2 pins s1 σ1 H1 _ _ Q I1 rr q1
def gTup (K : PySem.W.Frag) (n : Nat) (t : TGs) : TG := fun v σ H Q => ∃ a xs, v = .ref a /\ SqT K H a xs /\ xs.length = n /\ t xs σ H Q
theorem pg_tup {es : List Expr} {k : Nat} {t : TGs} {n : Nat} (hc : X.calm = true) (h : PGs X es t)
  (hn : (assignEach es X.env).length = n := by rfl) (hst : (assignEach es X.env).findIdx? (·.1) = none := by rfl) : PG X (.Tuple es k pos) (gTup X.K n t) := by
 intro pins s σ H v u Q I r hw
 obtain ⟨a, xs, e1, hq, hl, hw⟩ := hw
 subst e1
 cases r
 obtain ⟨its, rv, ht, hz⟩ := I.tuple hq
 refine assign_Tuple_tuple (I.ok.hd hc) ht (by simp [hn, <- hl, rv.length]) hst fun h' hx => ?_
 have I1 : Inv X pins σ H { s with heap := h' } := I.kept (t' := s.toks) fun b o e => hx b o (Nat.ne_of_lt (Heap.lt_size e)) e
 exact h pins _ σ H xs _ Q I1 (by simpa using rv) hw
def gSub (to ti : TE) (t : TSet) : TG := fun v σ H Q => to σ H fun o H1 => ti σ H1 fun i H2 => t o i v H2 fun H3 => Q σ H3
theorem YD {o i : Expr} {to ti : TE} {t : TSet} (ho : PE X o to) (hi : PE X i ti) (hs : PSet X t)
  (ha : ∀ v, assign (.Subscript o i pos) X.env v = (do
   let ov <- holding [v] (eval o X.env)
   let iv <- holding [v, ov] (eval i X.env)
   standAt pos
   holding [v, ov, iv] (setItem ov iv v)
   release [v, ov, iv] []) := by intro _; rfl) : PG X (.Subscript o i pos) (gSub to ti t) := by
 intro pins s σ H v u Q I r h
 rw [ha]
 refine wpAny_bind (wpAny_holding (thn (ho pins s σ H _ I h) fun ov s1 ⟨x, H1, I1, r1, q1⟩ => ?_))
 refine wpAny_bind (wpAny_holding (thn (hi pins s1 σ H1 _ I1 q1) fun iv s2 ⟨y, H2, I2, r2, q2⟩ => ?_))
 refine wpAny_bind (wpAny_standAt (wpAny_bind (wpAny_holding (thn (hs pins s2 σ H2 x y v ov iv u _ I2 r1 r2 r q2) fun _ s3 ⟨H3, I3, q3⟩ => ?_))))
 exact wpAny_release ⟨σ, H3, I3, q3⟩
def tAsg (te : TE) (g : TG) : TS := fun D σ H => te σ H fun x H1 => g x σ H1 D.nx
theorem Ju {tg e : Expr} {te : TE} {g : TG} (he : PE X e te) (hg : PG X tg g) (hs : swapsWithSole [tg] e pos.line X.env = pure false := by rfl) (hw : swappedStores [tg] e X.env = pure none := by rfl)
  (h1 : (assignEach [tg] X.env).map (·.2) = [assign tg X.env] := by rfl) : PS X (.Assign [tg] e pos) (tAsg te g) := by
 intro pins s σ H D I h
 refine wpAny_Assign_stores (thn (he pins s σ H _ I h) fun v s1 ⟨x, H1, I1, r1, q1⟩ => ?_) hs hw
 rw [h1]
 exact thn (hg pins s1 σ H1 x v _ I1 r1 q1) fun _ s2 q => q
theorem zv {i : Nat} {x : Str} {e : Expr} {te : TE} {pos' : Pos} (hN : X.N.Nodup) (hi : X.N[i]? = some x) (hx : Loc X.env.scope x) (he : PE X e te) (hs : swapsWith e (some (.Name x pos')) pos.line X.env = pure false := by rfl) (hf : X.fn x = true \/ X.env.scope.names.lookup x = some .local := by first | exact .inl rfl | exact .inr rfl | assumption) :
  PS X (.Assign [.Name x pos'] e pos) (tAsg te (Za i)) := by
 intro pins s σ H D I h
 refine wpAny_Assign_Name (thn (he pins s σ H _ I h) fun v s1 ⟨y, H1, I1, r1, q1⟩ => ?_) hs
 exact yc I1 hN hi hx r1 (fun s2 I2 => ⟨_, H1, I2, q1⟩) hf
end
section
variable {X : Cx} {pos : Pos}
def tWhile (c : TT) (tb : TS) : TS := fun D σ H => ∃ W : Nat -> St -> Hp -> Prop, (∃ m, W m σ H) /\ ∀ m σ H, W m σ H ->
 c σ H fun b H1 => if b = true then ∃ N : St -> Hp -> Prop, (∀ σ' H', N σ' H' -> ∃ m', m' < m /\ W m' σ' H') /\ tb { D with nx := N, ct := N, bk := D.nx } σ H1 else D.nx σ H1
theorem ps_while {c : Expr} {body : List Stmt} {tc : TT} {tb : TS} (hp : PassesOwn (model X.prog X.w) X.A X.env X.xe) (hc : PT X c tc) (hb : PSs X body tb) : PS X (.While c body [] pos) (tWhile tc tb) := by
 intro pins s σ H D I h
 obtain ⟨W, ⟨m0, w0⟩, turn⟩ := h
 refine wpAny_While (codeAny_whileLoop (fun n s' => ∃ σ' H', Inv X pins σ' H' s' /\ W n σ' H') ?_ m0 ⟨σ, H, I, w0⟩)
 rintro n s1 ⟨σ1, H1, I1, w1⟩
 refine wpAny_passesOwn hp (thn (hc pins s1 σ1 H1 _ I1 (turn n σ1 H1 w1)) fun b s2 ⟨H2, I2, q2⟩ => ?_)
 cases b with
 | true =>
  obtain ⟨N, hN, q2⟩ := q2
  rw [if_pos rfl]
  refine wpAny_passesOwn hp (thn (hb pins s2 σ1 H2 _ I2 q2) fun f s3 q3 => ?_)
  cases f with
  | next =>
   obtain ⟨σ3, H3, I3, n3⟩ := q3
   obtain ⟨m', hm, w3⟩ := hN σ3 H3 n3
   exact ⟨m', hm, σ3, H3, I3, w3⟩
  | cont =>
   obtain ⟨σ3, H3, I3, n3⟩ := q3
   obtain ⟨m', hm, w3⟩ := hN σ3 H3 n3
   exact ⟨m', hm, σ3, H3, I3, w3⟩
  | brk => exact q3
  | ret v => exact q3
 | false =>
  rw [if_neg Bool.false_ne_true]
  exact wpAny_execs_nil ⟨σ1, H2, I2, q2⟩
end
structure It where
 go : Nat -> Hp -> Prop
 yld : Nat -> Hp -> V -> Hp -> Prop
 stop : Nat -> Hp -> Prop
def YE (X : Cx) (pins : List (Addr × Obj)) (H : Hp) (b : Addr) : Prop :=
 H b = none /\ b ≠ X.env.locals /\ b ∉ X.fs /\ (b ∈ X.ex \/ X.s₀.heap.objs.size <= b) /\ (∀ x c, X.env.cells.lookup x = some c -> c ≠ b) /\ ∀ p ∈ X.pn ++ pins, p.1 ≠ b
theorem Inv.fpOk {X : Cx} {pins : List (Addr × Obj)} {σ : St} {H H' : Hp} {s : Shared} {b : Addr} (I : Inv X pins σ H s) (hb : s.heap.objs.size <= b) (hn : H' b = none) : YE X pins H' b := by
 refine ⟨hn, Nat.ne_of_gt (Nat.lt_of_lt_of_le I.lt hb), I.nofs hb, .inr (Nat.le_trans I.sz hb), fun x c e z => ?_, fun p hp z => ?_⟩
 ·obtain ⟨v, q⟩ := I.cell x c e
  exact absurd (Nat.lt_of_lt_of_le q.lt (by rw [z]; exact hb)) (Nat.lt_irrefl _)
 ·exact absurd (Nat.lt_of_lt_of_le (Heap.lt_size (I.pin p hp).1) (by rw [z]; exact hb)) (Nat.lt_irrefl _)
structure Turn (P : Program) (w : World) (K : PySem.W.Frag) (tg : Expr) (J : It) (fp : List Addr) (it : Addr) (tn : Nat -> Heap -> Prop) : Prop where
 mem : it ∈ fp
 obj : ∀ i h, tn i h -> ∀ b ∈ fp, ∃ o, h.get? b = some o /\ ∀ v, o.data ≠ .cell v
 keep : ∀ i h h', tn i h -> (∀ b ∈ fp, ∀ o, h.get? b = some o -> h'.get? b = some o) -> tn i h'
 item : ∀ (X : Cx), X.prog = P -> X.w = w -> X.K = K -> X.calm = true -> ∀ (i : Nat) (pins : List (Addr × Obj)) (s : Shared) (σ : St) (H : Hp) (E : Value -> Shared -> Prop), Inv X pins σ H s -> (∀ b ∈ fp, YE X pins H b) -> tn i s.heap -> J.go i H ->
  wpAny (model P w) X.A (pyNext (.ref it)) (fun r s1 => ∃ u, r = some u /\
   wpAny (model P w) X.A (letOwnedTupleGo tg (.ref it) u) (fun _ s2 => ∃ x H', Inv X pins σ H' s2 /\ RelV x u /\ J.yld i H x H' /\ tn (i + 1) s2.heap /\ ∀ b ∈ fp, H' b = none) E s1) E s
 done : ∀ (X : Cx), X.prog = P -> X.w = w -> X.K = K -> X.calm = true -> ∀ (i : Nat) (pins : List (Addr × Obj)) (s : Shared) (σ : St) (H : Hp) (E : Value -> Shared -> Prop), Inv X pins σ H s -> (∀ b ∈ fp, YE X pins H b) -> tn i s.heap -> J.stop i H ->
  wpAny (model P w) X.A (pyNext (.ref it)) (fun r s1 => r = none /\ Inv X pins σ H s1) E s
 self : ∀ (A : Around) (i : Nat) (s : Shared) (Q : Value -> Shared -> Prop) (E : Value -> Shared -> Prop), tn i s.heap -> Q (.ref it) s -> wpAny (model P w) A (pyIter (.ref it)) Q E s
abbrev TI := St -> Hp -> (It -> Hp -> Prop) -> Prop
def PIE (X : Cx) (pins : List (Addr × Obj)) (σ : St) (tg : Expr) (R : It -> Hp -> Prop) (itv : Value) (s2 : Shared) : Prop :=
 ∃ (it : Addr) (fp : List Addr) (tn : Nat -> Heap -> Prop) (J : It) (H' : Hp), itv = .ref it /\ Inv X pins σ H' s2 /\ Turn X.prog X.w X.K tg J fp it tn /\ tn 0 s2.heap /\ (∀ b ∈ fp, YE X pins H' b) /\ R J H'
def PI (X : Cx) (tg iter : Expr) (wi : TI) : Prop :=
 ∀ (pins : List (Addr × Obj)) (s : Shared) (σ : St) (H : Hp) (R : It -> Hp -> Prop), Inv X pins σ H s -> wi σ H R ->
  wpAny (model X.prog X.w) X.A (eval iter X.env) (fun v s1 => wpAny (model X.prog X.w) X.A (pyIter v) (PIE X pins σ tg R) X.xe s1) X.xe s
theorem YF {M : Model} {A : Around} {E : Value -> Shared -> Prop} {s : Shared} {tg : Expr} {it : Addr} {u : Value} {o : Obj} {n : String} {vs : Array Value} {Q : Unit -> Shared -> Prop} (ho : s.heap.get? it = some o) (hc : o.cls = .type n) (hd : o.data = .fields vs)
    (hn : ["enumerate", "zip", "dict_itemiterator", "dict_reverseitemiterator", "odict_iterator", "itertools.zip_longest", "itertools.pairwise"].contains n = false) (hQ : Q () s) : wpAny M A (letOwnedTupleGo tg (.ref it) u) Q E s := by
  unfold letOwnedTupleGo
  cases tg <;> first
    | exact wpAny_pure hQ
    | (cases u <;> first
        | exact wpAny_pure hQ
        | (refine wpAny_bind (wpAny_load ho ?_)
           rw [hc, hd]
           show wpAny M A (if (["enumerate", "zip", "dict_itemiterator", "dict_reverseitemiterator", "odict_iterator", "itertools.zip_longest", "itertools.pairwise"].contains n && vs[0]? == some (rawInt _)) = true then _ else _) Q E s
           rw [if_neg (by intro h; rw [hn, Bool.false_and] at h; cases h)]
           exact wpAny_pure hQ))
def Itl (K : PySem.W.Frag) (a : Addr) : It :=
 ⟨fun i H => ∃ xs x, SqL K H a xs /\ xs[i]? = some x, fun i H x H' => H' = H /\ ∀ xs, SqL K H a xs -> xs[i]? = some x, fun i H => ∃ xs, SqL K H a xs /\ xs.length <= i⟩
def Itt (K : PySem.W.Frag) (a : Addr) : It :=
 ⟨fun i H => ∃ xs x, SqT K H a xs /\ xs[i]? = some x, fun i H x H' => H' = H /\ ∀ xs, SqT K H a xs -> xs[i]? = some x, fun i H => ∃ xs, SqT K H a xs /\ xs.length <= i⟩
def Itr (lo : Int) (n : Nat) : It := ⟨fun i _ => i < n, fun i H x H' => H' = H /\ x = .int (lo + i), fun i _ => n <= i⟩
theorem YG {P : Program} {w : World} {K : PySem.W.Frag} {tg : Expr} (a it : Addr) : Turn P w K tg (Itl K a) [it] it (fun i h => h.IsListIter it a i) where
 mem := by simp
 obj := fun i h st b hb => by
  have e : b = it := by simpa using hb
  subst e
  obtain ⟨o, e, c, d⟩ := st
  exact ⟨o, e, fun v z => by rw [d] at z; cases z⟩
 keep := fun i h h' st k => st.at fun o e => k it (by simp) o e
 item := by
  intro X hP hw hK hc i pins s σ H E I hf st hg
  subst hP hw hK
  obtain ⟨xs, x, hq, hx⟩ := hg
  obtain ⟨its, rv, p, hz⟩ := I.list hq
  obtain ⟨u, hu, ru⟩ := rv.get hx
  obtain ⟨f0, f1, f2, f3, f4, f5⟩ := hf it (by simp)
  refine wpAny_pyNext_list_item st p.isList (x := u) (by simpa using hu) fun h' st' sb => ?_
  have I1 : Inv X pins σ H { s with heap := h' } := I.turned (t' := s.toks) (fun b o hb e => (sb.2 b hb).trans e) f0 f1 f3 f4 f5
  obtain ⟨o, e, c, d⟩ := id st'
  exact ⟨u, rfl, YF (s := { s with heap := h' }) e c d (by decide) ⟨x, H, I1, ru, ⟨rfl, fun ys hy => by rw [I.list_inj hy hq]; exact hx⟩, st', fun b hb => (hf b hb).1⟩⟩
 done := by
  intro X hP hw hK hc i pins s σ H E I hf st hg
  subst hP hw hK
  obtain ⟨xs, hq, hx⟩ := hg
  obtain ⟨its, rv, p, hz⟩ := I.list hq
  obtain ⟨f0, f1, f2, f3, f4, f5⟩ := hf it (by simp)
  have hl := rv.length
  exact wpAny_pyNext_list_end (I.ok.hd hc) st p.isList (by simp; omega) fun h' eb => ⟨rfl, I.turned (t' := s.toks) (fun b o hb e => eb b o hb e) f0 f1 f3 f4 f5⟩
 self := fun _ _ _ _ _ st h => wpAny_pyIter_listiter st h
theorem yM {P : Program} {w : World} {K : PySem.W.Frag} {tg : Expr} (a it : Addr) : Turn P w K tg (Itt K a) [it] it (fun i h => h.IsTupleIter it a i) where
 mem := by simp
 obj := fun i h st b hb => by
  have e : b = it := by simpa using hb
  subst e
  obtain ⟨o, e, c, d⟩ := st
  exact ⟨o, e, fun v z => by rw [d] at z; cases z⟩
 keep := fun i h h' st k => st.at fun o e => k it (by simp) o e
 item := by
  intro X hP hw hK hc i pins s σ H E I hf st hg
  subst hP hw hK
  obtain ⟨xs, x, hq, hx⟩ := hg
  obtain ⟨its, rv, p, hz⟩ := I.tuple hq
  obtain ⟨u, hu, ru⟩ := rv.get hx
  obtain ⟨f0, f1, f2, f3, f4, f5⟩ := hf it (by simp)
  refine wpAny_pyNext_tuple_item st (show s.heap.IsTuple a its.toArray from p) (x := u) (by simpa using hu) fun h' st' sb => ?_
  have I1 : Inv X pins σ H { s with heap := h' } := I.turned (t' := s.toks) (fun b o hb e => (sb.2 b hb).trans e) f0 f1 f3 f4 f5
  obtain ⟨o, e, c, d⟩ := id st'
  exact ⟨u, rfl, YF (s := { s with heap := h' }) e c d (by decide) ⟨x, H, I1, ru, ⟨rfl, fun ys hy => by rw [I.tuple_inj hy hq]; exact hx⟩, st', fun b hb => (hf b hb).1⟩⟩
 done := by
  intro X hP hw hK hc i pins s σ H E I hf st hg
  subst hP hw hK
  obtain ⟨xs, hq, hx⟩ := hg
  obtain ⟨its, rv, p, hz⟩ := I.tuple hq
  obtain ⟨f0, f1, f2, f3, f4, f5⟩ := hf it (by simp)
  have hl := rv.length
  exact wpAny_pyNext_tuple_end (I.ok.hd hc) st (show s.heap.IsTuple a its.toArray from p) (by simp; omega) fun h' eb => ⟨rfl, I.turned (t' := s.toks) (fun b o hb e => eb b o hb e) f0 f1 f3 f4 f5⟩
 self := fun _ _ _ _ _ st h => wpAny_pyIter_tupleiter st h
theorem yN {P : Program} {w : World} {K : PySem.W.Frag} {tg : Expr} (it : Addr) (lo : Int) (n : Nat) : Turn P w K tg (Itr lo n) [it] it (fun i h => IsRangeIter h it (lo + (i : Nat) * 1) ((n : Int) - (i : Nat)) 1) where
 mem := by simp
 obj := fun i h st b hb => by
  have e : b = it := by simpa using hb
  subst e
  exact ⟨_, st, fun v z => by
   have z' : Data.fields _ = Data.cell v := z
   cases z'⟩
 keep := fun i h h' st k => k it (by simp) _ st
 item := by
  intro X hP hw hK hc i pins s σ H E I hf st hg
  subst hP hw hK
  obtain ⟨f0, f1, f2, f3, f4, f5⟩ := hf it (by simp)
  have W := Walks.range (prog := X.prog) (w := X.w) (I.ok.hd hc) it lo 1 n
  refine W.item i s _ _ hg st fun v h' tk hv st' kk => ?_
  obtain ⟨t, rfl⟩ := hv
  have I1 : Inv X pins σ H { s with heap := h', toks := tk } := I.turned (fun b o hb e => kk b o (by simpa using hb) e) f0 f1 f3 f4 f5
  refine ⟨_, rfl, YF (s := { s with heap := h', toks := tk }) (n := "range_iterator") st' rfl rfl (by decide) ⟨.int (lo + i), H, I1, ⟨t, ?_⟩, ⟨rfl, rfl⟩, st', fun b hb => (hf b hb).1⟩⟩
  rw [Int.mul_one]
 done := by
  intro X hP hw hK hc i pins s σ H E I hf st hg
  subst hP hw hK
  obtain ⟨f0, f1, f2, f3, f4, f5⟩ := hf it (by simp)
  exact wpAny_pyNext_range_end (I.ok.hd hc) st (by have : n <= i := hg; omega) fun h' eb => ⟨rfl, I.turned (t' := s.toks) (fun b o hb e => eb b o hb e) f0 f1 f3 f4 f5⟩
 self := fun _ _ _ _ _ st h => wpAny_pyIter_rangeiter st h
end L2
namespace L2
open PySem PySem.Spec PyProof.Rows
section
variable {X : Cx} {tg : Expr}
def iList (K : PySem.W.Frag) (tl : TE) : TI := fun σ H R => tl σ H fun x H1 => ∃ a, x = .ref a /\ (∃ xs, SqL K H1 a xs) /\ R (Itl K a) H1
def iTup (K : PySem.W.Frag) (tl : TE) : TI := fun σ H R => tl σ H fun x H1 => ∃ a, x = .ref a /\ (∃ xs, SqT K H1 a xs) /\ R (Itt K a) H1
theorem pi_list {l : Expr} {tl : TE} (hl : PE X l tl) : PI X tg l (iList X.K tl) := by
 intro pins s σ H R I h
 refine thn (hl pins s σ H _ I h) fun v s1 ⟨x, H1, I1, r1, q1⟩ => ?_
 obtain ⟨a, e, ⟨xs, hq⟩, q⟩ := q1
 subst e
 cases r1
 obtain ⟨its, rv, p, hz⟩ := I1.list hq
 refine wpAny_pyIter_list p.isList ?_
 refine ⟨s1.heap.objs.size, [s1.heap.objs.size], _, _, H1, rfl, I1.kept (t' := s1.toks) fun b o e => Heap.get?_push_of_some _ e, YG a _, ⟨_, Heap.get?_push_size _ rfl, rfl, rfl⟩, fun b hb => ?_, q⟩
 have e : b = s1.heap.objs.size := by simpa using hb
 subst e
 exact I1.fpOk (Nat.le_refl _) (I1.hok.fresh (Nat.le_refl _))
theorem pi_tup {l : Expr} {tl : TE} (hl : PE X l tl) : PI X tg l (iTup X.K tl) := by
 intro pins s σ H R I h
 refine thn (hl pins s σ H _ I h) fun v s1 ⟨x, H1, I1, r1, q1⟩ => ?_
 obtain ⟨a, e, ⟨xs, hq⟩, q⟩ := q1
 subst e
 cases r1
 obtain ⟨its, rv, p, hz⟩ := I1.tuple hq
 refine wpAny_pyIter_tuple (show s1.heap.IsTuple a its.toArray from p) ?_
 refine ⟨s1.heap.objs.size, [s1.heap.objs.size], _, _, H1, rfl, I1.kept (t' := s1.toks) fun b o e => Heap.get?_push_of_some _ e, yM a _, ⟨_, Heap.get?_push_size _ rfl, rfl, rfl⟩, fun b hb => ?_, q⟩
 have e : b = s1.heap.objs.size := by simpa using hb
 subst e
 exact I1.fpOk (Nat.le_refl _) (I1.hok.fresh (Nat.le_refl _))
theorem range_it {pins : List (Addr × Obj)} {σ : St} {H : Hp} {s : Shared} {R : It -> Hp -> Prop} {E : Value -> Shared -> Prop} {lo hi : Int} {t u v : Tok} {tk : Nat} (I : Inv X pins σ H s) (h1 : -(2 ^ 62) <= lo) (h2 : lo < 2 ^ 62) (h3 : -(2 ^ 62) <= hi) (h4 : hi < 2 ^ 62)
  (q : R (Itr lo (hi - lo).toNat) H) : wpAny (model X.prog X.w) X.A (pyIter (.ref s.heap.objs.size)) (PIE X pins σ tg R) E { s with heap := s.heap.push { cls := .type "range", data := .fields #[.int lo t, .int hi u, .int 1 v] }, toks := tk } := by
 refine wpAny_pyIter_range (IsRange.new ..) (small_one h1 h2 h3 h4) ?_
 have I1 : Inv X pins σ H { s with heap := s.heap.push { cls := .type "range", data := .fields #[.int lo t, .int hi u, .int 1 v] }, toks := tk } := I.kept fun b o e => Heap.get?_push_of_some _ e
 refine ⟨(s.heap.push { cls := .type "range", data := .fields #[.int lo t, .int hi u, .int 1 v] }).objs.size, [(s.heap.push { cls := .type "range", data := .fields #[.int lo t, .int hi u, .int 1 v] }).objs.size], _, _, H, rfl,
  I1.kept (t' := tk) fun b o e => Heap.get?_push_of_some _ e, yN _ lo (hi - lo).toNat, ?_, fun b hb => ?_, q⟩
 ·have e1 : lo + ((0 : Nat) : Int) * 1 = lo := by simp
  have e2 : (((hi - lo).toNat : Nat) : Int) - ((0 : Nat) : Int) = Builtin.Range.rangeSize lo hi 1 := by rw [rangeSize_one]; split <;> omega
  show IsRangeIter _ _ (lo + ((0 : Nat) : Int) * 1) ((((hi - lo).toNat : Nat) : Int) - ((0 : Nat) : Int)) 1
  rw [e1, e2]
  exact Heap.get?_push_size _ rfl
 ·have e : b = (s.heap.push { cls := .type "range", data := .fields #[.int lo t, .int hi u, .int 1 v] }).objs.size := by simpa using hb
  subst e
  exact I1.fpOk (Nat.le_refl _) (I1.hok.fresh (Nat.le_refl _))
def iRng1 (ta : TA) : TI := fun σ H R => ta σ H fun vs H1 => ∃ j : Int, vs = [.int j] /\ -(2 ^ 62) <= j /\ j < 2 ^ 62 /\ R (Itr 0 j.toNat) H1
theorem ql {a : Expr} {ta : TA} {p pos : Pos} (hg : Gl X "range") (hm : X.mg "range" = none) (ha : PA X [a] ta) (hs : starEach [a] X.env = [(false, eval a X.env)] := by rfl) : PI X tg (.Call (.Name "range" p) [a] [] pos) (iRng1 ta) := by
 intro pins s σ H R I h
 refine Call_ (ZR I hg hm boot_range (PyProof.Rows.callWith_type1 (thn (ha pos pins s σ H _ I h) fun us s1 ⟨vs, H1, I1, r1, q1⟩ => ?_) hs rfl))
 obtain ⟨j, e, q1, q2, q⟩ := q1
 subst e
 cases r1 with
 | cons r rr =>
  cases rr
  obtain ⟨t, rfl⟩ := r
  exact call_range_1 (range_it I1 (by omega) (by omega) q1 q2 (by simpa using q))
def tFor (wi : TI) (g : TG) (tb : TS) : TS := fun D σ H => wi σ H fun J H1 => ∃ W : Nat -> Nat -> St -> Hp -> Prop, (∃ m, W 0 m σ H1) /\ ∀ i m σ H, W i m σ H ->
 (J.stop i H /\ D.nx σ H) \/ (J.go i H /\ ∃ N : St -> Hp -> Prop, (∀ σ' H', N σ' H' -> ∃ m', m' < m /\ W (i + 1) m' σ' H') /\ ∀ x H', J.yld i H x H' -> g x σ H' fun σ2 H2 => tb { D with nx := N, ct := N, bk := D.nx } σ2 H2)
def wE (fp : List Addr) (h : Heap) : List (Addr × Obj) := fp.filterMap fun b => (h.get? b).map fun o => (b, o)
theorem Zt {fp : List Addr} {h : Heap} {b : Addr} {o : Obj} (hb : b ∈ fp) (e : h.get? b = some o) : (b, o) ∈ wE fp h := List.mem_filterMap.mpr ⟨b, hb, by rw [e]; rfl⟩
theorem YH {fp : List Addr} {h : Heap} {p : Addr × Obj} (hp : p ∈ wE fp h) : p.1 ∈ fp /\ h.get? p.1 = some p.2 := by
 obtain ⟨b, hb, e⟩ := List.mem_filterMap.mp hp
 cases q : h.get? b with
 | none => rw [q] at e; cases e
 | some o =>
  rw [q] at e
  have e' : (b, o) = p := Option.some.inj e
  subst e'
  exact ⟨hb, q⟩
theorem Inv.pinned {pins : List (Addr × Obj)} {σ : St} {H : Hp} {s : Shared} {fp : List Addr} (I : Inv X pins σ H s) (hf : ∀ b ∈ fp, YE X pins H b) (ho : ∀ b ∈ fp, ∃ o, s.heap.get? b = some o /\ ∀ v, o.data ≠ .cell v) : Inv X (pins ++ wE fp s.heap) σ H s :=
 I.pins_of fun p hp => (List.mem_append.mp hp).elim (fun z => I.pin p (List.mem_append_right _ z)) fun z => by
  obtain ⟨hb, e⟩ := YH z
  obtain ⟨f0, f1, f2, _⟩ := hf p.1 hb
  obtain ⟨o, e', d⟩ := ho p.1 hb
  rw [e] at e'; cases e'
  exact ⟨e, f0, f1, f2, d⟩
theorem Inv.unpinned {pins pl : List (Addr × Obj)} {σ : St} {H : Hp} {s : Shared} (I : Inv X (pins ++ pl) σ H s) : Inv X pins σ H s := I.pins_of fun p hp => I.pin p (List.mem_append_right _ (List.mem_append_left _ hp))
theorem qP {iter : Expr} {body : List Stmt} {wi : TI} {g : TG} {tb : TS} {pos : Pos} (hp : PassesOwn (model X.prog X.w) X.A X.env X.xe) (hc : X.calm = true) (hi : PI X tg iter wi) (hg : PG X tg g) (hb : PSs X body tb)
  (hs : ∀ x, foldedSetIterable iter X.env x = pure x := by intro _; rfl) : PS X (.For tg iter body [] pos) (tFor wi g tb) := by
 intro pins s σ H D I h
 refine wpAny_For (thn (hi pins s σ H _ I h) fun v s1 h1 => thn h1 fun itv s2 h2 => ?_) hs
 obtain ⟨it, fp, tn, J, H2, e, I2, T, st2, f2, W, ⟨m0, w0⟩, turn⟩ := h2
 subst e
 -- what stays true of the iterator's objects through the loop
 have stat : ∀ {H' : Hp}, (∀ b ∈ fp, H' b = none) -> ∀ b ∈ fp, YE X pins H' b := fun hn b hb => ⟨hn b hb, (f2 b hb).2⟩
 refine codeAny_forLoop_any (fun n s' => ∃ i σ' H', Inv X pins σ' H' s' /\ tn i s'.heap /\ (∀ b ∈ fp, H' b = none) /\ W i n σ' H') ?_ m0 ⟨0, σ, H2, I2, st2, fun b hb => (f2 b hb).1, w0⟩
 rintro n s3 ⟨i, σ3, H3, I3, st3, fr3, w3⟩
 rcases turn i n σ3 H3 w3 with ⟨stop, qn⟩ | ⟨go, N, hN, step⟩
 ·refine wpAny_passesOwn hp (thn (T.done X rfl rfl rfl hc i pins s3 σ3 H3 X.xe I3 (stat fr3) st3 stop) fun r s4 ⟨hr, I4⟩ => ?_)
  subst hr
  exact wpAny_execs_nil ⟨σ3, H3, I4, qn⟩
 ·refine wpAny_passesOwn hp (thn (T.item X rfl rfl rfl hc i pins s3 σ3 H3 X.xe I3 (stat fr3) st3 go) fun r s4 ⟨u, hr, h4⟩ => ?_)
  subst hr
  refine wpAny_passesOwn hp (thn h4 fun _ s5 ⟨x, H5, I5, r5, y5, st5, fr5⟩ => ?_)
  have I5' := I5.pinned (stat fr5) (T.obj _ _ st5)
  refine wpAny_passesOwn hp (thn (hg _ s5 σ3 H5 x u _ I5' r5 (step x H5 y5)) fun _ s6 ⟨σ6, H6, I6, q6⟩ => ?_)
  refine wpAny_passesOwn hp (thn (hb _ s6 σ6 H6 _ I6 q6) fun f s7 q7 => ?_)
  have again : ∀ {σ7 : St} {H7 : Hp}, Inv X (pins ++ wE fp s5.heap) σ7 H7 s7 -> N σ7 H7 -> ∃ m, m < n /\ ∃ i σ' H', Inv X pins σ' H' s7 /\ tn i s7.heap /\ (∀ b ∈ fp, H' b = none) /\ W i m σ' H' := fun {σ7 H7} I7 n7 => by
   obtain ⟨m', hm, w7⟩ := hN σ7 H7 n7
   refine ⟨m', hm, i + 1, σ7, H7, I7.unpinned, T.keep _ _ _ st5 fun b hb o e => (I7.pin (b, o) (List.mem_append_right _ (List.mem_append_right _ (Zt hb e)))).1, fun b hb => ?_, w7⟩
   obtain ⟨o, e, d⟩ := T.obj _ _ st5 b hb
   exact (I7.pin (b, o) (List.mem_append_right _ (List.mem_append_right _ (Zt hb e)))).2.1
  cases f with
  | next => obtain ⟨σ7, H7, I7, n7⟩ := q7; exact again I7 n7
  | cont => obtain ⟨σ7, H7, I7, n7⟩ := q7; exact again I7 n7
  | brk => obtain ⟨σ7, H7, I7, q7⟩ := q7; exact ⟨σ7, H7, I7.unpinned, q7⟩
  | ret v => obtain ⟨x7, σ7, H7, I7, r7, q7⟩ := q7; exact ⟨x7, σ7, H7, I7.unpinned, r7, q7⟩
end
theorem jm {K : PySem.W.Frag} {a : Addr} {xs : List V} {g : TG} {tb : TS} {D : Ends} {σ : St} {H : Hp} (Pv : Nat -> St -> Hp -> Prop) (h0 : Pv 0 σ H) (hl : ∀ i σ H, i <= xs.length -> Pv i σ H -> SqL K H a xs)
  (hs : ∀ i x σ H, xs[i]? = some x -> Pv i σ H -> g x σ H fun σ2 H2 => tb { D with nx := Pv (i + 1), ct := Pv (i + 1), bk := D.nx } σ2 H2) (hd : ∀ σ H, Pv xs.length σ H -> D.nx σ H) :
  ∃ W : Nat -> Nat -> St -> Hp -> Prop, (∃ m, W 0 m σ H) /\ ∀ i m σ H, W i m σ H ->
   ((Itl K a).stop i H /\ D.nx σ H) \/ ((Itl K a).go i H /\ ∃ N : St -> Hp -> Prop, (∀ σ' H', N σ' H' -> ∃ m', m' < m /\ W (i + 1) m' σ' H') /\ ∀ x H', (Itl K a).yld i H x H' -> g x σ H' fun σ2 H2 => tb { D with nx := N, ct := N, bk := D.nx } σ2 H2) := by
 refine ⟨fun i m σ H => m = xs.length - i /\ i <= xs.length /\ Pv i σ H, ⟨xs.length, by simp, Nat.zero_le _, h0⟩, ?_⟩
 rintro i m σ H ⟨rfl, hi, p⟩
 have q := hl i σ H hi p
 by_cases hlt : i < xs.length
 ·refine .inr ⟨⟨xs, xs[i], q, by simp [hlt]⟩, Pv (i + 1), fun σ' H' p' => ⟨xs.length - (i + 1), by omega, rfl, hlt, p'⟩, fun x H' y => ?_⟩
  obtain ⟨e, y⟩ := y
  subst e
  exact hs i x σ _ (y xs q) p
 ·have e : i = xs.length := by omega
  subst e
  exact .inl ⟨⟨xs, q, Nat.le_refl _⟩, hd σ H p⟩
theorem JU {K : PySem.W.Frag} {a : Addr} {xs : List V} {g : TG} {tb : TS} {D : Ends} {σ : St} {H : Hp} (Pv : Nat -> St -> Hp -> Prop) (h0 : Pv 0 σ H) (hl : ∀ i σ H, i <= xs.length -> Pv i σ H -> SqT K H a xs)
  (hs : ∀ i x σ H, xs[i]? = some x -> Pv i σ H -> g x σ H fun σ2 H2 => tb { D with nx := Pv (i + 1), ct := Pv (i + 1), bk := D.nx } σ2 H2) (hd : ∀ σ H, Pv xs.length σ H -> D.nx σ H) :
  ∃ W : Nat -> Nat -> St -> Hp -> Prop, (∃ m, W 0 m σ H) /\ ∀ i m σ H, W i m σ H ->
   ((Itt K a).stop i H /\ D.nx σ H) \/ ((Itt K a).go i H /\ ∃ N : St -> Hp -> Prop, (∀ σ' H', N σ' H' -> ∃ m', m' < m /\ W (i + 1) m' σ' H') /\ ∀ x H', (Itt K a).yld i H x H' -> g x σ H' fun σ2 H2 => tb { D with nx := N, ct := N, bk := D.nx } σ2 H2) := by
 refine ⟨fun i m σ H => m = xs.length - i /\ i <= xs.length /\ Pv i σ H, ⟨xs.length, by simp, Nat.zero_le _, h0⟩, ?_⟩
 rintro i m σ H ⟨rfl, hi, p⟩
 have q := hl i σ H hi p
 by_cases hlt : i < xs.length
 ·refine .inr ⟨⟨xs, xs[i], q, by simp [hlt]⟩, Pv (i + 1), fun σ' H' p' => ⟨xs.length - (i + 1), by omega, rfl, hlt, p'⟩, fun x H' y => ?_⟩
  obtain ⟨e, y⟩ := y
  subst e
  exact hs i x σ _ (y xs q) p
 ·have e : i = xs.length := by omega
  subst e
  exact .inl ⟨⟨xs, q, Nat.le_refl _⟩, hd σ H p⟩
theorem ju {lo : Int} {n : Nat} {g : TG} {tb : TS} {D : Ends} {σ : St} {H : Hp} (Pv : Nat -> St -> Hp -> Prop) (h0 : Pv 0 σ H)
  (hs : ∀ i σ H, i < n -> Pv i σ H -> g (.int (lo + i)) σ H fun σ2 H2 => tb { D with nx := Pv (i + 1), ct := Pv (i + 1), bk := D.nx } σ2 H2) (hd : ∀ σ H, Pv n σ H -> D.nx σ H) :
  ∃ W : Nat -> Nat -> St -> Hp -> Prop, (∃ m, W 0 m σ H) /\ ∀ i m σ H, W i m σ H ->
   ((Itr lo n).stop i H /\ D.nx σ H) \/ ((Itr lo n).go i H /\ ∃ N : St -> Hp -> Prop, (∀ σ' H', N σ' H' -> ∃ m', m' < m /\ W (i + 1) m' σ' H') /\ ∀ x H', (Itr lo n).yld i H x H' -> g x σ H' fun σ2 H2 => tb { D with nx := N, ct := N, bk := D.nx } σ2 H2) := by
 refine ⟨fun i m σ H => m = n - i /\ i <= n /\ Pv i σ H, ⟨n, by simp, Nat.zero_le _, h0⟩, ?_⟩
 rintro i m σ H ⟨rfl, hi, p⟩
 by_cases hlt : i < n
 ·refine .inr ⟨hlt, Pv (i + 1), fun σ' H' p' => ⟨n - (i + 1), by omega, rfl, hlt, p'⟩, fun x H' y => ?_⟩
  obtain ⟨e, y⟩ := y
  subst e y
  exact hs i σ _ hlt p
 ·have e : i = n := by omega
  subst e
  exact .inl ⟨Nat.le_refl _, hd σ H p⟩
end L2
namespace L2
open PySem PySem.Spec PyProof.Rows
abbrev R2 := V -> V -> Hp -> VK -> Prop
def OpR (X : Cx) (f : Value -> Value -> Sem Value) (r : R2) : Prop :=
 ∀ (pins : List (Addr × Obj)) (s : Shared) (σ : St) (H : Hp) (x y : V) (v u : Value) (Q : VK), Inv X pins σ H s -> RelV x v -> RelV y u -> r x y H Q ->
  wpAny (model X.prog X.w) X.A (f v u) (EP X pins σ Q) X.xe s
def jf (X : Cx) (f : Value) (r : List V -> Hp -> VK -> Prop) : Prop :=
 ∀ (pins : List (Addr × Obj)) (s : Shared) (σ : St) (H : Hp) (xs : List V) (us : List Value) (Q : VK), Inv X pins σ H s -> qo xs us -> r xs H Q ->
  wpAny (model X.prog X.w) X.A (call f us) (EP X pins σ Q) X.xe s
def tOp (r : R2) (ta tb : TE) : TE := fun σ H Q => ta σ H fun x H1 => tb σ H1 fun y H2 => r x y H2 Q
def rI (C : Int -> Int -> Prop) (g : Int -> Int -> V) : R2 := fun x y H Q => ∃ i j, x = .int i /\ y = .int j /\ C i j /\ Q (g i j) H
def rI0 (g : Int -> Int -> V) : R2 := fun x y H Q => ∃ i j, x = .int i /\ y = .int j /\ Q (g i j) H
section
variable {X : Cx} {a b c : Expr} {ta tb tc : TE} {pos : Pos}
theorem binT (ha : PE X a ta) (hb : PE X b tb) {pins : List (Addr × Obj)} {s : Shared} {σ : St} {H : Hp} {R : V -> V -> Hp -> Prop} (I : Inv X pins σ H s)
  (h : ta σ H fun x H1 => tb σ H1 fun y H2 => R x y H2) {Q : Value -> Shared -> Prop} {f : Value -> Value -> Sem Value}
  (hf : ∀ v u s2 x y H2, Inv X pins σ H2 s2 -> RelV x v -> RelV y u -> R x y H2 -> wpAny (model X.prog X.w) X.A (f v u) Q X.xe s2) :
  wpAny (model X.prog X.w) X.A (eval a X.env) (fun v s₁ => wpAny (model X.prog X.w) X.A (eval b X.env) (fun u s₂ => wpAny (model X.prog X.w) X.A (f v u) Q X.xe s₂) X.xe s₁) X.xe s := by
 refine thn (ha pins s σ H _ I h) fun v s1 ⟨x, H1, I1, r1, q1⟩ => ?_
 refine thn (hb pins s1 σ H1 _ I1 q1) fun u s2 ⟨y, H2, I2, r2, q2⟩ => ?_
 exact hf v u s2 x y H2 I2 r1 r2 q2
theorem zP {op : Operator} {r : R2} (ho : OpR X (binaryOp op) r) (ha : PE X a ta) (hb : PE X b tb) : PE X (.BinOp a op b pos) (tOp r ta tb) := by
 intro pins s σ H Q I h
 exact wpAny_BinOp (binT ha hb I h fun v u s2 x y H2 I2 rx ry q => ho pins s2 σ H2 x y v u Q I2 rx ry q)
theorem opI {f : Value -> Value -> Sem Value} {C : Int -> Int -> Prop} {g : Int -> Int -> Int}
  (rule : ∀ (i j : Int) (t u : Tok) (s : Shared) (Q : Value -> Shared -> Prop) (E : Value -> Shared -> Prop), C i j -> Q (.int (g i j) s.toks) { s with toks := s.toks + 1 } -> wpAny (model X.prog X.w) X.A (f (.int i t) (.int j u)) Q E s) :
  OpR X f (rI C fun i j => .int (g i j)) := by
 intro pins s σ H x y v u Q I rx ry h
 obtain ⟨i, j, rfl, rfl, hc, q⟩ := h
 obtain ⟨t, rfl⟩ := rx
 obtain ⟨t', rfl⟩ := ry
 exact rule i j t t' s _ _ hc ⟨.int (g i j), H, I.tok _, ⟨_, rfl⟩, q⟩
theorem opI0 {f : Value -> Value -> Sem Value} {g : Int -> Int -> Int}
  (rule : ∀ (i j : Int) (t u : Tok) (s : Shared) (Q : Value -> Shared -> Prop) (E : Value -> Shared -> Prop), Q (.int (g i j) s.toks) { s with toks := s.toks + 1 } -> wpAny (model X.prog X.w) X.A (f (.int i t) (.int j u)) Q E s) :
  OpR X f (rI0 fun i j => .int (g i j)) := by
 intro pins s σ H x y v u Q I rx ry h
 obtain ⟨i, j, rfl, rfl, q⟩ := h
 obtain ⟨t, rfl⟩ := rx
 obtain ⟨t', rfl⟩ := ry
 exact rule i j t t' s _ _ ⟨.int (g i j), H, I.tok _, ⟨_, rfl⟩, q⟩
theorem opB0 {f : Value -> Value -> Sem Value} {g : Int -> Int -> Bool}
  (rule : ∀ (i j : Int) (t u : Tok) (s : Shared) (Q : Value -> Shared -> Prop) (E : Value -> Shared -> Prop), Q (.bool (g i j)) s -> wpAny (model X.prog X.w) X.A (f (.int i t) (.int j u)) Q E s) :
  OpR X f (rI0 fun i j => .bl (g i j)) := by
 intro pins s σ H x y v u Q I rx ry h
 obtain ⟨i, j, rfl, rfl, q⟩ := h
 obtain ⟨t, rfl⟩ := rx
 obtain ⟨t', rfl⟩ := ry
 exact rule i j t t' s _ _ ⟨.bl (g i j), H, I, rfl, q⟩
def CDiv (i j : Int) : Prop := 0 < j /\ j < 1073741824
def CPow (i j : Int) : Prop := 0 <= j /\ j <= 1000000 /\ i.natAbs < 2 ^ 64
def CMul (i j : Int) : Prop := (-(2 ^ 64) < i /\ i < 2 ^ 64) \/ (-(2 ^ 64) < j /\ j < 2 ^ 64)
theorem CMul.ok {i j : Int} (h : CMul i j) : IntMulOk i j := by
 rcases h with ⟨h1, h2⟩ | ⟨h1, h2⟩
 ·exact .of_left (intBits_le_64 h1 h2)
 ·exact .of_right (intBits_le_64 h1 h2)
theorem jg : OpR X (binaryOp .Add) (rI0 fun i j => .int (i + j)) := opI0 fun _ _ _ _ _ _ _ q => add_int q
theorem wF : OpR X (binaryOp .Sub) (rI0 fun i j => .int (i - j)) := opI0 fun _ _ _ _ _ _ _ q => sub_int q
theorem Zb : OpR X (binaryOp .Mult) (rI CMul fun i j => .int (i * j)) := opI fun _ _ _ _ _ _ _ hc q => mul_int q hc.ok
theorem YI : OpR X (binaryOp .FloorDiv) (rI CDiv fun i j => .int (i / j)) := opI fun i j _ _ _ _ _ hc q => by
 have h1 : (0 : Int) < j := hc.1
 have h2 : j < 1073741824 := hc.2
 exact floordiv_int (by omega) (by rw [Int.fdiv_eq_ediv_of_nonneg i (by omega)]; exact q) (.inl (PyProof.noPylong_small (by omega)))
theorem Qv : OpR X (binaryOp .Mod) (rI (fun _ j => 0 < j) fun i j => .int (i % j)) := opI fun i j _ _ _ _ _ hc q => by
 have h1 : (0 : Int) < j := hc
 exact mod_int' (by omega) (by rw [Int.fmod_eq_emod_of_nonneg i (by omega)]; exact q)
theorem op_pow : OpR X (binaryOp .Pow) (rI CPow fun i j => .int (i ^ j.toNat)) := opI fun _ _ _ _ _ _ _ hc q => pow_int_small hc.1 hc.2.1 hc.2.2 q
end
def scal : V -> V -> Bool
 | .non, .non => true | .non, .int _ => true | .int _, .non => true | .non, .bl _ => true | .bl _, .non => true | .non, .str _ => true | .str _, .non => true
 | .int _, .int _ => true | .bl _, .bl _ => true | .str _, .str _ => true | .byt _, .byt _ => true
 | .int _, .str _ => true | .str _, .int _ => true | .bl _, .str _ => true | .str _, .bl _ => true
 | _, _ => false
def rEq : R2 := fun x y H Q => scal x y = true /\ Q (.bl (decide (x = y))) H
def rNe : R2 := fun x y H Q => scal x y = true /\ Q (.bl (!decide (x = y))) H
theorem YJ {i j : Int} : decide (V.int i = V.int j) = (i == j) := by
 rw [Bool.eq_iff_iff]
 simp
theorem dec_bl {i j : Bool} : decide (V.bl i = V.bl j) = (i == j) := by
 rw [Bool.eq_iff_iff]
 simp
theorem YK {i j : Str} : decide (V.str i = V.str j) = (i == j) := by
 rw [Bool.eq_iff_iff]
 simp
theorem YL {i j : Array UInt8} : decide (V.byt i = V.byt j) = (i.toList == j.toList) := by
 rw [Bool.eq_iff_iff]
 cases i
 cases j
 simp
section
variable {X : Cx} {a b c : Expr} {ta tb tc : TE} {pos : Pos}
theorem zV {pins : List (Addr × Obj)} {σ : St} {H : Hp} {s : Shared} {Q : VK} {k k' : Bool} (I : Inv X pins σ H s) (q : Q (.bl k) H) (e : k = k') : EP X pins σ Q (.bool k') s := by
 subst e
 exact ⟨.bl k, H, I, rfl, q⟩
theorem JV : OpR X (compareOp .Eq) rEq := by
 intro pins s σ H x y v u Q I rx ry h
 obtain ⟨hs, q⟩ := h
 cases x with
 | non =>
  cases rx
  cases y with
  | non => cases ry; exact PySem.EqNone.eq_none_none (zV I q (by simp))
  | bl j => cases ry; exact PySem.EqNone.eq_none_bool (zV I q (by simp))
  | int j => obtain ⟨t', rfl⟩ := ry; exact PySem.EqNone.eq_none_int (zV I q (by simp))
  | str j => obtain ⟨t', rfl⟩ := ry; exact PySem.EqNone.eq_none_str (zV I q (by simp))
  | _ => exact absurd (show false = true from hs) Bool.false_ne_true
 | bl i =>
  cases rx
  cases y with
  | non => cases ry; exact PySem.EqNone.eq_bool_none (zV I q (by simp))
  | bl j => cases ry; exact eq_bool (zV I q dec_bl)
  | str j => obtain ⟨t', rfl⟩ := ry; exact PySem.EqMixed.eq_bool_str (zV I q (by simp))
  | _ => exact absurd (show false = true from hs) Bool.false_ne_true
 | int i =>
  obtain ⟨t, rfl⟩ := rx
  cases y with
  | non => cases ry; exact PySem.EqNone.eq_int_none (zV I q (by simp))
  | int j => obtain ⟨t', rfl⟩ := ry; exact eq_int (zV I q YJ)
  | str j => obtain ⟨t', rfl⟩ := ry; exact PySem.EqMixed.eq_int_str (zV I q (by simp))
  | _ => exact absurd (show false = true from hs) Bool.false_ne_true
 | str i =>
  obtain ⟨t, rfl⟩ := rx
  cases y with
  | non => cases ry; exact PySem.EqNone.eq_str_none (zV I q (by simp))
  | bl j => cases ry; exact PySem.EqMixed.eq_str_bool (zV I q (by simp))
  | int j => obtain ⟨t', rfl⟩ := ry; exact PySem.EqMixed.eq_str_int (zV I q (by simp))
  | str j => obtain ⟨t', rfl⟩ := ry; exact eq_str (zV I q YK)
  | _ => exact absurd (show false = true from hs) Bool.false_ne_true
 | byt i =>
  obtain ⟨t, rfl⟩ := rx
  cases y with
  | byt j => obtain ⟨t', rfl⟩ := ry; exact PySem.W.eq_bytes (zV I q YL)
  | _ => exact absurd (show false = true from hs) Bool.false_ne_true
 | _ => cases y <;> exact absurd (show false = true from hs) Bool.false_ne_true
theorem yO : OpR X (compareOp .NotEq) rNe := by
 intro pins s σ H x y v u Q I rx ry h
 obtain ⟨hs, q⟩ := h
 cases x with
 | non =>
  cases rx
  cases y with
  | non => cases ry; exact PySem.EqNone.ne_none_none (zV I q (by simp))
  | bl j => cases ry; exact PySem.EqNone.ne_none_bool (zV I q (by simp))
  | int j => obtain ⟨t', rfl⟩ := ry; exact PySem.EqNone.ne_none_int (zV I q (by simp))
  | str j => obtain ⟨t', rfl⟩ := ry; exact PySem.EqNone.ne_none_str (zV I q (by simp))
  | _ => exact absurd (show false = true from hs) Bool.false_ne_true
 | bl i =>
  cases rx
  cases y with
  | non => cases ry; exact PySem.EqNone.ne_bool_none (zV I q (by simp))
  | bl j => cases ry; exact ne_bool (zV I q (congrArg not dec_bl))
  | str j => obtain ⟨t', rfl⟩ := ry; exact PySem.EqMixed.ne_bool_str (zV I q (by simp))
  | _ => exact absurd (show false = true from hs) Bool.false_ne_true
 | int i =>
  obtain ⟨t, rfl⟩ := rx
  cases y with
  | non => cases ry; exact PySem.EqNone.ne_int_none (zV I q (by simp))
  | int j => obtain ⟨t', rfl⟩ := ry; exact ne_int (zV I q (congrArg not YJ))
  | str j => obtain ⟨t', rfl⟩ := ry; exact PySem.EqMixed.ne_int_str (zV I q (by simp))
  | _ => exact absurd (show false = true from hs) Bool.false_ne_true
 | str i =>
  obtain ⟨t, rfl⟩ := rx
  cases y with
  | non => cases ry; exact PySem.EqNone.ne_str_none (zV I q (by simp))
  | bl j => cases ry; exact PySem.EqMixed.ne_str_bool (zV I q (by simp))
  | int j => obtain ⟨t', rfl⟩ := ry; exact PySem.EqMixed.ne_str_int (zV I q (by simp))
  | str j => obtain ⟨t', rfl⟩ := ry; exact ne_str (zV I q (congrArg not YK))
  | _ => exact absurd (show false = true from hs) Bool.false_ne_true
 | byt i =>
  obtain ⟨t, rfl⟩ := rx
  cases y with
  | byt j => obtain ⟨t', rfl⟩ := ry; exact PySem.W.ne_bytes (zV I q (congrArg not YL))
  | _ => exact absurd (show false = true from hs) Bool.false_ne_true
 | _ => cases y <;> exact absurd (show false = true from hs) Bool.false_ne_true
theorem op_lt : OpR X (compareOp .Lt) (rI0 fun i j => .bl (decide (i < j))) := opB0 fun _ _ _ _ _ _ _ q => lt_int q
theorem op_le : OpR X (compareOp .LtE) (rI0 fun i j => .bl (decide (i <= j))) := opB0 fun _ _ _ _ _ _ _ q => le_int q
theorem op_gt : OpR X (compareOp .Gt) (rI0 fun i j => .bl (decide (j < i))) := opB0 fun _ _ _ _ _ _ _ q => gt_int q
theorem op_ge : OpR X (compareOp .GtE) (rI0 fun i j => .bl (decide (j <= i))) := opB0 fun _ _ _ _ _ _ _ q => ge_int q
theorem qm (b : Expr) {op : CmpOp} (h : op ≠ .In := by decide) (h2 : op ≠ .NotIn := by decide) : behindInMarks op b = false := by
 have e1 : (op == CmpOp.In) = false := by cases op <;> first | rfl | exact absurd rfl h
 have e2 : (op == CmpOp.NotIn) = false := by cases op <;> first | rfl | exact absurd rfl h2
 cases b <;> simp [behindInMarks, e1, e2]
theorem j3 {op : CmpOp} {r : R2} (ho : OpR X (compareOp op) r) (ha : PE X a ta) (hb : PE X b tb) (hm : behindInMarks op b = false) : PE X (.Compare a [op] [b] pos) (tOp r ta tb) := by
 intro pins s σ H Q I h
 exact wpAny_Compare1 (binT ha hb I h fun v u s2 x y H2 I2 rx ry q => ho pins s2 σ H2 x y v u Q I2 rx ry q) hm
def tTest (t : TE) : TT := fun σ H Q => t σ H fun x H' => ∃ k, x = .bl k /\ Q k H'
theorem zL {op : CmpOp} {r : R2} (ho : OpR X (compareOp op) r) (ha : PE X a ta) (hb : PE X b tb) (hm : behindInMarks op b = false) : PT X (.Compare a [op] [b] pos) (tTest (tOp r ta tb)) := by
 intro pins s σ H Q I h
 refine wpAny_isTrue_Compare1 (thn (ha pins s σ H _ I h) fun v s1 ⟨x, H1, I1, r1, q1⟩ => thn (hb pins s1 σ H1 _ I1 q1) fun u s2 ⟨y, H2, I2, r2, q2⟩ =>
  thn (ho pins s2 σ H2 x y v u _ I2 r1 r2 q2) fun c s3 ⟨z, H3, I3, r3, k, e, q3⟩ => ?_) hm
 subst e
 cases r3
 exact wpAny_truthy_bool ⟨H3, I3, q3⟩
def tChain (r r' : R2) (ta tb tc : TE) : TE := fun σ H Q => ta σ H fun x H1 => tb σ H1 fun y H2 => r x y H2 fun z H3 => ∃ k, z = .bl k /\
 (if k = true then tc σ H3 fun w' H4 => r' y w' H4 Q else Q (.bl false) H3)
theorem pe_chain {op op' : CmpOp} {r r' : R2} (ho : OpR X (compareOp op) r) (ho' : OpR X (compareOp op') r') (ha : PE X a ta) (hb : PE X b tb) (hc : PE X c tc)
  (hm : lastMarks [op, op'] [b, c] = false := by with_unfolding_all rfl) : PE X (.Compare a [op, op'] [b, c] pos) (tChain r r' ta tb tc) := by
 intro pins s σ H Q I h
 refine Compare_chain (thn (ha pins s σ H _ I h) fun v s1 ⟨x, H1, I1, r1, q1⟩ => chain_link (thn (hb pins s1 σ H1 _ I1 q1) fun u s2 ⟨y, H2, I2, r2, q2⟩ =>
  thn (ho pins s2 σ H2 x y v u _ I2 r1 r2 q2) fun d s3 ⟨z, H3, I3, r3, k, e, q3⟩ => ?_)) hm
 subst e
 cases r3
 refine wpAny_truthy_bool ?_
 cases k with
 | false => exact ite_ff ⟨.bl false, H3, I3, rfl, q3⟩
 | true => exact ite_tt (chain_last (thn (hc pins s3 σ H3 _ I3 q3) fun w' s4 ⟨z', H4, I4, r4, q4⟩ => ho' pins s4 σ H4 y z' u w' Q I4 r2 r4 q4))
theorem wG : (sizeLine : Nat) < 2 ^ 63 := by rw [sizeLine_eq]; decide
theorem yP : OpR X (binaryOp .Add) (fun x y H Q => ∃ i j, x = .str i /\ y = .str j /\ i.length + j.length <= sizeLine /\ Q (.str (i ++ j)) H) := by
 intro pins s σ H x y v u Q I rx ry h
 obtain ⟨i, j, rfl, rfl, hz, q⟩ := h
 obtain ⟨t, rfl⟩ := rx
 obtain ⟨t', rfl⟩ := ry
 exact add_str (fun t' tk => ⟨.str (i ++ j), H, I.tok _, ⟨_, rfl⟩, q⟩) hz
theorem vals1 {x : V} {us : List Value} (r : qo [x] us) : ∃ u, us = [u] /\ RelV x u := by
 cases r with
 | cons r1 r2 => cases r2; exact ⟨_, rfl, r1⟩
theorem vals2 {x y : V} {us : List Value} (r : qo [x, y] us) : ∃ u w', us = [u, w'] /\ RelV x u /\ RelV y w' := by
 cases r with
 | cons r1 r2 =>
  cases r2 with
  | cons r3 r4 => cases r4; exact ⟨_, _, rfl, r1, r3⟩
theorem call_abs : jf X (.builtin "abs") (fun xs H Q => ∃ i, xs = [.int i] /\ Q (.int (if i < 0 then -i else i)) H) := by
 intro pins s σ H xs us Q I r h
 obtain ⟨i, rfl, q⟩ := h
 obtain ⟨u, rfl, t, rfl⟩ := vals1 r
 exact call_abs_int fun u tk => ⟨.int (if i < 0 then -i else i), H, I.tok _, ⟨_, rfl⟩, q⟩
theorem YM (hc : X.calm = true) : jf X (.builtin "min") (fun xs H Q => ∃ i j, xs = [.int i, .int j] /\ Q (.int (if j < i then j else i)) H) := by
 intro pins s σ H xs us Q I r h
 obtain ⟨i, j, rfl, q⟩ := h
 obtain ⟨u, w', rfl, ⟨t, rfl⟩, ⟨t', rfl⟩⟩ := vals2 r
 refine min_two_ints (I.ok.hd hc) fun h' tk k => ⟨_, H, I.kept k, ?_, q⟩
 by_cases hj : j < i
 ·rw [if_pos hj, if_pos hj]; exact ⟨_, rfl⟩
 ·rw [if_neg hj, if_neg hj]; exact ⟨_, rfl⟩
theorem YN : jf X (.type "int") (fun xs H Q => (∃ i, xs = [.int i] /\ Q (.int i) H) \/ ∃ k, xs = [.bl k] /\ Q (.int (if k then 1 else 0)) H) := by
 intro pins s σ H xs us Q I r h
 rcases h with ⟨i, rfl, q⟩ | ⟨k, rfl, q⟩
 ·obtain ⟨u, rfl, t, rfl⟩ := vals1 r
  exact call_int_int ⟨.int i, H, I, ⟨_, rfl⟩, q⟩
 ·obtain ⟨u, rfl, r1⟩ := vals1 r
  cases r1
  exact call_int_bool ⟨.int (if k then 1 else 0), H, I.tok _, ⟨_, rfl⟩, q⟩
def LenV (K : PySem.W.Frag) (x : V) (H : Hp) (n : Nat) : Prop :=
 match x with
 | .str y => y.length <= sizeLine /\ n = y.length
 | .byt y => y.size <= sizeLine /\ n = y.size
 | .ref p => (∃ xs, SqL K H p xs /\ n = xs.length) \/ ∃ xs, SqT K H p xs /\ n = xs.length
 | _ => False
theorem call_len : jf X (.builtin "len") (fun xs H Q => ∃ x n, xs = [x] /\ LenV X.K x H n /\ Q (.int n) H) := by
 intro pins s σ H xs us Q I r h
 obtain ⟨x, n, rfl, e, q⟩ := h
 obtain ⟨u, rfl, rx⟩ := vals1 r
 have hl := wG
 have hs : sizeLine = 16777216 := sizeLine_eq
 cases x with
 | str y =>
  obtain ⟨t, rfl⟩ := rx
  obtain ⟨hy, e'⟩ : y.length <= sizeLine /\ n = y.length := e
  subst e'
  exact len_str (by omega) ⟨.int _, H, I.tok _, ⟨_, rfl⟩, q⟩
 | byt y =>
  obtain ⟨t, rfl⟩ := rx
  obtain ⟨hy, e'⟩ : y.size <= sizeLine /\ n = y.size := e
  subst e'
  exact PySem.W.len_bytes (by omega) ⟨.int _, H, I.tok _, ⟨_, rfl⟩, q⟩
 | ref p =>
  cases rx
  have e' : (∃ xs, SqL X.K H p xs /\ n = xs.length) \/ ∃ xs, SqT X.K H p xs /\ n = xs.length := e
  rcases e' with ⟨xs, hx, e'⟩ | ⟨xs, hx, e'⟩
  ·subst e'
   obtain ⟨its, r', pl, hz⟩ := I.list hx
   have hlen := r'.length
   exact Calls.call_len_list pl.isList (by simp only [List.size_toArray]; omega) ⟨.int xs.length, H, I.tok _, ⟨_, by simp only [List.size_toArray]; rw [hlen]⟩, q⟩
  ·subst e'
   obtain ⟨its, r', pl, hz⟩ := I.tuple hx
   have hlen := r'.length
   exact len_tuple pl (by simp only [List.size_toArray]; omega) ⟨.int xs.length, H, I.tok _, ⟨_, by simp only [List.size_toArray]; rw [hlen]⟩, q⟩
 | _ => exact (show False from e).elim
end
end L2
namespace L2
open PySem PySem.Spec PyProof.Rows
structure ObjM (h : Heap) (x dx C : Addr) (mA : Str -> Option Value) : Prop where
 obj : h.get? x = some (PySem.W.instObj C dx)
 ns : h.Ns1 dx mA
 ne : dx ≠ x
theorem YO {h : Heap} {dx : Addr} {mA : Str -> Option Value} (n : h.Ns1 dx mA) : ∃ od, h.get? dx = some od /\ ∀ name, PySem.W.lookIn name od = some (mA name) := by
 obtain ⟨o, es, ep, ho, hd, hk, _, hm⟩ := n
 refine ⟨o, ho, fun name => ?_⟩
 have e := hm name
 unfold nsFind findBy at e
 rw [<- Array.find?_toList] at e
 unfold PySem.W.lookIn
 rw [hd]
 dsimp only
 split
 ·rename_i y q
  rw [q] at e
  exact congrArg some e
 ·rename_i q
  rw [q] at e
  have a : es.toList.any (·.refKey) = false := by
   rw [List.any_eq_false]
   intro y hy
   obtain ⟨z, t, hkey⟩ := hk y (Array.mem_toList_iff.mp hy)
   simp [DictEntry.refKey, hkey]
  have a' : ¬ es.toList.any (·.refKey) = true := by rw [a]; exact Bool.false_ne_true
  rw [if_neg a']
  exact congrArg some e
theorem ObjM.look {h : Heap} {x dx C : Addr} {mA : Str -> Option Value} (I : ObjM h x dx C mA) : ∃ od, PySem.W.InstAt h x (PySem.W.instObj C dx) C (some od) /\ ∀ name, PySem.W.lookIn name od = some (mA name) :=
 let ⟨od, ho, hl⟩ := YO I.ns
 ⟨od, ⟨I.obj, rfl, rfl, ho⟩, hl⟩
section
variable {prog : Program} {w : World} {A : Around} {E : Value -> Shared -> Prop} {s : Shared} {K : PySem.W.Frag} {x dx C f : Addr} {mA : Str -> Option Value} {name : Str} {v : Value}
end
theorem ya.some_of {v : V} {o : Option Value} (r : ya (some v) o) : ∃ u, o = some u /\ RelV v u := by
 cases o with
 | none => exact (show False from r).elim
 | some u => exact ⟨u, rfl, r⟩
section
variable {P : Program} {w : World} {H H' : Hp} {h h' : Heap} {a C dx : Addr} {fs fs' : List (Str × V)}
theorem ins_get (hok : HOk P w H h) (e : H a = some (.ins C dx fs)) : ∃ mA, ObjM h a dx C mA /\ (∀ f, ya (fs.lookup f) (mA f)) /\ PySem.Within mA (fs.map (·.1)) /\ fs.length <= 1000 /\ H dx = some (.own a) := by
 obtain ⟨d, z, ne, ob, mA, n, r, q⟩ := (show qu P w H h a (.ins C dx fs) from hok a _ e)
 exact ⟨mA, ⟨ob, n, ne⟩, r, q, z, d⟩
end
structure Cls (K : PySem.W.Frag) (C : Addr) : Prop where
 pg : PySem.W.plainGet K C Str.empty = true
 hd : PySem.W.hasDictIn K C = true
 po : PySem.W.plainOver K C = true
 sa : PySem.W.findIn K (.ref C) "__setattr__" = some (some (.builtin "object.__setattr__"))
theorem Cls.get {K : PySem.W.Frag} {C : Addr} (c : Cls K C) (f : Str) : PySem.W.plainGet K C f = true := c.pg
section
variable {X : Cx} {pins : List (Addr × Obj)} {σ : St} {H : Hp} {s : Shared} {a C dx : Addr} {fs : List (Str × V)} {f : Str} {v : V} {A : Around} {E : Value -> Shared -> Prop}
end
section
variable {X : Cx} {o e value : Expr} {f : Str} {pos pos' tpos : Pos} {ta tv : TE}
end
section
variable {X : Cx} {pins : List (Addr × Obj)} {σ : St} {H : Hp} {s : Shared} {A : Around} {E : Value -> Shared -> Prop} {Q : Value -> Shared -> Prop} {c : Value} {b : Bool}
inductive ye (K : PySem.W.Frag) (H : Hp) : V -> Value -> Prop where
 | non : ye K H .non (.type "NoneType")
 | bl (x : Bool) : ye K H (.bl x) (.type "bool")
 | int (i : Int) : ye K H (.int i) (.type "int")
 | str (x : Str) : ye K H (.str x) (.type "str")
 | flt (x : UInt64) : ye K H (.flt x) (.type "float")
 | lst {a : Addr} {xs : List V} (e : H a = some (.lst xs)) : ye K H (.ref a) (.type "list")
 | frz {a : Addr} {o : Obj} {xs : List V} (e : H a = some (.frz o (.lst xs))) : ye K H (.ref a) (.type "list")
 | tup {a : Addr} {xs : List V} (e : H a = some (.tup xs)) : ye K H (.ref a) (.type "tuple")
 | dK {a : Addr} {kvs : List (Key × V)} (e : H a = some (.dK kvs)) : ye K H (.ref a) (.type "dict")
 | dT {a : Addr} {kvs : List (List Key × V)} (e : H a = some (.dT kvs)) : ye K H (.ref a) (.type "dict")
 | ins {a C dx : Addr} {fs : List (Str × V)} (e : H a = some (.ins C dx fs)) (cl : Cls K C) (ha : PySem.W.findIn K (.ref C) "__class__" = some (some (.builtin "object.__class__")))
   (hn : PySem.W.specialIn K (.builtin "object.__class__") "__get__" = some (some (.builtin "getset_descriptor.__get__"))) (htk : PySem.W.takesIn K (.builtin "object.__class__") = some true)
   (hm : PySem.W.mroIn K C (.type "object") = some true) : ye K H (.ref a) (.ref C)
theorem YQ {x : V} {u t : Value} (I : Inv X pins σ H s) (rx : RelV x u) (ty : ye X.K H x t) (e : PySem.W.kitOne X.K t c = some b) (h : ∀ tk, Q (.bool b) { s with toks := tk }) :
  wpAny (model X.prog X.w) A (call (.builtin "isinstance") [u, c]) Q E s := by
 cases ty with
 | non => cases (show u = Value.none from rx); exact PySem.W.kia_one PySem.W.kitx_none I.kIn True.intro e (fun z => nomatch z) h
 | bl y => cases (show u = Value.bool y from rx); exact PySem.W.kia_one PySem.W.kitx_bool I.kIn True.intro e (fun z => nomatch z) h
 | int i => obtain ⟨t, q⟩ := (show ∃ t, u = Value.int i t from rx); cases q; exact PySem.W.kia_one PySem.W.kitx_int I.kIn True.intro e (fun z => nomatch z) h
 | str y => obtain ⟨t, q⟩ := (show ∃ t, u = Value.str y t from rx); cases q; exact PySem.W.kia_one PySem.W.kitx_str I.kIn True.intro e (fun z => nomatch z) h
 | flt y => obtain ⟨t, q⟩ := (show ∃ t, u = Value.float y t from rx); cases q; exact PySem.W.kia_one PySem.W.kitx_float I.kIn True.intro e (fun z => nomatch z) h
 | @lst a xs ea =>
  cases (show u = Value.ref a from rx)
  obtain ⟨_, _, n, _, h1⟩ := (show qu X.prog X.w H s.heap a (.lst xs) from I.hok a _ ea)
  exact PySem.W.kia_one PySem.W.kitx_list I.kIn ⟨_, h1, rfl⟩ e (fun z => nomatch z) h
 | @frz a ob xs ea =>
  cases (show u = Value.ref a from rx)
  obtain ⟨_, _, _, n, _, h1⟩ := (show qu X.prog X.w H s.heap a (.frz ob (.lst xs)) from I.hok a _ ea)
  exact PySem.W.kia_one PySem.W.kitx_list I.kIn ⟨_, h1, rfl⟩ e (fun z => nomatch z) h
 | @tup a xs ea =>
  cases (show u = Value.ref a from rx)
  obtain ⟨_, _, _, p⟩ := (show qu X.prog X.w H s.heap a (.tup xs) from I.hok a _ ea)
  obtain ⟨o, h1, h2, _⟩ := p
  exact PySem.W.kia_one PySem.W.kitx_tuple I.kIn ⟨o, h1, h2⟩ e (fun z => nomatch z) h
 | @dK a kvs ea =>
  cases (show u = Value.ref a from rx)
  obtain ⟨_, _, vs, _, p⟩ := (show qu X.prog X.w H s.heap a (.dK kvs) from I.hok a _ ea)
  obtain ⟨o, es, ep, h1, h2, _⟩ := p
  exact PySem.W.kia_one PySem.W.kitx_dict I.kIn ⟨o, h1, h2.1⟩ e (fun z => nomatch z) h
 | @dT a kvs ea =>
  cases (show u = Value.ref a from rx)
  obtain ⟨_, _, xs, _, o, es, ep, h1, h2, _⟩ := (show qu X.prog X.w H s.heap a (.dT kvs) from I.hok a _ ea)
  exact PySem.W.kia_one PySem.W.kitx_dict I.kIn ⟨o, h1, h2.1⟩ e (fun z => nomatch z) h
 | @ins a C dx fs ea cl ha hn htk hm =>
  cases (show u = Value.ref a from rx)
  obtain ⟨mA, O, _⟩ := ins_get I.hok ea
  obtain ⟨od, J, _⟩ := O.look
  exact PySem.W.kia_one (PySem.W.kitx_own (cl.get _) cl.hd ha hn htk hm) I.kIn J e (fun z => nomatch z) h
end
end L2
namespace L2
open PySem PySem.Spec PyProof.Rows
structure ZS (k : Nat) (A : Around) : Prop where
 hd : A.handled = none
 dp : A.depth + 3 * k + 5 < recursionLimit
 un : A.units + 16 * k + 200 < cLine
theorem ZS.mono {j k : Nat} {A : Around} (r : ZS k A) (h : j <= k) : ZS j A := ⟨r.hd, by have := r.dp; omega, by have := r.un; omega⟩
theorem ZS.deeper {k : Nat} {A : Around} (r : ZS (k + 1) A) (env : Env) : ZS k (A.deeper env) :=
 ⟨r.hd, by have := r.dp; show A.depth + 1 + 3 * k + 5 < _; omega, by have := r.un; show A.units + 3 + 16 * k + 200 < _; omega⟩
theorem ZS.depth {k : Nat} {A : Around} (r : ZS k A) : A.depth < recursionLimit := by have := r.dp; omega
theorem ZS.units {k : Nat} {A : Around} (r : ZS k A) : A.units + 64 < cLine := by have := r.un; omega
def tNil : TA := fun _ H Q => Q [] H
def tCons (ta : TE) (tr : TA) : TA := fun σ H Q => ta σ H fun x H1 => tr σ H1 fun xs H2 => Q (x :: xs) H2
section
variable {X : Cx} {e : Expr} {es : List Expr} {te : TE} {t : TA} {pos : Pos}
theorem zc : PA X [] tNil := fun _ _ _ _ H Q I h => Calls.spliced_nil ⟨[], H, I, .nil, h⟩
theorem za (ha : PE X e te) (hr : PA X es t) (hs : starEach (e :: es) X.env = (false, eval e X.env) :: starEach es X.env := by rfl) : PA X (e :: es) (tCons te t) := by
 intro pos pins s σ H Q I h
 rw [hs]
 show wpAny _ _ (spliced ((false, eval e X.env) :: backTo pos (starEach es X.env))) _ _ s
 refine Calls.spliced_cons (thn (ha pins s σ H _ I h) fun u s1 ⟨x, H1, I1, r1, q1⟩ => ?_)
 exact thn (hr pos pins s1 σ H1 _ I1 q1) fun us s2 ⟨xs, H2, I2, r2, q2⟩ => ⟨x :: xs, H2, I2, .cons r1 r2, q2⟩
def tTup (t : TA) : TE := fun σ H Q => t σ H fun xs H1 => xs.length <= sizeLine /\ ∀ p, H1 p = none -> Q (.ref p) (upd H1 p (.tup xs))
def tLst (t : TA) : TE := fun σ H Q => t σ H fun xs H1 => xs.length <= sizeLine /\ ∀ p, H1 p = none -> Q (.ref p) (upd H1 p (.lst xs))
theorem qU {x1} (h : PA X es t) : PE X (.Tuple es x1 pos) (tTup t) := by
 intro pins s σ H Q I hq
 refine wpAny_Tuple_spliced (thn (h pos pins s σ H _ I hq) fun us s1 ⟨xs, H1, I1, r, z, q⟩ => ⟨by rw [<- r.length]; exact z, ?_⟩)
 have hf : H1 s1.heap.objs.size = none := I1.hok.fresh (Nat.le_refl _)
 refine ⟨.ref s1.heap.objs.size, upd H1 s1.heap.objs.size (.tup xs), I1.laid (t' := s1.toks) (fun b u e => Heap.get?_push_of_some _ e) (Nat.le_refl _) ?_, rfl, q _ hf⟩
 exact ⟨z, us, r, ⟨_, Heap.get?_push_size _ rfl, rfl, ⟨_, rfl⟩, rfl⟩⟩
theorem qf (h : PA X es t) : PE X (.List es pos) (tLst t) := by
 intro pins s σ H Q I hq
 refine wpAny_List_spliced (thn (h pos pins s σ H _ I hq) fun us s1 ⟨xs, H1, I1, r, z, q⟩ => ⟨by rw [<- r.length]; exact z, ?_⟩)
 have hf : H1 s1.heap.objs.size = none := I1.hok.fresh (Nat.le_refl _)
 refine ⟨.ref s1.heap.objs.size, upd H1 s1.heap.objs.size (.lst xs), I1.laid (t' := s1.toks) (fun b u e => Heap.get?_push_of_some _ e) (Nat.le_refl _) ?_, rfl, q _ hf⟩
 exact ⟨z, us, 0, r, Heap.get?_push_size _ rfl⟩
end
abbrev Sp := List V -> Hp -> VK -> XK -> Prop
abbrev CXT := List Env -> Hp -> Shared -> XK -> Value -> Shared -> Prop
structure Env0 (P : Program) (w : World) (K : PySem.W.Frag) (mg : Str -> Option Value) (base : Heap) (A : Around) (outer : List Env) (s : Shared) (H : Hp) : Prop where
 frames : A.frames = some outer
 mod : Mod K mg base
 bs : ∀ b o, base.get? b = some o -> s.heap.get? b = some o /\ H b = none
 bsz : base.objs.size <= s.heap.objs.size
 funs : s.heap.FunFrames base outer
 frf : ∀ b ∈ frs outer, H b = none
 hok : HOk P w H s.heap
 bare : AllBare s.gens
def CE (outer : List Env) (P : Program) (w : World) (H : Hp) (s : Shared) (Q : VK) (u : Value) (s' : Shared) : Prop :=
 ∃ v H', s'.os = s.os /\ AllBare s'.gens /\ Un (frs outer) [] H H' s.heap s'.heap /\ HOk P w H' s'.heap /\ RelV v u /\ Q v H'
def CR (CX : CXT) (outer : List Env) (P : Program) (w : World) (H : Hp) (s : Shared) (Q : VK) (E : XK) (r : Result) (s' : Shared) : Prop :=
 match r with
 | .ok (.ret u) => CE outer P w H s Q u s'
 | .ok _ => False
 | .error e => CX outer H s E e s'
structure jT (P : Program) (w : World) (K : PySem.W.Frag) (mg : Str -> Option Value) (base : Heap) (CX : CXT) (k : Nat) (f : Addr) (fd : FuncData) (ps : List Str) (sp : Sp) : Prop where
 len : ∀ vs H Q E, sp vs H Q E -> vs.length = ps.length
 run : ∀ (A : Around) (outer : List Env) (s : Shared) (H : Hp) (args : Args) (us : List Value) (vs : List V) (Q : VK) (E : XK), ZS k A -> Env0 P w K mg base A outer s H -> BindsTo s fd args (ps.zip us) -> qo vs us -> sp vs H Q E ->
  codeAny (model P w) A (.call (.ref f) args) (CR CX outer P w H s Q E) s
section
variable {X : Cx} {pins : List (Addr × Obj)} {σ : St} {H : Hp} {s s' : Shared}
theorem Inv.env0 (I : Inv X pins σ H s) : Env0 X.prog X.w X.K X.mg X.base X.A X.stack s H :=
 ⟨I.ok.frames, I.ok.mod, I.bs, Nat.le_trans I.ok.bsz I.sz, I.stack, I.stkFree, I.hok, I.bare⟩
theorem Inv.after {Q : VK} {u : Value} (I : Inv X pins σ H s) (h : CE X.stack X.prog X.w H s Q u s') : EP X pins σ Q u s' := by
 obtain ⟨v, H', os, bare, un, hok, r, q⟩ := h
 obtain ⟨hh, g, d, t, os'⟩ := s'
 obtain rfl : os' = s.os := os
 exact ⟨v, H', I.call (h' := hh) (g' := g) (d' := d) (t' := t) (ch := []) un hok bare (fun b z => absurd z (by simp)), r, q⟩
end
def tCall (sp : Sp) (dvs : List V) (E : XK) (t : TA) : TE := fun σ H Q => t σ H fun vs H1 => sp (vs ++ dvs) H1 Q E
def Binds (K : PySem.W.Frag) (fd : FuncData) (ps : List Str) (ds : List Value) : Prop :=
 ∀ (s : Shared) (us : List Value), K.In s.heap -> (us ++ ds).length = ps.length -> BindsTo s fd ⟨us, []⟩ (ps.zip (us ++ ds))
theorem Binds.all {K : PySem.W.Frag} {fd : FuncData} {ps : List Str} (h : ∀ us : List Value, us.length = ps.length -> bindArgs fd ⟨us, []⟩ = pure (ps.zip us)) : Binds K fd ps [] := fun s us _ hl => by
 rw [List.append_nil] at hl ⊢
 exact .of_eq (h us hl)
def YR (CX : CXT) (X : Cx) (E : XK) : Prop := ∀ (pins : List (Addr × Obj)) (σ : St) (H : Hp) (s : Shared) (e : Value) (s' : Shared), Inv X pins σ H s -> CX X.stack H s E e s' -> X.xe e s'
section
variable {X : Cx} {CX : CXT} {k : Nat} {f C : Addr} {fd : FuncData} {ps : List Str} {sp : Sp} {dvs : List V} {ds : List Value} {E : XK} {x m : Str} {p pos apos : Pos} {e o : Expr} {es : List Expr} {ta : TE} {t : TA}
theorem run_fn {pins : List (Addr × Obj)} {σ : St} {H : Hp} {s : Shared} {Q : VK} {us : List Value} {vs : List V} (F : jT X.prog X.w X.K X.mg X.base CX k f fd ps sp) (hr : ZS k X.A) (hb : Binds X.K fd ps ds) (hd : qo dvs ds) (hx : YR CX X E)
  (I : Inv X pins σ H s) (r : qo vs us) (h : sp (vs ++ dvs) H Q E) : wpAny (model X.prog X.w) X.A (call (.ref f) us) (EP X pins σ Q) X.xe s := by
 have r2 : qo (vs ++ dvs) (us ++ ds) := r.append hd
 have hl : (us ++ ds).length = ps.length := by rw [<- r2.length]; exact F.len _ _ _ _ h
 refine wpAny_call (codeAny_mono (F.run X.A X.stack s H ⟨us, []⟩ (us ++ ds) (vs ++ dvs) Q E hr I.env0 (hb s us I.kIn hl) r2 h) fun r s' hq => ?_)
 cases r with
 | error e => exact hx pins σ H s e s' I hq
 | ok fl =>
  cases fl with
  | ret u => exact I.after hq
  | next => exact False.elim hq
  | brk => exact False.elim hq
  | cont => exact False.elim hq
theorem pe_call (F : jT X.prog X.w X.K X.mg X.base CX k f fd ps sp) (hr : ZS k X.A) (hg : Gl X x) (hm : X.mg x = some (.ref f)) (hk : PySem.W.keepIn X.K (.ref f) = true) (hb : Binds X.K fd ps ds) (hd : qo dvs ds) (hx : YR CX X E)
  (ha : PA X (e :: es) t) (hdb : (x == ("__debug__" : Str)) = false := by decide) (he : starEach (e :: es) X.env = (false, eval e X.env) :: starEach es X.env := by rfl) (hpl : (backTo pos (starEach es X.env)).any (·.1) = false := by rfl) :
  PE X (.Call (.Name x p) (e :: es) [] pos) (tCall sp dvs E t) := by
 intro pins s σ H Q I h
 refine wpAny_Call_Name_kw (ld_glob I hg hm ?_ hdb)
 refine PySem.W.callWith_K (h₀ := X.base) I.ok.mod.kin hk (thn (ha pos pins s σ H _ I h) fun us s1 ⟨vs, H1, I1, r, q⟩ => ⟨I1.kIn, ?_⟩) he hpl
 exact run_fn F hr hb hd hx I1 r q
end
section
variable {X : Cx} {CX : CXT} {k : Nat} {f C : Addr} {fd : FuncData} {ps ks : List Str} {sp : Sp} {E : XK} {x m : Str} {p pos apos kpos : Pos} {e o : Expr} {es : List Expr} {kws : List Keyword} {te ta : TE} {t tk : TA} {nm : Option Str}
variable {g : List Value -> List Value -> List Value} {gV : List V -> List V -> List V}
end
structure zD (N P : List Str) (sc : Scope) : Prop where
 kind : sc.kind = .function
 co : sc.isCoroutine = false
 gen : sc.isGenerator = false
 nd : N.Nodup
 pre : N.take P.length = P
 par : ∀ x ∈ P, sc.names.lookup x = some .local \/ sc.names.lookup x = some .cell
 nofree : ∀ y ∈ sc.names, y.2 ≠ .free
theorem wH {kindOf : Str -> Option NameKind} {x : Str} : ∀ {binds : List (Str × Value)} {m : Str -> Option Value}, (∀ v, (x, v) ∉ binds) -> bindL kindOf binds m x = m x
 | [], _, _ => rfl
 | (n, v) :: r, m, h => by
  unfold bindL
  rw [wH fun w hw => h w (List.mem_cons_of_mem _ hw)]
  split
  ·have : x ≠ n := by rintro rfl; exact h v List.mem_cons_self
   simp [this]
  ·rfl
theorem wI {kindOf : Str -> Option NameKind} {x : Str} : ∀ {binds : List (Str × Value)} {m : Str -> Option Value}, (∀ v, (x, v) ∉ binds) -> bindC kindOf binds m x = m x
 | [], _, _ => rfl
 | (n, v) :: r, m, h => by
  unfold bindC
  rw [wI fun w hw => h w (List.mem_cons_of_mem _ hw)]
  split
  ·rfl
  ·have : x ≠ n := by rintro rfl; exact h v List.mem_cons_self
   simp [this]
theorem wJ {kindOf : Str -> Option NameKind} {x : Str} {v : Value} : ∀ {P : List Str} {vs : List Value} {i : Nat} {m : Str -> Option Value}, P.Nodup -> P[i]? = some x -> vs[i]? = some v -> kindOf x = some .local ->
  bindL kindOf (P.zip vs) m x = some v
 | [], _, _, _, _, h, _, _ => by simp at h
 | _ :: _, [], _, _, _, _, h, _ => by simp at h
 | p :: P, w :: vs, 0, m, nd, h1, h2, hk => by
  simp at h1 h2; subst h1; subst h2
  show bindL kindOf ((p, w) :: P.zip vs) m p = _
  unfold bindL
  rw [wH fun v hv => (List.nodup_cons.mp nd).1 (List.of_mem_zip hv).1, if_pos hk]
  simp
 | p :: P, w :: vs, i + 1, m, nd, h1, h2, hk => by
  show bindL kindOf ((p, w) :: P.zip vs) m x = _
  unfold bindL
  exact wJ (i := i) (List.nodup_cons.mp nd).2 (by simpa using h1) (by simpa using h2) hk
theorem wK {kindOf : Str -> Option NameKind} {x : Str} {v : Value} : ∀ {P : List Str} {vs : List Value} {i : Nat} {m : Str -> Option Value}, P.Nodup -> P[i]? = some x -> vs[i]? = some v -> kindOf x ≠ some .local ->
  bindC kindOf (P.zip vs) m x = some v
 | [], _, _, _, _, h, _, _ => by simp at h
 | _ :: _, [], _, _, _, _, h, _ => by simp at h
 | p :: P, w :: vs, 0, m, nd, h1, h2, hk => by
  simp at h1 h2; subst h1; subst h2
  show bindC kindOf ((p, w) :: P.zip vs) m p = _
  unfold bindC
  rw [wI fun v hv => (List.nodup_cons.mp nd).1 (List.of_mem_zip hv).1, if_neg hk]
  simp
 | p :: P, w :: vs, i + 1, m, nd, h1, h2, hk => by
  show bindC kindOf ((p, w) :: P.zip vs) m x = _
  unfold bindC
  exact wK (i := i) (List.nodup_cons.mp nd).2 (by simpa using h1) (by simpa using h2) hk
def start (N : List Str) (vs : List V) : St := vs.map some ++ List.replicate (N.length - vs.length) none
def cxOf (CX : CXT) (P : Program) (w : World) (K : PySem.W.Frag) (mg : Str -> Option Value) (base : Heap) (N : List Str) (qual : Str) (scope : Scope) (f : Addr) (cd : Value) (A : Around) (outer : List Env) (s : Shared) (H : Hp) (E : XK) : Cx where
 prog := P
 w := w
 K := K
 mg := mg
 base := base
 A := A.deeper (envOfC qual scope s.heap.objs.size f cd)
 N := N
 s₀ := s
 H₀ := H
 env := envOfC qual scope s.heap.objs.size f cd
 outer := outer
 stack := envOfC qual scope s.heap.objs.size f cd :: outer
 ex := []
 calm := true
 fn := fun _ => true
 pn := []
 xe := fun e s' => wpAny (model P w) (A.deeper (envOfC qual scope s.heap.objs.size f cd)) (leaving (envOfC qual scope s.heap.objs.size f cd) e) (fun _ s'' => CX outer H s E e s'') (fun e' s'' => CX outer H s E e' s'') s'
theorem yf {sc : Scope} {n : Nat} {x : Str} (h : sc.names.lookup x = some .cell) : ∃ c, (cellsFrom n sc.names []).lookup x = some c := by
 have q := PySem.W.cellsFrom_some sc.names n [] (.inl h)
 exact Option.isSome_iff_exists.mp q
theorem YS {CX : CXT} {P : Program} {w : World} {K : PySem.W.Frag} {mg : Str -> Option Value} {base : Heap} {N ps : List Str} {qual : Str} {scope : Scope} {f : Addr} {cd : Value} {A : Around} {outer : List Env} {s s1 : Shared} {H : Hp} {E : XK} {us : List Value} {vs : List V}
  (S : zD N ps scope) (hd : A.handled = none) (e0 : Env0 P w K mg base A outer s H) (hl : vs.length = ps.length) (r : qo vs us)
  (x : InCallC s s.heap.objs.size (bindL (envOfC qual scope s.heap.objs.size f cd).kindOf (ps.zip us) fun _ => none) (cellsFrom (s.heap.objs.size + 1) scope.names []) (bindC (envOfC qual scope s.heap.objs.size f cd).kindOf (ps.zip us) fun _ => none) s1) :
  Inv (cxOf CX P w K mg base N qual scope f cd A outer s H E) [] (start N vs) H s1 := by
 have hpl : ps.length <= N.length := by have := congrArg List.length S.pre; rw [List.length_take] at this; omega
 obtain ⟨h1, tk, rfl, hk⟩ := x.done
 have noA : ∀ b : Addr, b ∉ (cxOf CX P w K mg base N qual scope f cd A outer s H E).ex := fun b z => absurd (show b ∈ ([] : List Addr) from z) (by simp)
 refine ⟨⟨e0.mod, S.kind, rfl, rfl, Nat.le_refl _, fun y z c h1 h2 => ?_, fun y hy => ?_, fun y c _ h => ?_, fun _ => hd, Around.frames_deeper e0.frames, .inr ⟨rfl, rfl⟩, fun b z => absurd z (noA b), e0.bs, e0.bsz, fun b _ _ => noA b, fun b z => absurd z (noA b), e0.funs, e0.frf⟩,
  rfl, e0.bare, Un.kept hk, ⟨_, x.toInCall.ns, fun i y v h1 h2 h3 => ?_⟩, fun y c h => ⟨_, x.cell y c h⟩, e0.hok.fresh (Nat.le_refl _), fun y c h => ?_, fun p hp => absurd (show p ∈ ([] : List (Addr × Obj)) from hp) (by simp), e0.hok.kept hk, ?_⟩
 ·exact name_of_addr x.apart (PySem.mem_of_lookup h1) (PySem.mem_of_lookup h2)
 ·have hy : scope.names.lookup y = some .cell \/ scope.names.lookup y = some .free := hy
  rcases hy with hy | hy
  ·exact yf hy
  ·exact absurd rfl (S.nofree _ (PySem.mem_of_lookup hy))
 ·exact Nat.le_of_lt (x.above y c (PySem.mem_of_lookup h))
 ·have hi : i < vs.length := by
   unfold start at h2
   by_cases hi : i < vs.length
   ·exact hi
   ·rw [List.getElem?_append_right (by simpa using hi)] at h2
    rw [List.getElem?_replicate] at h2
    split at h2 <;> cases h2
  have ha : vs[i]? = some v := by
   unfold start at h2
   rw [List.getElem?_append_left (by simpa using hi), List.getElem?_map] at h2
   cases e : vs[i]? with
   | none => rw [e] at h2; cases h2
   | some a => rw [e] at h2; cases h2; rfl
  obtain ⟨u, hu, rv⟩ := r.get ha
  have hp : ps[i]? = some y := by
   rw [<- S.pre, List.getElem?_take_of_lt (by omega)]; exact h1
  have ndP : ps.Nodup := by rw [<- S.pre]; exact S.nd.sublist (List.take_sublist _ _)
  refine ⟨u, rv, ?_⟩
  rcases S.par y (List.mem_of_getElem? hp) with k | k
  ·exact .inl ⟨k, wJ ndP hp hu k⟩
  ·obtain ⟨c, e⟩ := yf (n := s.heap.objs.size + 1) k
   refine .inr ⟨.inl k, c, e, ?_⟩
   have q := x.cell y c e
   rw [wK ndP hp hu (by show scope.names.lookup y ≠ _; rw [k]; decide)] at q
   exact q
 ·exact e0.hok.fresh (Nat.le_of_lt (x.above y c (PySem.mem_of_lookup h)))
 ·unfold start
  show _ = N.length
  rw [List.length_append, List.length_map, List.length_replicate]
  omega
theorem fn_of {CX : CXT} {P : Program} {w : World} {K : PySem.W.Frag} {mg : Str -> Option Value} {base : Heap} {k : Nat} {f : Addr} {name qual : Str} {params : Arguments} {body : List Stmt} {scope : Scope} {dV kV doc pm cdv ct oc : Value} {an od : Option Addr}
  {osl : Array (Option Value)} {N ps : List Str} {sp : Sp} (lk : K.lookup f = some ⟨oc, od, .func (PySem.W.fnOf name qual params body scope dV kV doc pm an cdv ct), osl⟩) (hcd : PySem.W.codeIn K cdv qual = true) (S : zD N ps scope)
  (len : ∀ vs H Q E, sp vs H Q E -> vs.length = ps.length)
  (hbody : ∀ (A : Around) (outer : List Env) (s : Shared) (H : Hp) (vs : List V) (Q : VK) (E : XK), ZS k (A.deeper (envOfC qual scope s.heap.objs.size f cdv)) -> sp vs H Q E ->
   ∃ t, PSs (cxOf CX P w K mg base N qual scope f cdv A outer s H E) body t /\ t { nx := fun _ H' => Q .non H', rt := Q } (start N vs) H) :
  jT P w K mg base CX (k + 1) f (PySem.W.fnOf name qual params body scope dV kV doc pm an cdv ct) ps sp := by
 refine ⟨len, fun A outer s H args us vs Q E hr e0 hb r hsp => ?_⟩
 have hl := len _ _ _ _ hsp
 have KX : K.In s.heap := e0.mod.kin.keeps fun b o e => (e0.bs b o e).1
 have lim : s.heap.NoLimit := e0.mod.nolimit.keeps fun b o e => (e0.bs b o e).1
 have hkind : ∀ y ∈ ps.zip us, scope.names.lookup y.1 = some .local \/ (scope.names.lookup y.1 = some .cell /\ ((cellsFrom (s.heap.objs.size + 1) scope.names []).lookup y.1).isSome = true) := fun ⟨n, v⟩ hy => by
  rcases S.par n (List.of_mem_zip hy).1 with q | q
  ·exact .inl q
  ·exact .inr ⟨q, PySem.W.cellsFrom_some _ _ _ (.inl q)⟩
 refine codeAny_call_function hr.depth (KX _ _ lk) rfl S.co S.gen rfl (PySem.W.codeRec_of KX hcd) (hb _ _ _ _ ?_)
 refine wpAny_newFunctionEnv_cells S.kind hkind fun env he s1 x => ?_
 subst he
 refine ⟨lim.keeps x.toInCall.keep, codeAny_func ?_⟩
 obtain ⟨t, ht, hq⟩ := hbody A outer s H vs Q E (hr.deeper _) hsp
 have I : Inv (cxOf CX P w K mg base N qual scope f cdv A outer s H E) [] (start N vs) H s1 := YS S hr.hd e0 hl r x
 refine wpAny_mono (ht [] s1 (start N vs) H _ I hq) (fun fl s' hs => ?_) fun e s' hs => hs
 have fin : ∀ {σ' : St} {H' : Hp} {v : V} {u : Value}, Inv (cxOf CX P w K mg base N qual scope f cdv A outer s H E) [] σ' H' s' -> RelV v u -> Q v H' -> CE outer P w H s Q u s' :=
  fun {σ' H' v u} J rv q => ⟨v, H', J.os, J.bare, J.base, J.hok, rv, q⟩
 cases fl with
 | ret u =>
  obtain ⟨v, σ', H', J, rv, q⟩ := hs
  exact fin J rv q
 | next =>
  obtain ⟨σ', H', J, q⟩ := hs
  exact fin (v := V.non) (u := Value.none) J rfl q
 | brk =>
  obtain ⟨_, _, _, q⟩ := hs
  exact False.elim q
 | cont =>
  obtain ⟨_, _, _, q⟩ := hs
  exact False.elim q
end L2
namespace L2
open PySem PySem.Spec PyProof.Rows
section
variable {X : Cx} {x : Str} {p pos : Pos} {e : Expr} {es : List Expr} {t : TA} {id T : String} {r : List V -> Hp -> VK -> Prop}
def tCB (r : List V -> Hp -> VK -> Prop) (t : TA) : TE := fun σ H Q => t σ H fun vs H1 => r vs H1 Q
theorem zo (hc : jf X (.builtin id) r) (hg : Gl X x) (hm : X.mg x = none) (hv : bootBuiltins x = some (.builtin id)) (ha : PA X (e :: es) t) (hn : x ≠ "__name__" := by decide) (hdb : (x == ("__debug__" : Str)) = false := by decide)
  (he : starEach (e :: es) X.env = (false, eval e X.env) :: starEach es X.env := by rfl) (hpl : (backTo pos (starEach es X.env)).any (·.1) = false := by rfl) : PE X (.Call (.Name x p) (e :: es) [] pos) (tCB r t) := by
 intro pins s σ H Q I h
 refine wpAny_Call_Name_kw (ZR I hg hm hv ?_ hn hdb)
 exact PyProof.Rows.callWith_builtin1 (thn (ha pos pins s σ H _ I h) fun us s1 ⟨vs, H1, I1, r1, q1⟩ => hc pins s1 σ H1 vs us Q I1 r1 q1) he hpl
theorem zG (hc : jf X (.type T) r) (hg : Gl X x) (hm : X.mg x = none) (hv : bootBuiltins x = some (.type T)) (ha : PA X (e :: es) t) (hn : x ≠ "__name__" := by decide) (hdb : (x == ("__debug__" : Str)) = false := by decide)
  (he : starEach (e :: es) X.env = (false, eval e X.env) :: starEach es X.env := by rfl) (hpl : (backTo pos (starEach es X.env)).any (·.1) = false := by rfl) : PE X (.Call (.Name x p) (e :: es) [] pos) (tCB r t) := by
 intro pins s σ H Q I h
 refine wpAny_Call_Name_kw (ZR I hg hm hv ?_ hn hdb)
 exact PyProof.Rows.callWith_type1 (thn (ha pos pins s σ H _ I h) fun us s1 ⟨vs, H1, I1, r1, q1⟩ => hc pins s1 σ H1 vs us Q I1 r1 q1) he hpl
end
end L2
namespace HT
open PySem PyProof.Rows
section
open PySem.SeqAt
open PySem.AutoSeq1 (wpAny_loadPart')
open PySem.MeetsSeq PySem.MeetsSeq2 PySem.MeetsSeq3
end
section
variable {prog : Program} {w : World} {A : Around} {E : Value -> Shared -> Prop} {s : Shared}
theorem cat_tup {t b : Addr} {vs ws : List Value} {Q : Value -> Shared -> Prop} (ht : IsTup s.heap t vs.toArray) (hb : IsTup s.heap b ws.toArray) (hv : vs ≠ [])
  (h1 : ws = [] -> Q (.ref t) s) (h2 : ws ≠ [] -> Q (.ref s.heap.objs.size) { s with heap := s.heap.push { cls := .type "tuple", data := .seq (vs ++ ws).toArray } })
  (hsz : vs.length + ws.length <= sizeLine) : wpAny (model prog w) A (binaryOp .Add (.ref t) (.ref b)) Q E s := by
 obtain ⟨⟨cls, dd, data, sl⟩, ho, hc, n, hd⟩ := id ht
 obtain ⟨⟨cls2, dd2, data2, sl2⟩, ho2, hc2, n2, hd2⟩ := id hb
 simp only at hc hd hc2 hd2
 subst hc hd hc2 hd2
 have e : vs.toArray ++ ws.toArray = (vs ++ ws).toArray := by simp
 by_cases hw : ws = []
 ·exact concat_meets ⟨_, ho, rfl⟩ ⟨_, ho2, rfl⟩ noFill_tuple_add seq_tuple_add PySem.F.slot_tuple_add PySem.F.entry_tuple_add (PySem.F.args_tuple_add_2 _ _)
   (tuple_addW1 t b vs.toArray ws.toArray n n2 dd dd2 sl sl2 (by simpa using hv) (by simp [hw])) ⟨ho, ho2, h1 hw⟩
 ·refine concat_meets ⟨_, ho, rfl⟩ ⟨_, ho2, rfl⟩ noFill_tuple_add seq_tuple_add PySem.F.slot_tuple_add PySem.F.entry_tuple_add (PySem.F.args_tuple_add_2 _ _)
   (tuple_addW2 t b vs.toArray ws.toArray n n2 dd dd2 sl sl2 (by simpa using hv) (by simpa using hw) (by rw [List.size_toArray, List.size_toArray]; exact hsz)) ⟨ho, ho2, ?_⟩
  rw [e]
  exact h2 hw
def sIx (n d : Nat) : Option Int -> Nat
 | none => d
 | some v => if v < 0 then (v + (n : Int)).toNat else min v.toNat n
theorem sIx_none (n d : Nat) : sIx n d none = d := rfl
theorem sIx_nat (n d k : Nat) : sIx n d (some (k : Int)) = min k n := by
 show (if (k : Int) < 0 then ((k : Int) + (n : Int)).toNat else min (k : Int).toNat n) = min k n
 rw [if_neg (by omega), Int.toNat_natCast]
theorem sIx_le (n d : Nat) (hd : d <= n) (o : Option Int) : sIx n d o <= n := by
 cases o with
 | none => exact hd
 | some v =>
  show (if v < 0 then (v + (n : Int)).toNat else min v.toNat n) <= n
  by_cases hv : v < 0
  ·rw [if_pos hv]; omega
  ·rw [if_neg hv]; exact Nat.min_le_right _ _
theorem clip_eq (v : Int) (n d : Nat) : (if v < 0 then max (v + (n : Int)) 0 else min v (n : Int)) = ((sIx n d (some v) : Nat) : Int) := by
 show (if v < 0 then max (v + (n : Int)) 0 else min v (n : Int)) = (((if v < 0 then (v + (n : Int)).toNat else min v.toNat n) : Nat) : Int)
 by_cases hv : v < 0
 ·simp only [if_pos hv]; omega
 ·simp only [if_neg hv]; omega
theorem adjust_gen (lo hi : Option Int) (n : Nat) : Builtin.Slice.sliceAdjust lo hi 1 (n : Int) = (((sIx n 0 lo : Nat) : Int), ((sIx n n hi : Nat) : Int)) := by
 have h1 : ¬ ((1 : Int) < 0) := by omega
 unfold Builtin.Slice.sliceAdjust
 simp only [h1, if_false]
 refine Prod.ext ?_ ?_
 ·cases lo with
  | none => rfl
  | some v => exact clip_eq v n 0
 ·cases hi with
  | none => rfl
  | some v => exact clip_eq v n n
theorem places_gen (i j : Nat) : Builtin.Slice.slicePlaces (i : Int) (j : Int) 1 = j - i := by
 unfold Builtin.Slice.slicePlaces
 have h1 : (1 : Int) > 0 := by omega
 simp only [h1, if_true, Int.ediv_one]
 split <;> omega
theorem slicePart_ {v : Value} {o : Option Int} {Q : Option Int -> Shared -> Prop} (p : IsPart v o) (h : Q o s) : wpAny (model prog w) A (Builtin.Slice.slicePartIndex v) Q E s := by
 cases p with
 | none => exact slicePart_none h
 | int i t => exact slicePart_int h
theorem sliceApplied_gen {sl : Addr} {vl vu : Value} {lo hi : Option Int} {n : Nat} {Q : Int × Int × Nat -> Shared -> Prop} (hs : s.heap.IsSliceOf sl vl vu .none) (pl : IsPart vl lo) (pu : IsPart vu hi)
  (h : Q (((sIx n 0 lo : Nat) : Int), 1, sIx n n hi - sIx n 0 lo) s) : wpAny (model prog w) A (Builtin.Slice.sliceApplied (.ref sl) (pure (n : Int))) Q E s := by
 obtain ⟨os, hos, hcs, hds⟩ := id hs
 unfold Builtin.Slice.sliceApplied Builtin.Slice.sliceFields
 refine wpAny_bind (wpAny_bind (wpAny_field hos hds (x := vl) rfl (wpAny_bind (wpAny_field hos hds (x := vu) rfl (wpAny_bind (wpAny_field hos hds (x := .none) rfl (wpAny_pure ?_)))))))
 refine wpAny_bind (slicePart_none ?_)
 show wpAny _ _ (if ((1 : Int) == 0) = true then _ else _) _ _ s
 rw [if_neg (by decide)]
 refine wpAny_bind (slicePart_ pl (wpAny_bind (slicePart_ pu (wpAny_bind (wpAny_pure ?_)))))
 show wpAny _ _ (match Builtin.Slice.sliceAdjust lo hi 1 (n : Int) with | (lo, hi) => pure (lo, (1 : Int), Builtin.Slice.slicePlaces lo hi 1)) _ _ s
 rw [adjust_gen lo hi n]
 show wpAny _ _ (pure (((sIx n 0 lo : Nat) : Int), (1 : Int), Builtin.Slice.slicePlaces ((sIx n 0 lo : Nat) : Int) ((sIx n n hi : Nat) : Int) 1)) _ _ s
 rw [places_gen]
 exact wpAny_pure h
theorem pick_gen (xs : Array Value) (i k : Nat) : ((List.range k).filterMap fun (m : Nat) => xs[((i : Int) + (m : Int) * 1).toNat]?).toArray = ((xs.toList.drop i).take k).toArray := by
 have e : (fun (m : Nat) => xs[((i : Int) + (m : Int) * 1).toNat]?) = fun m => xs[i + m]? := by
  funext m
  have : ((i : Int) + (m : Int) * 1).toNat = i + m := by omega
  rw [this]
 rw [e]
 have := pick_run xs i k
 rw [List.filterMap_map] at this
 have e2 : ((fun x => xs[x]?) ∘ fun x => i + x) = fun m => xs[i + m]? := rfl
 rw [e2] at this
 rw [this]
theorem getItem_tuple_cut {t sl : Addr} {items : Array Value} {vl vu : Value} {lo hi : Option Int} {Q : Value -> Shared -> Prop} (ht : IsTup s.heap t items) (hs : s.heap.IsSliceOf sl vl vu .none) (pl : IsPart vl lo) (pu : IsPart vu hi)
  (hw : ¬ (sIx items.size 0 lo = 0 /\ sIx items.size items.size hi = items.size))
  (h : Q (.ref s.heap.objs.size) { s with heap := s.heap.push { cls := .type "tuple", data := .seq ((items.toList.drop (sIx items.size 0 lo)).take (sIx items.size items.size hi - sIx items.size 0 lo)).toArray } })
  (hsz : items.size <= sizeLine) : wpAny (model prog w) A (getItem (.ref t) (.ref sl)) Q E s := by
 have htake : sizeOk (.seq ((items.toList.drop (sIx items.size 0 lo)).take (sIx items.size items.size hi - sIx items.size 0 lo)).toArray) := by
  show ((items.toList.drop (sIx items.size 0 lo)).take (sIx items.size items.size hi - sIx items.size 0 lo)).toArray.size <= sizeLine
  rw [List.size_toArray, List.length_take, List.length_drop, Array.length_toList]
  omega
 have hj : sIx items.size items.size hi <= items.size := sIx_le _ _ (Nat.le_refl _) hi
 obtain ⟨os, hos, hcs, hds⟩ := id hs
 have hTs : s.TypeIs (.ref sl) "slice" := ⟨os, hos, hcs⟩
 unfold getItem
 try with_reducible refine wpAny_holding ?_
 first | refine wpAny_bind (wpAny_pure ?_) | skip
 refine wpAny_bind (wpAny_sequenceKey ht.typeIs (by decide) ?_)
 refine wpAny_bind (wpAny_callSpecial?_slot (name := Str.ofString "__getitem__") ht.typeIs PyProof.Rows.slot_tuple_getitem
  (wpAny_call_entry PyProof.Rows.slot_tuple_getitem ht.typeIs entry_tuple_getitem ?_ (args_tuple_getitem _ _)))
 show wpAny _ _ (Builtin.Tuple.tupleItemsOf (.ref t) >>= _) _ _ s
 refine wpAny_bind (tupleItemsOf_ ht ?_)
 refine wpAny_bind (wpAny_typeOf hTs ?_)
 rw [if_pos (by decide)]
 refine wpAny_bind (sliceApplied_gen hs pl pu ?_)
 have hno : ¬ ((((sIx items.size 0 lo : Nat) : Int) == 0 && (1 : Int) == 1 && (sIx items.size items.size hi - sIx items.size 0 lo) == items.size) = true) := by
  intro q
  rw [Bool.and_eq_true, Bool.and_eq_true] at q
  have q1 : ((sIx items.size 0 lo : Nat) : Int) = 0 := eq_of_beq q.1.1
  have q2 : sIx items.size items.size hi - sIx items.size 0 lo = items.size := eq_of_beq q.2
  exact hw ⟨by omega, by omega⟩
 show wpAny _ _ (if (((sIx items.size 0 lo : Nat) : Int) == 0 && (1 : Int) == 1 && (sIx items.size items.size hi - sIx items.size 0 lo) == items.size) = true then _ else _) _ _ s
 rw [if_neg hno, pick_gen]
 first
  | exact wpAny_bind (m := Builtin.Tuple.tupleExact _) (wpAny_newObj_type (wpAny_pure ⟨_, rfl, wpAny_pure h⟩) htake)
  | exact wpAny_bind (m := Builtin.Tuple.tupleExact _) (wpAny_newObj_type (wpAny_bind (wpAny_pure (wpAny_pure ⟨_, rfl, wpAny_pure h⟩))) htake)
  | exact wpAny_bind (wpAny_bind (m := Builtin.Tuple.tupleExact _) (wpAny_newObj_type (wpAny_pure (wpAny_pure ⟨_, rfl, wpAny_pure h⟩)) htake))
  | exact wpAny_bind (wpAny_bind (m := Builtin.Tuple.tupleExact _) (wpAny_newObj_type (wpAny_pure ⟨_, rfl, wpAny_pure h⟩) htake))
end
end HT
namespace L2
open PySem PySem.Spec PyProof.Rows
abbrev TO := St -> Hp -> (Option Int -> Hp -> Prop) -> Prop
def PO (X : Cx) (e : Option Expr) (t : TO) : Prop :=
 ∀ (pins : List (Addr × Obj)) (s : Shared) (σ : St) (H : Hp) (Q : Option Int -> Hp -> Prop), Inv X pins σ H s -> t σ H Q ->
  wpAny (model X.prog X.w) X.A (evalPart e X.env) (fun u s' => ∃ o H', Inv X pins σ H' s' /\ IsPart u o /\ Q o H') X.xe s
def YT : TO := fun _ H Q => Q none H
def tPart (t : TE) : TO := fun σ H Q => t σ H fun x H1 => ∃ i, x = .int i /\ Q (some i) H1
theorem intsAre_of {ns : List Int} : ∀ {us : List Value}, qo (ns.map V.int) us -> IntsAre us ns := by
 induction ns with
 | nil => intro us r; rw [List.map_nil] at r; cases r; exact .nil
 | cons n ns ih =>
  intro us r
  rw [List.map_cons] at r
  cases r with
  | cons r1 r2 =>
   obtain ⟨t, e⟩ := r1
   subst e
   exact .cons n t (ih r2)
section
variable {X : Cx} {e : Expr} {te : TE} {lo hi : Option Expr} {tl th : TO} {pos p2 : Pos}
theorem ZI : PO X none YT := by
 intro pins s σ H Q I h
 rw [evalPart_none]
 exact wpAny_pure ⟨none, H, I, .none, h⟩
theorem j4 (h : PE X e te) : PO X (some e) (tPart te) := by
 intro pins s σ H Q I hw
 rw [evalPart_some]
 refine thn (h pins s σ H _ I hw) fun u s1 ⟨x, H1, I1, r1, q1⟩ => ?_
 obtain ⟨i, rfl, q⟩ := q1
 obtain ⟨t, rfl⟩ := r1
 exact ⟨some i, H1, I1, .int i t, q⟩
def SlR (X : Cx) (r : V -> Option Int -> Option Int -> Hp -> VK -> Prop) : Prop :=
 ∀ (pins : List (Addr × Obj)) (s : Shared) (σ : St) (H : Hp) (x : V) (v vl vu : Value) (lo hi : Option Int) (sl : Addr) (Q : VK), Inv X pins σ H s -> RelV x v -> s.heap.IsSliceOf sl vl vu .none -> IsPart vl lo -> IsPart vu hi -> r x lo hi H Q ->
  ∃ T id, typeLookup (.type T) "__getitem__" = pure (some (.builtin id)) /\ s.TypeIs v T /\ wpAny (model X.prog X.w) X.A (getItem v (.ref sl)) (EP X pins σ Q) X.xe s
theorem SlR.or {r r' : V -> Option Int -> Option Int -> Hp -> VK -> Prop} (h : SlR X r) (h' : SlR X r') : SlR X (fun x lo hi H Q => r x lo hi H Q \/ r' x lo hi H Q) := by
 intro pins s σ H x v vl vu lo hi sl Q I rx hs pl pu q
 rcases q with q | q
 ·exact h pins s σ H x v vl vu lo hi sl Q I rx hs pl pu q
 ·exact h' pins s σ H x v vl vu lo hi sl Q I rx hs pl pu q
def tSl (r : V -> Option Int -> Option Int -> Hp -> VK -> Prop) (te : TE) (tl th : TO) : TE := fun σ H Q => te σ H fun x H1 => tl σ H1 fun l H2 => th σ H2 fun u H3 => r x l u H3 Q
theorem jI {r : V -> Option Int -> Option Int -> Hp -> VK -> Prop} (hr : SlR X r) (he : PE X e te) (hl : PO X lo tl) (hu : PO X hi th) : PE X (.Subscript e (.Slice lo hi none p2) pos) (tSl r te tl th) := by
 intro pins s σ H Q I h
 refine Subscript_ (thn (he pins s σ H _ I h) fun v s1 ⟨x, H1, I1, r1, q1⟩ => ?_)
 refine wpAny_Slice (thn (hl pins s1 σ H1 _ I1 q1) fun vl s2 ⟨l, H2, I2, pl, q2⟩ => thn (hu pins s2 σ H2 _ I2 q2) fun vu s3 ⟨u, H3, I3, pu, q3⟩ => ?_)
 rw [evalPart_none]
 refine wpAny_pure ?_
 have I4 : Inv X pins σ H3 { s3 with heap := s3.heap.push { cls := .type "slice", data := .fields #[vl, vu, .none] } } := I3.kept (t' := s3.toks) fun b ob q => Heap.get?_push_of_some _ q
 obtain ⟨T, id, hT, ht, hg⟩ := hr pins { s3 with heap := s3.heap.push { cls := .type "slice", data := .fields #[vl, vu, .none] } } σ H3 x v vl vu l u s3.heap.objs.size Q I4 r1 (Heap.IsSliceOf.new ..) pl pu q3
 show wpAny (model X.prog X.w) X.A (subscriptTail e (.Slice lo hi none p2) v (.ref s3.heap.objs.size)) (EP X pins σ Q) X.xe { s3 with heap := s3.heap.push { cls := .type "slice", data := .fields #[vl, vu, .none] } }
 exact tail_any (ops := [.ref s3.heap.objs.size, v]) ht hT hg (by with_unfolding_all rfl)
def Yw (xs : List V) (lo hi : Option Int) : List V := (xs.drop (HT.sIx xs.length 0 lo)).take (HT.sIx xs.length xs.length hi - HT.sIx xs.length 0 lo)
theorem ZJ (xs : List V) (lo hi : Option Int) : (Yw xs lo hi).length <= xs.length := by
 unfold Yw
 rw [List.length_take, List.length_drop]
 omega
def rSlT (K : PySem.W.Frag) : V -> Option Int -> Option Int -> Hp -> VK -> Prop := fun x lo hi H Q => ∃ a xs, x = .ref a /\ SqT K H a xs /\
 ¬ (HT.sIx xs.length 0 lo = 0 /\ HT.sIx xs.length xs.length hi = xs.length) /\ ∀ p, H p = none -> Q (.ref p) (upd H p (.tup (Yw xs lo hi)))
theorem sl_tup : SlR X (rSlT X.K) := by
 intro pins s σ H x v vl vu lo hi sl Q I rx hs pl pu h
 obtain ⟨a, xs, rfl, hx, hw, q⟩ := h
 cases rx
 obtain ⟨its, r, ht, hz⟩ := I.tuple hx
 have hlen : its.toArray.size = xs.length := by rw [List.size_toArray]; exact r.length.symm
 refine ⟨"tuple", _, PyProof.Rows.slot_tuple_getitem.lookup, ht.typeIs, ?_⟩
 refine HT.getItem_tuple_cut ht hs pl pu (by rw [hlen]; exact hw) ?_ (by rw [hlen]; exact hz)
 rw [hlen]
 refine ⟨.ref s.heap.objs.size, _, I.laid (t' := s.toks) (o := .tup (Yw xs lo hi)) (fun b ob q => Heap.get?_push_of_some _ q) (Nat.le_refl _) ?_, rfl, q _ (I.hok.fresh (Nat.le_refl _))⟩
 exact ⟨Nat.le_trans (ZJ xs lo hi) hz, _, (r.drop (HT.sIx xs.length 0 lo)).take (HT.sIx xs.length xs.length hi - HT.sIx xs.length 0 lo), PTup.new _ _⟩
def rCatT (K : PySem.W.Frag) : R2 := fun x y H Q => ∃ a b xs ys, x = .ref a /\ y = .ref b /\ SqT K H a xs /\ SqT K H b ys /\ xs ≠ [] /\ xs.length + ys.length <= sizeLine /\
 (ys = [] -> Q (.ref a) H) /\ (ys ≠ [] -> ∀ p, H p = none -> Q (.ref p) (upd H p (.tup (xs ++ ys))))
theorem qo.nil_iff {xs : List V} {us : List Value} (r : qo xs us) : us = [] ↔ xs = [] := by
 cases r with
 | nil => simp
 | cons _ _ => simp
theorem op_catT : OpR X (binaryOp .Add) (rCatT X.K) := by
 intro pins s σ H x y v u Q I rx ry h
 obtain ⟨a, b, xs, ys, rfl, rfl, ha, hb, hx, hz, q1, q2⟩ := h
 cases rx
 cases ry
 obtain ⟨its, r1, p1, _⟩ := I.tuple ha
 obtain ⟨its2, r2, p2, _⟩ := I.tuple hb
 refine HT.cat_tup p1 p2 (fun z => hx (r1.nil_iff.mp z)) (fun z => ⟨.ref a, H, I, rfl, q1 (r2.nil_iff.mp z)⟩) (fun z => ?_) (by rw [<- r1.length, <- r2.length]; exact hz)
 refine ⟨.ref s.heap.objs.size, _, I.laid (t' := s.toks) (o := .tup (xs ++ ys)) (fun b ob q => Heap.get?_push_of_some _ q) (Nat.le_refl _) ?_, rfl, q2 (fun w => z (r2.nil_iff.mpr w)) _ (I.hok.fresh (Nat.le_refl _))⟩
 exact ⟨by rw [List.length_append]; exact hz, _, r1.append r2, PTup.new _ _⟩
end
end L2
namespace L2
open PySem PySem.Spec PyProof.Rows
def ixN (n : Nat) (i : Int) : Option Nat := if 0 <= i then (if i < n then some i.toNat else none) else if -(n : Int) <= i then some (i + n).toNat else none
def atI {α : Type} (xs : List α) (i : Int) : Option α := (ixN xs.length i).bind fun j => xs[j]?
theorem YU {n : Nat} {i : Int} {j : Nat} (h : ixN n i = some j) : seqIndex? i n = some j /\ j < n /\ -(n : Int) <= i /\ i < n := by
 unfold ixN at h
 by_cases h0 : 0 <= i
 ·rw [if_pos h0] at h
  by_cases h1 : i < n
  ·rw [if_pos h1] at h
   have e : i.toNat = j := Option.some.inj h
   exact ⟨by rw [seqIndex_of h0 h1, e], by omega, by omega, h1⟩
  ·rw [if_neg h1] at h; cases h
 ·rw [if_neg h0] at h
  by_cases h1 : -(n : Int) <= i
  ·rw [if_pos h1] at h
   have e : (i + n).toNat = j := Option.some.inj h
   exact ⟨by rw [seqIndex_neg (by omega) h1, e], by omega, h1, by omega⟩
  ·rw [if_neg h1] at h; cases h
theorem WD {α : Type} {xs : List α} {i : Int} {v : α} (h : atI xs i = some v) : ∃ j, seqIndex? i xs.length = some j /\ xs[j]? = some v /\ j < xs.length /\ -(xs.length : Int) <= i /\ i < xs.length := by
 unfold atI at h
 cases e : ixN xs.length i with
 | none => rw [e] at h; cases h
 | some j =>
  rw [e] at h
  obtain ⟨h1, h2, h3, h4⟩ := YU e
  exact ⟨j, h1, h, h2, h3, h4⟩
theorem jM {α : Type} {xs : List α} {j : Nat} {v : α} (h : xs[j]? = some v) : atI xs (j : Int) = some v := by
 have hj : j < xs.length := (List.getElem?_eq_some_iff.mp h).1
 have e : ixN xs.length (j : Int) = some j := by
  unfold ixN
  rw [if_pos (by omega), if_pos (by omega)]; simp
 unfold atI; rw [e]; exact h
def PlainIx (b : Expr) : Prop := ∀ o i, subscripted b false o i = operate [o, i] (getItem o i)
def IxR (X : Cx) (r : R2) : Prop :=
 ∀ (value slice : Expr) (pins : List (Addr × Obj)) (s : Shared) (σ : St) (H : Hp) (x y : V) (v u : Value) (Q : VK), Inv X pins σ H s -> RelV x v -> RelV y u -> r x y H Q ->
  subscripted slice false v u = operate [v, u] (getItem v u) -> wpAny (model X.prog X.w) X.A (subscriptTail value slice v u) (EP X pins σ Q) X.xe s
def MtR (X : Cx) (id : String) (r : V -> List V -> Hp -> VK -> Prop) : Prop :=
 ∀ (pins : List (Addr × Obj)) (s : Shared) (σ : St) (H : Hp) (x : V) (xs : List V) (v : Value) (us : List Value) (Q : VK), Inv X pins σ H s -> RelV x v -> qo xs us -> r x xs H Q ->
  wpAny (model X.prog X.w) X.A (call (.builtin id) (v :: us)) (EP X pins σ Q) X.xe s
section
variable {X : Cx} {a b : Expr} {ta tb : TE} {pos : Pos}
theorem IxR.or {r r' : R2} (h : IxR X r) (h' : IxR X r') : IxR X (fun x y H Q => r x y H Q \/ r' x y H Q) := by
 intro value slice pins s σ H x y v u Q I rx ry q hs
 rcases q with q | q
 ·exact h value slice pins s σ H x y v u Q I rx ry q hs
 ·exact h' value slice pins s σ H x y v u Q I rx ry q hs
theorem zC {r : R2} (hr : IxR X r) (ha : PE X a ta) (hb : PE X b tb) (hs : PlainIx b) : PE X (.Subscript a b pos) (tOp r ta tb) := by
 intro pins s σ H Q I h
 exact Subscript_ (binT ha hb I h fun v u s2 x y H2 I2 rx ry q => hr a b pins s2 σ H2 x y v u Q I2 rx ry q (hs _ _))
def rIxL (K : PySem.W.Frag) : R2 := fun x y H Q => ∃ p xs i v, x = .ref p /\ y = .int i /\ SqL K H p xs /\ atI xs i = some v /\ Q v H
def rIxT (K : PySem.W.Frag) : R2 := fun x y H Q => ∃ p xs i v, x = .ref p /\ y = .int i /\ SqT K H p xs /\ atI xs i = some v /\ Q v H
def rIxS : R2 := fun x y H Q => ∃ z i c, x = .str z /\ y = .int i /\ z.length <= sizeLine /\ atI z.cps.toList i = some c /\ Q (.str ⟨#[c]⟩) H
theorem ix_list : IxR X (rIxL X.K) := by
 intro value slice pins s σ H x y v u Q I rx ry h hs
 obtain ⟨p, xs, i, z, rfl, rfl, hq, he, q⟩ := h
 cases rx
 obtain ⟨t, rfl⟩ := ry
 obtain ⟨its, r, pl, hz⟩ := I.list hq
 obtain ⟨j, h1, h2, h3, h4, h5⟩ := WD he
 obtain ⟨w, ew, rw'⟩ := r.get h2
 have hl := r.length
 have hn := wG
 have fin : EP X pins σ Q w s := ⟨z, H, I, rw', q⟩
 by_cases h0 : 0 <= i
 ·have hj : i.toNat = j := by
   rw [seqIndex_of h0 h5] at h1
   exact Option.some.inj h1
  exact item_listR pl.isList h0 (by omega) (by rw [hj]; simpa using ew) fin hs
 ·have hj : (i + (its.toArray.size : Int)).toNat = j := by
   rw [seqIndex_neg (by omega) h4] at h1
   rw [List.size_toArray, <- hl]
   exact Option.some.inj h1
  exact subscriptTail_builtinR (x := w) pl.isList.typeIs slot_list_getitem.lookup
   (wpAny_getItem_list_neg (Q := fun r s' => r = w /\ EP X pins σ Q r s') pl.isList (by omega) (by rw [List.size_toArray] <;> omega) (by omega) (by rw [hj]; simpa using ew) ⟨rfl, fin⟩) hs
theorem ix_tup : IxR X (rIxT X.K) := by
 intro value slice pins s σ H x y v u Q I rx ry h hs
 obtain ⟨p, xs, i, z, rfl, rfl, hq, he, q⟩ := h
 cases rx
 obtain ⟨t, rfl⟩ := ry
 obtain ⟨its, r, pl, hz⟩ := I.tuple hq
 obtain ⟨j, h1, h2, h3, h4, h5⟩ := WD he
 obtain ⟨w, ew, rw'⟩ := r.get h2
 have hl := r.length
 have hn := wG
 have fin : EP X pins σ Q w s := ⟨z, H, I, rw', q⟩
 exact subscriptTail_builtinR (x := w) pl.typeIs slot_tuple_getitem.lookup
  (getItem_tuple (j := j) (Q := fun r s' => r = w /\ EP X pins σ Q r s') pl (by omega) (by omega) (by rw [List.size_toArray, <- hl]; exact h1) (by simpa using ew) ⟨rfl, fin⟩) hs
theorem ix_str : IxR X rIxS := by
 intro value slice pins s σ H x y v u Q I rx ry h hs
 obtain ⟨z, i, c, rfl, rfl, hz, he, q⟩ := h
 obtain ⟨t, rfl⟩ := rx
 obtain ⟨t', rfl⟩ := ry
 obtain ⟨j, h1, h2, h3, h4, h5⟩ := WD he
 have hl : z.cps.toList.length = z.length := by simp [Str.length]
 rw [hl] at h1 h4 h5
 have hn := wG
 exact tail_any (typeIs_str s z t) slot_str_getitem.lookup (getItem_str (c := c) (by
  have e1 : decide (i < -(2 ^ 63 : Int)) = false := decide_eq_false (by omega)
  have e2 : decide (i ≥ 2 ^ 63) = false := decide_eq_false (by omega)
  rw [e1, e2, Bool.or_false]) (by rw [h1]; simpa using h2) ⟨.str ⟨#[c]⟩, H, I.tok _, ⟨_, rfl⟩, q⟩) hs
def rIx (K : PySem.W.Frag) : R2 := fun x y H Q => rIxL K x y H Q \/ rIxT K x y H Q \/ rIxS x y H Q
theorem ix_seq : IxR X (rIx X.K) := ix_list.or (ix_tup.or ix_str)
theorem yQ (its : List Value) (n j : Nat) (u : Value) : Obj.mapSeq (·.setIfInBounds j u) { cls := .type "list", data := .seq its.toArray n } = { cls := .type "list", data := .seq (its.set j u).toArray n } := by
 simp [Obj.mapSeq]
theorem Inv.lst {pins : List (Addr × Obj)} {σ : St} {H : Hp} {s : Shared} {p : Addr} {xs : List V} (I : Inv X pins σ H s) (h : H p = some (.lst xs)) :
  ∃ (its : List Value) (n : Nat), qo xs its /\ s.heap.get? p = some { cls := .type "list", data := .seq its.toArray n } /\ xs.length <= sizeLine := by
 obtain ⟨z, its, n, r, e⟩ := I.hok p _ h
 exact ⟨its, n, r, e, z⟩
theorem Inv.lstUpd {pins : List (Addr × Obj)} {σ : St} {H : Hp} {s : Shared} {p : Addr} {xs ys : List V} {its its' : List Value} {n n' : Nat} {f : Obj -> Obj} (I : Inv X pins σ H s) (h : H p = some (.lst xs))
  (ho : s.heap.get? p = some { cls := .type "list", data := .seq its.toArray n }) (hf : f { cls := .type "list", data := .seq its.toArray n } = { cls := .type "list", data := .seq its'.toArray n' }) (r : qo ys its') (hz : ys.length <= sizeLine) (t : Nat) :
  Inv X pins σ (upd H p (.lst ys)) { s with heap := s.heap.update p f, toks := t } := by
 have e : (s.heap.update p f).get? p = some { cls := .type "list", data := .seq its'.toArray n' } := by
  rw [Heap.get?_update_self f ho (by rw [hf] <;> rfl), hf]
 refine I.write (x := p) (e := p) (by rw [h]; trivial) (.inl rfl) (fun b u hb q => (Heap.get?_update_other _ _ (Ne.symm hb)).trans q) ⟨_, e⟩ ?_
 exact ⟨hz, its', n', r, e⟩
def rSetL : V -> V -> V -> Hp -> (Hp -> Prop) -> Prop := fun o i v H Q => ∃ p xs k j, o = .ref p /\ i = .int k /\ H p = some (.lst xs) /\ ixN xs.length k = some j /\ Q (upd H p (.lst (xs.set j v)))
theorem JW : PSet X rSetL := by
 intro pins s σ H o i v ov iv u Q I ro ri rv h
 obtain ⟨p, xs, k, j, rfl, rfl, hp, hj, q⟩ := h
 cases ro
 obtain ⟨t, rfl⟩ := ri
 obtain ⟨its, n, r, ho, hz⟩ := I.lst hp
 obtain ⟨h1, h2, h3, h4⟩ := YU hj
 have hl := r.length
 have hn := wG
 have I' : Inv X pins σ (upd H p (.lst (xs.set j v))) { s with heap := s.heap.update p (Obj.mapSeq (·.setIfInBounds j u)) } :=
  I.lstUpd hp ho (yQ its n j u) (r.set rv j) (by rw [List.length_set]; exact hz) s.toks
 by_cases h0 : 0 <= k
 ·have hk : k.toNat = j := by
   rw [seqIndex_of h0 h4] at h1
   exact Option.some.inj h1
  exact PySem.W.ki_setAt ho h0 (by omega) (by rw [List.size_toArray, <- hl]; exact h4) (by rw [hk]; exact ⟨_, I', q⟩)
 ·have hk : (k + (its.toArray.size : Int)).toNat = j := by
   rw [seqIndex_neg (by omega) h3] at h1
   rw [List.size_toArray, <- hl]
   exact Option.some.inj h1
  exact PySem.W.ki_setBack ho (by omega) (by rw [List.size_toArray, <- hl]; exact h3) (by omega) (by rw [hk]; exact ⟨_, I', q⟩)
theorem wL (lo hi : Option Int) (n : Nat) : (sliceBounds lo hi none n).1 = ((HT.sIx n 0 lo : Nat) : Int) /\ (sliceBounds lo hi none n).2.1 = ((HT.sIx n n hi : Nat) : Int) /\ (sliceBounds lo hi none n).2.2 = 1 := by
 refine ⟨?_, ?_, rfl⟩
 ·cases lo with
  | none => simp [sliceBounds, HT.sIx]
  | some i =>
   simp only [sliceBounds, HT.sIx, Option.getD_none, show (1 : Int) > 0 by decide, if_true]
   by_cases h : i < 0
   ·simp only [h, if_true] <;> omega
   ·simp only [h, if_false] <;> omega
 ·cases hi with
  | none => simp [sliceBounds, HT.sIx]
  | some i =>
   simp only [sliceBounds, HT.sIx, Option.getD_none, show (1 : Int) > 0 by decide, if_true]
   by_cases h : i < 0
   ·simp only [h, if_true] <;> omega
   ·simp only [h, if_false] <;> omega
theorem JX (its : List Value) (lo hi : Option Int) : slicePick its.toArray lo hi none = ((its.drop (HT.sIx its.length 0 lo)).take (HT.sIx its.length its.length hi - HT.sIx its.length 0 lo)).toArray := by
 obtain ⟨h1, h2, h3⟩ := wL lo hi its.toArray.size
 unfold slicePick
 rw [h1, h2, h3]
 simp only [sliceRange_one, pick_run, List.size_toArray] <;> rfl
def rSlL (K : PySem.W.Frag) : V -> Option Int -> Option Int -> Hp -> VK -> Prop := fun x lo hi H Q => ∃ a xs, x = .ref a /\ SqL K H a xs /\ ∀ p, H p = none -> Q (.ref p) (upd H p (.lst (Yw xs lo hi)))
theorem sl_list : SlR X (rSlL X.K) := by
 intro pins s σ H x v vl vu lo hi sl Q I rx hs pl pu h
 obtain ⟨a, xs, rfl, hx, q⟩ := h
 cases rx
 obtain ⟨its, r, ht, hz⟩ := I.list hx
 have hlen := r.length
 refine ⟨"list", _, slot_list_getitem.lookup, ht.isList.typeIs, ?_⟩
 refine wpAny_getItem_list_slice ht.isList hs pl pu .none (by simp) ?_ (by rw [List.size_toArray] <;> omega)
 rw [JX, <- hlen]
 refine ⟨.ref s.heap.objs.size, _, I.laid (t' := s.toks) (o := .lst (Yw xs lo hi)) (fun b ob q => Heap.get?_push_of_some _ q) (Nat.le_refl _) ?_, rfl, q _ (I.hok.fresh (Nat.le_refl _))⟩
 exact ⟨Nat.le_trans (ZJ xs lo hi) hz, _, 0, (r.drop (HT.sIx xs.length 0 lo)).take (HT.sIx xs.length xs.length hi - HT.sIx xs.length 0 lo), Heap.get?_push_size _ rfl⟩
def Qh : V -> Bool
 | .non => true
 | .bl _ => true
 | .int _ => true
 | .str _ => true
 | _ => false
def eqV : V -> V -> Bool
 | .non, .non => true
 | .bl a, .bl b => a == b
 | .bl a, .int b => (if a then 1 else 0) == b
 | .int a, .bl b => a == (if b then 1 else 0)
 | .int a, .int b => a == b
 | .str a, .str b => a == b
 | _, _ => false
theorem yg {A : Around} {s : Shared} {y x : V} {u v : Value} (ry : RelV y u) (rx : RelV x v) (fy : Qh y = true) (fx : Qh x = true) : SeqAt.EqAt A s u v (eqV y x) := by
 cases y with
 | non =>
  cases ry
  cases x with
  | non => cases rx; exact SeqAt.EqAt.same _
  | bl b => cases rx; exact SeqAt.EqAt.none_bool b
  | int b => obtain ⟨t, rfl⟩ := rx; exact SeqAt.EqAt.none_int b t
  | str b => obtain ⟨t, rfl⟩ := rx; exact SeqAt.EqAt.none_str b t
  | _ => exact absurd (show false = true from fx) Bool.false_ne_true
 | bl a =>
  cases ry
  cases x with
  | non => cases rx; exact SeqAt.EqAt.bool_none a
  | bl b => cases rx; exact SeqAt.EqAt.bool_bool a b
  | int b => obtain ⟨t, rfl⟩ := rx; exact SeqAt.EqAt.bool_int a b t
  | str b => obtain ⟨t, rfl⟩ := rx; exact SeqAt.EqAt.bool_str a b t
  | _ => exact absurd (show false = true from fx) Bool.false_ne_true
 | int a =>
  obtain ⟨t', rfl⟩ := ry
  cases x with
  | non => cases rx; exact SeqAt.EqAt.int_none a t'
  | bl b => cases rx; exact SeqAt.EqAt.int_bool a t' b
  | int b => obtain ⟨t, rfl⟩ := rx; exact SeqAt.EqAt.int_int a t' b t
  | str b => obtain ⟨t, rfl⟩ := rx; exact SeqAt.EqAt.int_str a t' b t
  | _ => exact absurd (show false = true from fx) Bool.false_ne_true
 | str a =>
  obtain ⟨t', rfl⟩ := ry
  cases x with
  | non => cases rx; exact SeqAt.EqAt.str_none a t'
  | bl b => cases rx; exact SeqAt.EqAt.str_bool a t' b
  | int b => obtain ⟨t, rfl⟩ := rx; exact SeqAt.EqAt.str_int a t' b t
  | str b => obtain ⟨t, rfl⟩ := rx; exact SeqAt.EqAt.str_str a t' b t
  | _ => exact absurd (show false = true from fx) Bool.false_ne_true
 | _ => exact absurd (show false = true from fy) Bool.false_ne_true
def eqU (x : V) (u : Value) : Bool := match u with
 | .none => eqV .non x
 | .bool b => eqV (.bl b) x
 | .int i _ => eqV (.int i) x
 | .str z _ => eqV (.str z) x
 | _ => false
theorem eqU_of {x y : V} {u : Value} (r : RelV y u) (f : Qh y = true) : eqU x u = eqV y x := by
 cases y with
 | non => cases r; rfl
 | bl b => cases r; rfl
 | int i => obtain ⟨t, rfl⟩ := r; rfl
 | str z => obtain ⟨t, rfl⟩ := r; rfl
 | _ => exact absurd (show false = true from f) Bool.false_ne_true
theorem QM {x : V} : ∀ {xs : List V} {us : List Value}, qo xs us -> xs.all Qh = true -> us.any (eqU x) = xs.any fun y => eqV y x
 | _, _, .nil, _ => rfl
 | y :: xs, u :: us, .cons r t, f => by
  rw [List.all_cons, Bool.and_eq_true] at f
  rw [List.any_cons, List.any_cons, eqU_of r f.1, QM t f.2]
theorem ZT {A : Around} {s : Shared} {x : V} {v : Value} (rx : RelV x v) (fx : Qh x = true) : ∀ {xs : List V} {us : List Value}, qo xs us -> xs.all Qh = true -> ∀ u ∈ us, SeqAt.EqAt A s u v (eqU x u)
 | _, _, .nil, _ => fun u hu => by cases hu
 | y :: xs, u :: us, .cons r t, f => fun u' hu => by
  rw [List.all_cons, Bool.and_eq_true] at f
  rcases List.mem_cons.mp hu with rfl | hu
  ·rw [eqU_of r f.1]; exact yg r rx f.1 fx
  ·exact ZT rx fx t f.2 u' hu
def inV (x : V) (xs : List V) : Bool := xs.any fun y => eqV y x
def rIn (K : PySem.W.Frag) (neg : Bool) : R2 := fun x y H Q => ∃ p xs, y = .ref p /\ (SqL K H p xs \/ SqT K H p xs) /\ Qh x = true /\ xs.all Qh = true /\ Q (.bl (if neg then !inV x xs else inV x xs)) H
theorem YV : OpR X (compareOp .In) (rIn X.K false) := by
 intro pins s σ H x y v u Q I rx ry h
 obtain ⟨p, xs, rfl, hq, fx, fs, q⟩ := h
 cases ry
 rcases hq with hq | hq
 ·obtain ⟨its, r, pl, hz⟩ := I.list hq
  refine SeqAt.in_listAt (eqU x) pl.isList (fun w hw => ZT rx fx r fs w (by simpa using hw)) ⟨.bl _, H, I, rfl, ?_⟩
  rw [show its.toArray.any (eqU x) = its.any (eqU x) by simp, QM r fs]
  exact q
 ·obtain ⟨its, r, pl, hz⟩ := I.tuple hq
  refine SeqAt.in_tupleAt (eqU x) pl (fun w hw => ZT rx fx r fs w (by simpa using hw)) ⟨.bl _, H, I, rfl, ?_⟩
  rw [show its.toArray.any (eqU x) = its.any (eqU x) by simp, QM r fs]
  exact q
theorem wM : OpR X (compareOp .NotIn) (rIn X.K true) := by
 intro pins s σ H x y v u Q I rx ry h
 obtain ⟨p, xs, rfl, hq, fx, fs, q⟩ := h
 cases ry
 rcases hq with hq | hq
 ·obtain ⟨its, r, pl, hz⟩ := I.list hq
  refine SeqAt.notIn_listAt (eqU x) pl.isList (fun w hw => ZT rx fx r fs w (by simpa using hw)) ⟨.bl _, H, I, rfl, ?_⟩
  rw [show its.toArray.any (eqU x) = its.any (eqU x) by simp, QM r fs]
  exact q
 ·obtain ⟨its, r, pl, hz⟩ := I.tuple hq
  refine SeqAt.notIn_tupleAt (eqU x) pl (fun w hw => ZT rx fx r fs w (by simpa using hw)) ⟨.bl _, H, I, rfl, ?_⟩
  rw [show its.toArray.any (eqU x) = its.any (eqU x) by simp, QM r fs]
  exact q
theorem wN : OpR X (compareOp .NotIn) (fun x y H Q => ∃ i j, x = .str i /\ y = .str j /\ Q (.bl (!(!(Builtin.Str.occurrences j i 0 j.length 1).isEmpty))) H) := by
 intro pins s σ H x y v u Q I rx ry h
 obtain ⟨i, j, rfl, rfl, q⟩ := h
 obtain ⟨t, rfl⟩ := rx
 obtain ⟨t', rfl⟩ := ry
 exact notIn_str ⟨.bl _, H, I, rfl, q⟩
theorem wO : jf X (.type "list") (fun xs H Q => ∃ p ys, xs = [.ref p] /\ (SqL X.K H p ys \/ SqT X.K H p ys) /\ ∀ l, H l = none -> Q (.ref l) (upd H l (.lst ys))) := by
 intro pins s σ H xs us Q I r h
 obtain ⟨p, ys, rfl, hq, q⟩ := h
 obtain ⟨u, rfl, rx⟩ := vals1 r
 cases rx
 have fin : ∀ (its : List Value), qo ys its -> ys.length <= sizeLine -> ∀ (h' : Heap) (c' : Nat), (∀ b o', s.heap.get? b = some o' -> h'.get? b = some o') ->
   h'.get? s.heap.objs.size = some { cls := .type "list", dict := none, data := .seq its.toArray c', slots := #[] } -> EP X pins σ Q (.ref s.heap.objs.size) { s with heap := h' } := fun its r' hz h' c' kp e =>
  ⟨.ref s.heap.objs.size, _, I.laid (t' := s.toks) kp (Nat.le_refl _) (show qu X.prog X.w _ h' _ (.lst ys) from ⟨hz, its, c', r', e⟩), rfl, q _ (I.hok.fresh (Nat.le_refl _))⟩
 rcases hq with hq | hq
 ·obtain ⟨its, r', pl, hz⟩ := I.list hq
  have hlen := r'.length
  obtain ⟨o, ho, hc, n, hd⟩ := pl.isList
  exact call_list_seq p (.inl rfl) ho hc hd (fun h' c' kp e => fin its r' hz h' c' kp e) (by simp only [List.size_toArray] <;> omega)
 ·obtain ⟨its, r', pl, hz⟩ := I.tuple hq
  have hlen := r'.length
  obtain ⟨o, ho, hc, n, hd⟩ := pl
  exact call_list_seq p (.inr rfl) ho hc hd (fun h' c' kp e => fin its r' hz h' c' kp e) (by simp only [List.size_toArray] <;> omega)
theorem JY : jf X (.type "tuple") (fun xs H Q => ∃ p ys, xs = [.ref p] /\ ((SqL X.K H p ys /\ ∀ l, H l = none -> Q (.ref l) (upd H l (.tup ys))) \/ (SqT X.K H p ys /\ Q (.ref p) H))) := by
 intro pins s σ H xs us Q I r h
 obtain ⟨p, ys, rfl, h⟩ := h
 obtain ⟨u, rfl, rx⟩ := vals1 r
 cases rx
 rcases h with ⟨hq, q⟩ | ⟨hq, q⟩
 ·obtain ⟨its, r', pl, hz⟩ := I.list hq
  have hlen := r'.length
  refine call_tuple_list pl.isList (fun h' kp => ?_) (by simp only [List.size_toArray] <;> omega)
  have I1 : Inv X pins σ H { s with heap := h' } := I.kept (t' := s.toks) kp
  have I2 : Inv X pins σ (upd H h'.objs.size (.tup ys)) { s with heap := h'.push { cls := .type "tuple", data := .seq its.toArray } } :=
   I1.laid (t' := s.toks) (fun b o e => Heap.get?_push_of_some _ e) (Nat.le_refl _) (show qu X.prog X.w _ _ _ (.tup ys) from ⟨hz, its, r', PTup.new _ _⟩)
  exact ⟨.ref h'.objs.size, _, I2, rfl, q _ (I1.hok.fresh (Nat.le_refl _))⟩
 ·obtain ⟨its, r', pl, hz⟩ := I.tuple hq
  exact call_tuple_same pl ⟨.ref p, H, I, rfl, q⟩
def tyV (K : PySem.W.Frag) (T : String) (x : V) (H : Hp) : Prop := match x with
 | .str _ => T = "str"
 | .int _ => T = "int"
 | .ref p => (T = "list" /\ ∃ xs, SqL K H p xs) \/ (T = "tuple" /\ ∃ o, K.lookup p = some o /\ o.cls = .type "tuple" /\ o.dict = none) \/
   (T = "dict" /\ ((∃ kvs, H p = some (.dK kvs)) \/ ∃ kvs, H p = some (.dT kvs))) \/ (T = "set" /\ ∃ S n, H p = some (.set S n)) \/ (T = "tuple" /\ ∃ xs, H p = some (.tup xs))
 | _ => False
theorem YW {pins : List (Addr × Obj)} {σ : St} {H : Hp} {s : Shared} {T : String} {x : V} {v : Value} (I : Inv X pins σ H s) (r : RelV x v) (ty : tyV X.K T x H) :
  s.TypeIs v T /\ ∀ a, v = .ref a -> ∃ ob, s.heap.get? a = some ob /\ ob.dict = none := by
 cases x with
 | str z =>
  obtain ⟨t, rfl⟩ := r
  cases (show T = "str" from ty)
  exact ⟨typeIs_str s z t, fun _ e => nomatch e⟩
 | int i =>
  obtain ⟨t, rfl⟩ := r
  cases (show T = "int" from ty)
  exact ⟨typeIs_int s i t, fun _ e => nomatch e⟩
 | ref p =>
  cases r
  rcases ty with ⟨rfl, xs, hq⟩ | ⟨rfl, o, hk, hc, hd⟩ | ⟨rfl, hk⟩ | ⟨rfl, S, n, hk⟩ | ⟨rfl, xs, hk⟩
  rotate_left 4
  ·obtain ⟨_, its, _, o, e, c, _, hd⟩ := I.hok p _ hk
   exact ⟨⟨o, e, c⟩, fun a e2 => by cases e2; exact ⟨o, e, hd⟩⟩
  ·obtain ⟨its, _, pl, _⟩ := I.list hq
   refine ⟨pl.isList.typeIs, fun a e => ?_⟩
   cases e
   obtain ⟨o, n, e, c, hd, _⟩ := pl
   exact ⟨o, e, hd⟩
  ·refine ⟨⟨o, I.kIn p o hk, hc⟩, fun a e => ?_⟩
   cases e
   exact ⟨o, I.kIn _ o hk, hd⟩
  ·have z : ∃ o, s.heap.get? p = some o /\ o.ExactDict := by
    rcases hk with ⟨kvs, hk⟩ | ⟨kvs, hk⟩
    ·obtain ⟨_, _, _, _, o, _, _, e, ex, _⟩ := I.hok p _ hk
     exact ⟨o, e, ex⟩
    ·obtain ⟨_, _, _, _, o, _, _, e, ex, _⟩ := I.hok p _ hk
     exact ⟨o, e, ex⟩
   obtain ⟨o, e, ex⟩ := z
   refine ⟨⟨o, e, ex.1⟩, fun a e2 => ?_⟩
   cases e2
   exact ⟨o, e, ex.2.1⟩
  ·obtain ⟨o, _, _, _, e, ex, _⟩ := I.hok p _ hk
   refine ⟨⟨o, e, ex.1⟩, fun a e2 => ?_⟩
   cases e2
   exact ⟨o, e, ex.2.1⟩
 | _ => exact False.elim ty
def tBM0 (K : PySem.W.Frag) (T : String) (r : V -> List V -> Hp -> VK -> Prop) (to : TE) : TE := fun σ H Q => to σ H fun x H1 => tyV K T x H1 /\ r x [] H1 Q
def tBM (K : PySem.W.Frag) (T : String) (r : V -> List V -> Hp -> VK -> Prop) (to : TE) (t : TA) : TE := fun σ H Q => to σ H fun x H1 => tyV K T x H1 /\ t σ H1 fun xs H2 => r x xs H2 Q
variable {o e : Expr} {es : List Expr} {to : TE} {t : TA} {name : Str} {apos cpos : Pos} {T id : String} {r : V -> List V -> Hp -> VK -> Prop}
theorem pe_bm0 (pa : PlainAttrs T) (slot : Slot T name id) (hty : typeOf (.builtin id) = pure (.type "method_descriptor")) (hm : MtR X id r) (ho : PE X o to)
  (hbase : attributeBase o name X.env (eval o X.env) = eval o X.env := by rfl) (hline : (apos.endLine == cpos.line) = true := by rfl) : PE X (.Call (.Attribute o name apos) [] [] cpos) (tBM0 X.K T r to) := by
 intro pins s σ H Q I h
 refine wpAny_Call_method0_late hbase hline (thn (ho pins s σ H _ I h) fun v s1 ⟨x, H1, I1, r1, ty, q1⟩ => ?_)
 obtain ⟨h1, h2⟩ := YW I1 r1 ty
 exact ⟨T, id, pa, slot, hty, h1, h2, Calls.callWith_builtin rfl (PySem.evalArgs_none (hm pins s1 σ H1 x [] v [] Q I1 r1 .nil q1))⟩
theorem pe_bm (pa : PlainAttrs T) (slot : Slot T name id) (hty : typeOf (.builtin id) = pure (.type "method_descriptor")) (hm : MtR X id r) (ho : PE X o to) (ha : PA X (e :: es) t)
  (hbase : attributeBase o name X.env (eval o X.env) = eval o X.env := by rfl)
  (hfew : ((backTo cpos (starEach (e :: es) X.env)).all (fun x => !x.1) && (backToKw cpos (keywordEach [] X.env)).all (fun x => x.1.isSome)
   && decide ((e :: es).length + ([] : List Keyword).length + (if ([] : List Keyword).isEmpty then 0 else 1) < 30)) = true := by rfl)
  (hline : (apos.endLine == cpos.line) = true := by rfl) (hs : starEach (e :: es) X.env = (false, eval e X.env) :: starEach es X.env := by rfl) (hplain : (backTo cpos (starEach es X.env)).any (·.1) = false := by rfl) :
  PE X (.Call (.Attribute o name apos) (e :: es) [] cpos) (tBM X.K T r to t) := by
 intro pins s σ H Q I h
 refine wpAny_Call_method_late hbase hfew hline rfl (thn (ho pins s σ H _ I h) fun v s1 ⟨x, H1, I1, r1, ty, q1⟩ => ?_)
 obtain ⟨h1, h2⟩ := YW I1 r1 ty
 refine ⟨T, id, pa, slot, hty, h1, h2, ?_⟩
 have hA := ha cpos pins s1 σ H1 _ I1 q1
 rw [hs] at hA ⊢
 refine Calls.callWith_builtin (by show (false || (backTo cpos (starEach es X.env)).any (·.1)) = false; rw [hplain] <;> rfl) (Calls.evalArgs_plain ?_)
 exact thn hA fun us s2 ⟨vs, H2, I2, r2, q2⟩ => hm pins s2 σ H2 x vs v us Q I2 r1 r2 q2
/- xs.append(e), list.index on a module's tuple .. are MtR facts of 06m -/
end
end L2
namespace L2
open PySem PySem.Spec PyProof.Rows
def MtM (X : Cx) (id : String) (r : V -> List V -> Hp -> VK -> Prop) : Prop :=
 ∀ (pins : List (Addr × Obj)) (s : Shared) (σ : St) (H : Hp) (x : V) (xs : List V) (v : Value) (us : List Value) (Q : VK), Inv X pins σ H s -> RelV x v -> qo xs us -> r x xs H Q ->
  wpAny (model X.prog X.w) X.A (call (.builtin id) (v :: us)) (EP X pins σ Q) X.xe s
theorem qo.one : ∀ {x : V} {us : List Value}, qo [x] us -> ∃ u, us = [u] /\ RelV x u
 | _, _, .cons r .nil => ⟨_, rfl, r⟩
theorem qo.zero : ∀ {us : List Value}, qo [] us -> us = []
 | _, .nil => rfl
theorem qo.dropLast {xs : List V} {us : List Value} (h : qo xs us) : qo xs.dropLast us.dropLast := by
 induction h with
 | nil => exact .nil
 | cons r t ih =>
  cases t with
  | nil => exact .nil
  | cons q t' => exact .cons r ih
theorem yR {α : Type} (l : List α) : l.eraseIdx (l.length - 1) = l.dropLast := by
 induction l with
 | nil => rfl
 | cons a r ih =>
  cases r with
  | nil => rfl
  | cons b r =>
   have e : (a :: b :: r).length - 1 = ((b :: r).length - 1) + 1 := by
    have h1 : (a :: b :: r).length = r.length + 2 := rfl
    have h2 : (b :: r).length = r.length + 1 := rfl
    omega
   rw [e, List.eraseIdx_cons_succ, ih]
   all_goals rfl
section
variable {X : Cx} {pins : List (Addr × Obj)} {σ : St} {H : Hp} {s : Shared} {l b : Addr} {xs ys zs : List V}
theorem Inv.lset {its its' : List Value} {n : Nat} {f : Array Value -> Array Value} {t' : Nat} (I : Inv X pins σ H s) (hH : H l = some (.lst xs))
  (e : s.heap.get? l = some { cls := .type "list", data := .seq its.toArray n }) (hf : f its.toArray = its'.toArray) (hv : qo ys its') (hz : ys.length <= sizeLine) :
  Inv X pins σ (upd H l (.lst ys)) { s with heap := s.heap.update l (Obj.mapSeq f), toks := t' } := by
 have q := PySem.IsL.update e f
 rw [hf] at q
 refine I.write (x := l) (e := l) (by rw [hH]; exact trivial) (.inl rfl) (fun b' u hb hu => (Heap.get?_update_other s.heap (Obj.mapSeq f) (Ne.symm hb)).trans hu) ⟨_, q⟩ ?_
 exact ⟨hz, its', _, hv, q⟩
theorem Inv.lnew {its : List Value} {t' : Nat} (I : Inv X pins σ H s) (hv : qo ys its) (hz : ys.length <= sizeLine) :
  Inv X pins σ (upd H s.heap.objs.size (.lst ys)) { s with heap := s.heap.push { cls := .type "list", data := .seq its.toArray }, toks := t' } :=
 I.laid (fun _ _ q => Heap.get?_push_of_some _ q) (Nat.le_refl _) ⟨hz, its, 0, hv, Heap.get?_push_size _ rfl⟩
theorem Inv.fresh (I : Inv X pins σ H s) : H s.heap.objs.size = none := I.hok.fresh (Nat.le_refl _)
theorem Inv.lstM (I : Inv X pins σ H s) (hH : H l = some (.lst xs)) : xs.length <= sizeLine /\ ∃ (its : List Value) (n : Nat), qo xs its /\ xs.length = its.length /\ s.heap.get? l = some { cls := .type "list", data := .seq its.toArray n } := by
 obtain ⟨z, its, n, r, e⟩ := I.hok l _ hH
 exact ⟨z, its, n, r, r.length, e⟩
theorem notLongL {n : Nat} (h : n <= sizeLine) : Builtin.List.listTooLong n = false := by
 unfold Builtin.List.listTooLong
 exact decide_eq_false (by omega)
end
section
variable {X : Cx}
def rAppend : V -> List V -> Hp -> VK -> Prop := fun x vs H Q => ∃ l xs y, x = .ref l /\ vs = [y] /\ H l = some (.lst xs) /\ xs.length < sizeLine /\ Q .non (upd H l (.lst (xs ++ [y])))
theorem jv : MtM X "list.append" rAppend := by
 intro pins s σ H x vs v us Q I rx rv h
 obtain ⟨l, xs, y, rfl, rfl, hH, hz, q⟩ := h
 cases rx
 obtain ⟨u, rfl, ru⟩ := rv.one
 obtain ⟨z, its, n, r, hl, e⟩ := I.lstM hH
 refine call_meets F.slot_list_append ⟨_, e, rfl⟩ F.entry_list_append (F.args_list_append_2 _ _) (PySem.list_append l its.toArray n u (by rw [List.size_toArray]; omega)) ⟨e, ?_⟩
 refine ⟨.non, _, I.lset (its' := its ++ [u]) hH e (by simp) (r.append (.cons ru .nil)) ?_, rfl, q⟩
 rw [List.length_append, List.length_singleton]
 omega
def rExtend : V -> List V -> Hp -> VK -> Prop := fun x vs H Q => ∃ l b xs zs, x = .ref l /\ vs = [.ref b] /\ H l = some (.lst xs) /\ H b = some (.lst zs) /\ xs.length + zs.length <= sizeLine /\ Q .non (upd H l (.lst (xs ++ zs)))
theorem QN : MtM X "list.extend" rExtend := by
 intro pins s σ H x vs v us Q I rx rv h
 obtain ⟨l, b, xs, zs, rfl, rfl, hH, hB, hz, q⟩ := h
 cases rx
 obtain ⟨u, rfl, ru⟩ := rv.one
 cases ru
 obtain ⟨z, its, n, r, hl, e⟩ := I.lstM hH
 obtain ⟨z2, its2, n2, r2, hl2, e2⟩ := I.lstM hB
 have hsz : its.toArray.size + its2.toArray.size <= sizeLine := by rw [List.size_toArray, List.size_toArray]; omega
 have hlong : ¬ (!its.toArray.isEmpty && Builtin.List.listTooLong (its.toArray.size + its2.toArray.size)) = true := by
  rw [notLongL hsz, Bool.and_false]
  exact Bool.false_ne_true
 refine call_meets F.slot_list_extend ⟨_, e, rfl⟩ F.entry_list_extend (F.args_list_extend_2 _ _)
  (AutoSeq1.list_extend_list_list_0 l its.toArray n b its2.toArray n2 hlong (by rw [List.size_toArray]; omega) (by omega)) ⟨e, e2, ?_⟩
 refine ⟨.non, _, I.lset (its' := its ++ its2) hH e (by simp) (r.append r2) ?_, rfl, q⟩
 rw [List.length_append]
 omega
def rPop : V -> List V -> Hp -> VK -> Prop := fun x vs H Q => ∃ l xs y, x = .ref l /\ vs = [] /\ H l = some (.lst xs) /\ xs[xs.length - 1]? = some y /\ Q y (upd H l (.lst xs.dropLast))
theorem mt_pop : MtM X "list.pop" rPop := by
 intro pins s σ H x vs v us Q I rx rv h
 obtain ⟨l, xs, y, rfl, rfl, hH, hy, q⟩ := h
 cases rx
 have hus := rv.zero
 subst hus
 obtain ⟨z, its, n, r, hl, e⟩ := I.lstM hH
 obtain ⟨u, hu, ru⟩ := r.get hy
 have hy' : its.toArray[its.toArray.size - 1]? = some u := by
  show its.toArray[its.length - 1]? = some u
  rw [<- Array.getElem?_toList, <- hl]
  exact hu
 refine call_meets F.slot_list_pop ⟨_, e, rfl⟩ F.entry_list_pop (F.args_list_pop_1 _) (MeetsSeq.list_pop_last l its.toArray n u hy' (by rw [List.size_toArray]; omega)) ⟨e, ?_⟩
 refine ⟨y, _, I.lset (its' := its.dropLast) hH e ?_ r.dropLast ?_, ru, q⟩
 ·show its.toArray.eraseIdxIfInBounds (its.toArray.size - 1) = its.dropLast.toArray
  rw [List.size_toArray, List.eraseIdxIfInBounds_toArray, yR]
 ·rw [List.length_dropLast]
  omega
def rCat : R2 := fun x y H Q => ∃ l b xs zs, x = .ref l /\ y = .ref b /\ H l = some (.lst xs) /\ H b = some (.lst zs) /\ xs.length + zs.length <= sizeLine /\ ∀ p, H p = none -> Q (.ref p) (upd H p (.lst (xs ++ zs)))
theorem Jv : OpR X (binaryOp .Add) rCat := by
 intro pins s σ H x y v u Q I rx ry h
 obtain ⟨l, b, xs, zs, rfl, rfl, hH, hB, hz, q⟩ := h
 cases rx
 cases ry
 obtain ⟨z, its, n, r, hl, e⟩ := I.lstM hH
 obtain ⟨z2, its2, n2, r2, hl2, e2⟩ := I.lstM hB
 refine PySem.P.add_list e e2 ?_ (by rw [List.size_toArray, List.size_toArray]; omega)
 have ea : its.toArray ++ its2.toArray = (its ++ its2).toArray := by simp
 rw [ea]
 exact ⟨.ref _, _, I.lnew (t' := s.toks) (r.append r2) (by rw [List.length_append]; omega), rfl, q _ I.fresh⟩
end
section
variable {prog : Program} {w : World} {A : Around} {E : Value -> Shared -> Prop} {s : Shared}
set_option maxRecDepth 100000 in
end
section
variable {X : Cx}
end
end L2
namespace Att
open PySem PySem.W PySem.Calls PyProof.Rows
theorem ints_of_wellAll {P : Params} {h : Heap} : ∀ (ns : List Int) (vs : List Value), WellAll P h vs (ns.map WData.int) -> IntsAre vs ns := by
 intro ns
 induction ns with
 | nil =>
  intro vs w
  rw [List.map_nil] at w
  cases w
  exact .nil
 | cons n ns ih =>
  intro vs w
  rw [List.map_cons] at w
  cases w with
  | cons a b =>
   cases a
   exact .cons _ _ (ih _ b)
theorem script_of {l : OpenLaw} {n : Nat} (hn : l.most = some n) {P : Params} {h : Heap} {args : List WData} {vals : List Value}
  (hpre : l.row.toRowW.claim.pre args = true) (hwl : WellAll P h vals args) :
  ∃ a vs ns, vals = [Value.ref a] /\ args = [WData.list (ns.map WData.int)] /\ h.get? a = some { cls := .type "list", data := .seq vs.toArray } /\ IntsAre vs ns /\ ns.length <= n := by
 have hsh : WShape.hasAll [] args [.list .int] = true := (pre_splitW hpre).1
 have hc : l.pre.holds [] { args := args } = true := (pre_splitW hpre).2
 obtain ⟨d, r, rfl, h1, h2⟩ := hasAllW_cons hsh
 obtain rfl := hasAllW_nil h2
 obtain ⟨xs, rfl, h3⟩ := hasW_list h1
 obtain ⟨ns, rfl⟩ := items_int h3
 have hlen : ns.length <= n := by
  unfold OpenLaw.pre at hc
  have h4 : (WTm.not (.lt (.lit (.int (n : Int))) (.len (.arg 0)))).holds [] { args := [.list (ns.map .int)] } = true := by
   have h4 := (holds_andW hc).1
   rw [hn] at h4
   exact h4
  have h5 := condW_of h4 (w_not (w_lt w_lit (w_len_list (w_arg rfl))))
  rw [List.length_map] at h5
  refine Nat.le_of_not_lt fun q => ?_
  have q' : (n : Int) < ((ns.length : Nat) : Int) := by omega
  first
   | (rw [decide_eq_true q'] at h5; exact absurd h5 (by decide))
   | (simp at h5; omega)
 cases hwl with
 | cons w1 w2 =>
  cases w2
  cases w1 with
  | list ho hall => exact ⟨_, _, ns, rfl, rfl, ho, ints_of_wellAll ns _ hall, hlen⟩
theorem post_true (l : OpenLaw) (args : List WData) : l.row.toRowW.claim.post args (.bool true) args = true :=
 postW_of (r := l.row.toRowW) (X := (true == true))
  (show WShape.has [] (.bool true) .bool = true by first | rfl | decide | simp [WShape.has, WShape.arms, WShape.armsAll])
  (show (WTm.eq .res (.lit (.bool true))).value [] { args := args, res := some (.bool true), after := args } = some (.bool (true == true)) from w_eq_bool (w_res rfl) w_lit) rfl
theorem attach_call {l : OpenLaw} {n : Nat} {q : Program} {loose : List Str} {XP : (Str -> Option Value) -> Heap -> Prop} {YP : World -> Heap -> Prop} {d : DefRec}
  (hn : l.most = some n) (hdf : d.params.defaults = [])
  (call : ∀ (w : World) (s₀ s₁ : Shared) (mg mb : Str -> Option Value) (fa : Addr) (o : Obj) (pm cd doc : Value) (a : Addr) (vs : List Value) (ns : List Int),
   Ground q loose [] XP w s₀ mg mb s₁.heap -> YP w s₁.heap ->
   s₁.heap.get? fa = some o -> o.data = .func (docDef d.name d.params d.body d.scope pm cd doc) -> s₁.heap.CodeRec cd d.name -> mg d.name = some (.ref fa) ->
   s₁.heap.get? a = some { cls := .type "list", data := .seq vs.toArray } -> IntsAre vs ns -> ns.length <= n -> s₁.gens = #[] ->
   codeAny (model l.prog w) callerA (.call (.ref fa) ⟨[.ref a], []⟩) (fun r s' => r = .ok (.ret (.bool true)) /\ OldK s₁.heap s'.heap /\ s'.os = s₁.os /\ AllBare s'.gens) s₁) :
  WalkO q loose XP YP l.row.toRowW d [] (fun f vs => PySem.call f vs) := by
 intro w s₀ s₁ mg mb G Y fa o pm cd doc dV kV ho hd hcd hD hmg hg args vals as hpre hlay hrd hwl hlo
 obtain rfl : dV = .none := Dflts.none hD hdf
 obtain rfl : kV = .none := Dflts.noKw hD
 obtain ⟨a, vs, ns, rfl, rfl, hobj, hints, hlen⟩ := script_of hn hpre hwl
 refine enter_call (codeAny_mono (call w s₀ s₁ mg mb fa o pm cd doc a vs ns G Y ho (fd_plain hd) hcd hmg hobj hints hlen hg) fun r s' hq => ?_)
 obtain ⟨rfl, h2, h3, h4⟩ := hq
 exact ⟨.inl ⟨.bool true, .bool true, [], rfl, fun _ => rfl, .bool true, post_true l _, fun _ => ⟨List.Pairwise.nil, fun _ hm => (nomatch hm)⟩⟩, h2, h3, h4⟩
section
variable {prog : Program} {w : World} {A : Around} {E : Value -> Shared -> Prop} {s : Shared} {K : Frag}
end
end Att
namespace L2
open PySem PySem.Spec PyProof.Rows
theorem wP : ∀ {vs : List Value} {ns : List Int}, IntsAre vs ns -> qo (ns.map V.int) vs
 | _, _, .nil => .nil
 | _, _, .cons n t h => .cons ⟨t, rfl⟩ (wP h)
def Only (H : Hp) : Prop := ∀ b, H b = none \/ ∃ o xs, H b = some (.frz o (.lst xs))
theorem law_call {P : Program} {w : World} {K : PySem.W.Frag} {mg mb : Str -> Option Value} {CX : CXT} {k : Nat} {fa a : Addr} {fd : FuncData} {x : Str} {sp : Sp} {s₁ : Shared} {vs : List Value} {ns : List Int}
  (KX : K.In s₁.heap) (hns : s₁.heap.Ns mainGlobals mg) (hb : s₁.heap.Ns builtinsNs mb) (hbb : ∀ x : Str, x ≠ "__name__" -> mb x = bootBuiltins x) (hlim : s₁.heap.NoLimit) (hg : s₁.gens = #[])
  (ha : s₁.heap.get? a = some { cls := .type "list", data := .seq vs.toArray }) (hi : IntsAre vs ns) (hl : ns.length <= sizeLine) (hr : ZS k callerA)
  (F : ∀ base : Heap, K.In base -> base.Ns mainGlobals mg -> jT P w K mg base CX k fa fd [x] sp) (hbind : ∀ (s : Shared) (u : Value), BindsTo s fd ⟨[u], []⟩ [(x, u)])
  (hsp : ∀ H : Hp, Only H -> SqL K H a (ns.map V.int) -> sp [.ref a] H (fun v _ => v = .bl true) fun _ _ _ => False)
  (hCX : ∀ H e s', CX [] H s₁ (fun _ _ _ => False) e s' -> False) :
  codeAny (model P w) callerA (.call (.ref fa) ⟨[.ref a], []⟩) (fun r s' => r = .ok (.ret (.bool true)) /\ OldK s₁.heap s'.heap /\ s'.os = s₁.os /\ AllBare s'.gens) s₁ := by
 have rv := wP hi
 have lenV := hi.length
 -- from an abstract heap in which nothing but the script may be tracked
 have core : ∀ H : Hp, Only H -> SqL K H a (ns.map V.int) -> HOk P w H s₁.heap -> (∀ b, H b ≠ none -> b = a) -> (H a ≠ none -> K.lookup a = none) ->
   codeAny (model P w) callerA (.call (.ref fa) ⟨[.ref a], []⟩) (fun r s' => r = .ok (.ret (.bool true)) /\ OldK s₁.heap s'.heap /\ s'.os = s₁.os /\ AllBare s'.gens) s₁ := by
  intro H hO hS hok hA hK
  have base_of : ∀ {b : Addr} {o : Obj}, s₁.heap.get? b = some o -> H b = none -> (hidT s₁.heap H).get? b = some o := fun e n => hidT_get e n
  have noA : ∀ {b : Addr} {o : Obj} {es : Array DictEntry} {ep : Nat}, s₁.heap.get? b = some o -> o.data = .dict es ep -> H b = none := fun {b o es ep} e d => by
   cases q : H b with
   | none => rfl
   | some u =>
    have e' : b = a := hA b (by rw [q]; simp)
    subst e'
    rw [ha] at e; cases e
    have d' : Data.seq vs.toArray _ = Data.dict es ep := d
    cases d'
  have nsK : ∀ {b : Addr} {m : Str -> Option Value}, s₁.heap.Ns b m -> (hidT s₁.heap H).Ns b m := fun {b m} ⟨o, es, ep, e, d, r⟩ => ⟨o, es, ep, base_of e (noA e d), d, r⟩
  have hKb : K.In (hidT s₁.heap H) := fun b o e => base_of (KX b o e) (by
   cases q : H b with
   | none => rfl
   | some u =>
    have e' : b = a := hA b (by rw [q]; simp)
    subst e'
    rw [hK (by rw [q]; simp)] at e; cases e)
  have hM : Mod K mg (hidT s₁.heap H) := ⟨hKb, nsK hns, ⟨mb, nsK hb, hbb⟩, let ⟨mc, h1, h2⟩ := hlim; ⟨mc, nsK h1, h2⟩⟩
  have e0 : Env0 P w K mg (hidT s₁.heap H) callerA [] s₁ H := ⟨rfl, hM, fun b o e => of_hidT e, Nat.le_of_eq (YA _ _), trivial, fun b hb => absurd (show b ∈ ([] : List Addr) from hb) (by simp), hok, .of_eq hg⟩
  refine codeAny_mono ((F _ hKb (nsK hns)).run callerA [] s₁ H ⟨[.ref a], []⟩ [.ref a] [.ref a] _ _ hr e0 (hbind s₁ (.ref a)) (.cons rfl .nil) (hsp H hO hS)) fun r s' h => ?_
  cases r with
  | error e => exact (hCX H e s' h).elim
  | ok fl =>
   cases fl with
   | next => exact False.elim h
   | brk => exact False.elim h
   | cont => exact False.elim h
   | ret u =>
    obtain ⟨v, H', os, bare, un, hok', r', q⟩ := h
    have q' : v = .bl true := q
    subst q'
    obtain rfl : u = Value.bool true := r'
    refine ⟨rfl, OldK.of_keep fun b o e => ?_, os, bare⟩
    cases q : H b with
    | none => exact un.keep b o e q (by intro z; exact absurd (show b ∈ ([] : List Addr) from z) (by simp)) (by simp)
    | some u =>
     rcases hO b with z | ⟨ob, xs, z⟩
     ·rw [q] at z; cases z
     ·have z2 := un.frzs b ob _ z
      obtain ⟨e1, _⟩ := hok b _ z
      obtain ⟨e2, _⟩ := hok' b _ z2
      rw [e] at e1; cases e1
      exact e2
 cases hk : K.lookup a with
 | some o =>
  -- the script is one of the module's own objects
  have e := KX a o hk
  rw [ha] at e
  cases e
  refine core (fun _ => none) (fun _ => .inl rfl) (.inr ⟨_, vs.toArray, _, hk, rfl, rfl, rfl, by rw [List.size_toArray, lenV]; exact hl, by simpa using rv⟩) (fun b u z => by have z' : (none : Option HO) = some u := z; cases z') (fun b z => absurd rfl z) fun z => absurd rfl z
 | none =>
  refine core (fun b => if b = a then some (.frz { cls := .type "list", data := .seq vs.toArray } (.lst (ns.map V.int))) else none) (fun b => ?_) (.inl (.inr ⟨{ cls := .type "list", data := .seq vs.toArray }, if_pos rfl⟩)) (fun b u z => ?_) (fun b z => ?_) fun _ => hk
  ·by_cases hb : b = a
   ·exact .inr ⟨_, _, if_pos hb⟩
   ·exact .inl (if_neg hb)
  ·by_cases hb : b = a
   ·have z' := (if_pos hb).symm.trans z
    cases z'
    subst hb
    exact ⟨ha, by rw [List.length_map]; exact hl, vs, _, rv, ha⟩
   ·have z' := (if_neg hb).symm.trans z
    cases z'
  ·by_cases hb : b = a
   ·exact hb
   ·exact absurd (if_neg hb) z
end L2
namespace L2
open PySem PySem.Spec PyProof.Rows
theorem YX {l : PySem.W.OpenLaw} {n k : Nat} {q : Program} {loose : List Str} {XP : (Str -> Option Value) -> Heap -> Prop} {YP : World -> Heap -> Prop} {d : DefRec} {K : Params -> PySem.W.Frag} {CX : World -> CXT} {sp : World -> Sp} {x : Str}
  (hn : l.most = some n) (hn2 : n <= sizeLine) (hdf : d.params.defaults = []) (hr : ZS k callerA)
  (hY : ∀ (w : World) (h : Heap), YP w h -> (K w.params).In h)
  (F : ∀ (w : World) (mg : Str -> Option Value) (fa : Addr) (h : Heap), (K w.params).In h -> h.Ns mainGlobals mg -> mg d.name = some (.ref fa) ->
   ∃ fd : FuncData, (∀ (s : Shared) (u : Value), BindsTo s fd ⟨[u], []⟩ [(x, u)]) /\
    ∀ base : Heap, (K w.params).In base -> base.Ns mainGlobals mg -> jT l.prog w (K w.params) mg base (CX w) k fa fd [x] (sp w))
  (hsp : ∀ (w : World) (H : Hp) (a : Addr) (ns : List Int), ns.length <= n -> Only H -> SqL (K w.params) H a (ns.map V.int) -> sp w [.ref a] H (fun v _ => v = .bl true) fun _ _ _ => False)
  (hCX : ∀ (w : World) (H : Hp) (s : Shared) (e : Value) (s' : Shared), CX w [] H s (fun _ _ _ => False) e s' -> False) :
  PySem.W.WalkO q loose XP YP l.row.toRowW d [] (fun f vs => PySem.call f vs) := by
 refine Att.attach_call hn hdf fun w s₀ s₁ mg mb fa o pm cd doc a vs ns G Y ho hd hcd hmg hobj hints hlen hg => ?_
 have KX := hY w _ Y
 obtain ⟨fd, hb, hF⟩ := F w mg fa _ KX G.T.g hmg
 exact law_call KX G.T.g G.T.b G.T.builtins G.T.nolimit hg hobj hints (Nat.le_trans hlen hn2) hr hF hb (fun H hO hS => hsp w H a ns hlen hO hS) fun H e s' => hCX w H s₁ e s'
end L2
/- THE LAST THEOREM (shape; LID, My.* are yours):
   My.Adr: a structure of the addresses that your layer names (classes, functions); My.Txt K t: a structure (Prop) of the equations over K;
   My.txt_mk : {K} {implicit addresses ..} (e1 : nsIn K mainGlobals "law" = some (some (.ref f))) (e2 : K.lookup f = some ⟨oc, od, .func (fnOf "law" "law" params body scope dV kV doc pm an cdv ct), sl⟩) (e3 : codeIn K cdv "law" = true) .. : ∃ t, My.Txt K t
set_option maxRecDepth 100000 in
set_option maxHeartbeats 0 in
theorem PySem.Challenge.cw_LID_holds : PySem.Challenge.rw_LID.Holds := by
 w_on; o_law; k_head; (case hw => w_witness2)
 k_fill
 refine L2.YX (l := PySem.Challenge.rw_LID) (n := 63) (k := 40) (x := "script") (CX := fun w => ..) (sp := fun _ => My.sp_law) rfl (by decide) rfl ⟨rfl, by decide, by decide⟩ (fun w h Y => PySem.W.kIn_of Y) ?F ?S ?C
 case F =>
  intro w mg fa h KX G hmg
  have T : ∃ t, My.Txt (L2.KOf KX) t := by
   dsimp only [L2.KOf]                          -- K must stand as «<heap const> w.params» for k_is
   refine' My.txt_mk ?e1 ?e2 ?e3 ..
   (case e1 => PySem.W.k_is)                    -- in the order: a name -> its address -> its object -> its parts
   (case e2 => PySem.W.k_is)
   ..
  obtain ⟨t, T⟩ := T
  have e0 := hmg.symm.trans (PySem.W.mg_of KX G T.law)
  cases e0                                       -- fa is the law's own address
  exact ⟨_, fun s u => .of_eq rfl, fun base kb nb => My.law_fn T kb nb⟩     -- if «.of_eq rfl» comes too early: refine' ⟨_, ?b, fun base kb nb => My.law_fn T kb nb⟩; exact fun s u => .of_eq rfl
 case S => exact fun w H a ns hl hO hS => ..
 case C => exact ..
(the tactic k_is has no namespace: write k_is) -/
namespace L2
open PySem PySem.Spec PyProof.Rows
def zB (s : Stmt) : Arguments := match s with
 | .FunctionDef _ a _ _ _ _ _ _ _ _ => a
 | _ => { posonlyargs := [], args := [], vararg := none, kwonlyargs := [], kw_defaults := [], kwarg := none, defaults := [] }
def zA (s : Stmt) : List Stmt := match s with
 | .FunctionDef _ _ b _ _ _ _ _ _ _ => b
 | _ => []
def zf (s : Stmt) : Scope := match s with
 | .FunctionDef _ _ _ _ _ _ sc _ _ _ => sc
 | _ => { kind := .function, names := [], isGenerator := false, isCoroutine := false }
abbrev CX0 : CXT := fun _ _ _ _ _ _ => False
abbrev E0 : XK := fun _ _ _ => False
theorem pass0 {X : Cx} : YR CX0 X E0 := fun _ _ _ _ _ _ _ h => h.elim
structure Fun (K : PySem.W.Frag) (x qual : Str) (st : Stmt) (f : Addr) (fd : FuncData) : Prop where
 ex : ∃ (oc : Value) (od : Option Addr) (kV doc pm : Value) (an : Option Addr) (cdv ct : Value) (osl : Array (Option Value)),
  fd = PySem.W.fnOf x qual (zB st) (zA st) (zf st) .none kV doc pm an cdv ct /\ K.lookup f = some ⟨oc, od, .func fd, osl⟩ /\ PySem.W.codeIn K cdv qual = true
 kp : PySem.W.keepIn K (.ref f) = true
section
variable {P : Program} {w : World} {K : PySem.W.Frag} {mg : Str -> Option Value} {base : Heap}
theorem Fun.ok {x qual : Str} {st : Stmt} {f : Addr} {fd : FuncData} {N ps : List Str} {k : Nat} {sp : Sp} (F : Fun K x qual st f fd) (S : zD N ps (zf st)) (len : ∀ vs H Q E, sp vs H Q E -> vs.length = ps.length)
  (hbody : ∀ (cdv : Value) (A : Around) (outer : List Env) (s : Shared) (H : Hp) (vs : List V) (Q : VK) (E : XK), ZS k (A.deeper (envOfC qual (zf st) s.heap.objs.size f cdv)) -> sp vs H Q E ->
   ∃ t, PSs (cxOf CX0 P w K mg base N qual (zf st) f cdv A outer s H E).nox (zA st) t /\ t { nx := fun _ H' => Q .non H', rt := Q } (start N vs) H) : jT P w K mg base CX0 (k + 1) f fd ps sp := by
 obtain ⟨oc, od, kV, doc, pm, an, cdv, ct, osl, rfl, lk, hcd⟩ := F.ex
 refine fn_of lk hcd S len fun A outer s H vs Q E hr hsp => ?_
 obtain ⟨t, h, q⟩ := hbody cdv A outer s H vs Q E hr hsp
 exact ⟨t, h.nox, q⟩
theorem Fun.binds {x qual : Str} {st : Stmt} {f : Addr} {fd : FuncData} {ps : List Str} (F : Fun K x qual st f fd)
  (h : ∀ (kV doc pm : Value) (an : Option Addr) (cdv ct : Value) (us : List Value), us.length = ps.length -> bindArgs (PySem.W.fnOf x qual (zB st) (zA st) (zf st) .none kV doc pm an cdv ct) ⟨us, []⟩ = pure (ps.zip us)) : Binds K fd ps [] := by
 obtain ⟨oc, od, kV, doc, pm, an, cdv, ct, osl, rfl, lk, hcd⟩ := F.ex
 exact .all (h kV doc pm an cdv ct)
theorem zS {x qual : Str} {st : Stmt} {f : Addr} {oc : Value} {od an : Option Addr} {osl : Array (Option Value)} {kV doc pm cdv ct : Value} (l : K.lookup f = some ⟨oc, od, .func (PySem.W.fnOf x qual (zB st) (zA st) (zf st) .none kV doc pm an cdv ct), osl⟩)
  (c : PySem.W.codeIn K cdv qual = true) (k : PySem.W.keepIn K (.ref f) = true) : Fun K x qual st f (PySem.W.fnOf x qual (zB st) (zA st) (zf st) .none kV doc pm an cdv ct) := ⟨⟨oc, od, kV, doc, pm, an, cdv, ct, osl, rfl, l, c⟩, k⟩
end
theorem hu_of {A : Around} {k : Nat} (hr : ZS k A) : A.units + 1 < cLine := Nat.lt_of_le_of_lt (Nat.add_le_add_left (by decide : 1 <= 64) _) hr.units
theorem zr {n : Nat} (h : n <= 1000) : n < sizeLine := Nat.lt_of_le_of_lt h (by decide)
section
variable {X : Cx}
theorem pv (i : Nat) {x : Str} {pos : Pos} (hN : X.N[i]? = some x := by rfl) (hv : Vis X.env.scope x := by first | exact Or.inl rfl | exact Or.inr (Or.inl rfl) | exact Or.inr (Or.inr rfl)) (hd : (x == ("__debug__" : Str)) = false := by decide)
  (hcd : (x == ("__classdict__" : Str)) = false := by decide) : PE X (.Name x pos) (tVar i) := pe_var hN hv hd hcd
end
theorem ZU {A B : Prop} (h : B) : if false = true then A else B := by
 rw [if_neg Bool.false_ne_true]
 exact h
theorem WE {A B : Prop} (h : A) : if true = true then A else B := by
 rw [if_pos rfl]
 exact h
theorem ite2 {c A B : Prop} [Decidable c] (h1 : c -> A) (h2 : ¬ c -> B) : if c then A else B := by
 by_cases h : c
 ·rw [if_pos h]
  exact h1 h
 ·rw [if_neg h]
  exact h2 h
theorem yS {c A B : Prop} [Decidable c] (hc : c) (h : B) : if (!decide c) = true then A else B := by
 rw [decide_eq_true hc]
 exact ZU h
def zF (H H' : Hp) : Prop := ∀ b o, H b = some o -> H' b = some o
theorem zF.refl (H : Hp) : zF H H := fun _ _ h => h
theorem zF.trans {H H1 H2 : Hp} (a : zF H H1) (b : zF H1 H2) : zF H H2 := fun c o h => b c o (a c o h)
theorem zF.free {H H' : Hp} (e : zF H H') {l : Addr} (h : H' l = Option.none) : H l = Option.none := by
 cases q : H l with
 | none => rfl
 | some o =>
  rw [e l o q] at h
  cases h
theorem zF.seq {K : PySem.W.Frag} {H H' : Hp} {a : Addr} {xs : List V} (e : zF H H') (h : SqL K H a xs) : SqL K H' a xs := by
 rcases h with (h | ⟨o, h⟩) | h
 ·exact .inl (.inl (e _ _ h))
 ·exact .inl (.inr ⟨o, e _ _ h⟩)
 ·exact .inr h
end L2
namespace L2
open PySem PySem.Spec PyProof.Rows
abbrev NoX : Value -> Shared -> Prop := fun _ _ => False
theorem wpX {α : Type} {M : Model} {A : Around} {t : Sem α} {Q : α -> Shared -> Prop} {E : Value -> Shared -> Prop} {s : Shared} (h : wpAny M A t Q NoX s) : wpAny M A t Q E s :=
 wpAny_mono h (fun _ _ q => q) fun _ _ f => f.elim
def YY (ifs : List Expr) (env : Env) : Sem Bool :=
 forIn ifs true fun c r => if r = true then do let ok <- isTrue c env (eval c env); pure (ForInStep.yield ok) else pure (ForInStep.yield r)
theorem JZ {prog : Program} {w : World} {A : Around} {R : Result -> Shared -> Prop} {s : Shared} {elt tg iter : Expr} {ifs : List Expr} {scope : Scope} {pos : Pos} {it acc : Value} {env : Env} (Iv : Nat -> Shared -> Prop)
  (turn : ∀ n s, Iv n s -> wpAny (model prog w) A (pyNext it) (fun r s1 => match r with
   | none => R (.ok .next) s1
   | some v => wpAny (model prog w) A (letOwnedTupleGo tg it v) (fun _ s2 => wpAny (model prog w) A (assign tg env v) (fun _ s3 => wpAny (model prog w) A (YY ifs env) (fun ok s4 =>
      if ok = true then wpAny (model prog w) A (eval elt env) (fun x s5 => wpAny (model prog w) A (call (.builtin "list.append") [acc, x]) (fun _ s6 => ∃ m, m < n /\ Iv m s6) NoX s5) NoX s4
      else ∃ m, m < n /\ Iv m s4) NoX s3) NoX s2) NoX s1) NoX s)
  (n : Nat) (h : Iv n s) : codeAny (model prog w) A (.compLoop (.ListComp elt [⟨tg, iter, ifs, 0⟩] scope pos) 0 it acc env) R s := by
 refine codeAny_loop rfl Iv (fun n s hI => ?_) n h
 show wpAny (model prog w) A ((compTurn (.ListComp elt [⟨tg, iter, ifs, 0⟩] scope pos) 0 it acc env).onRaise (fun x => do noteFrame x env; theTreesLotGoes x)) _ _ s
 refine wpAny_noted (wpX ?_)
 rw [compTurn_list]
 refine wpAny_bind (wpAny_standAt (wpAny_bind (thn (turn n s hI) fun r s1 h1 => ?_)))
 cases r with
 | none => exact wpAny_pure h1
 | some v =>
  refine wpAny_bind (thn h1 fun _ s2 h2 => wpAny_bind (thn h2 fun _ s3 h3 => wpAny_bind (thn h3 fun ok s4 h4 => ?_)))
  cases ok with
  | false => exact wpAny_pure ⟨rfl, h4⟩
  | true => exact wpAny_bind (wpAny_bind (thn h4 fun x s5 h5 => wpAny_bind (thn h5 fun _ s6 h6 => wpAny_pure (wpAny_pure ⟨rfl, h6⟩))))
def jw (env : Env) (y : Str × NameKind) (cs : List (Str × Addr)) : List (Str × Addr) := if (y.2 == NameKind.free) = true then (y.1, (env.cells.lookup y.1).getD 0) :: cs else cs
def YZ (env : Env) (scope : Scope) : List (Str × Addr) := scope.names.foldl (fun c y => jw env y c) []
theorem QO {α β : Type} {f : α -> β -> Sem (ForInStep β)} {g : β -> α -> β} : ∀ (l : List α) (c : β), (∀ x ∈ l, ∀ c, f x c = pure (.yield (g c x))) -> forIn l c f = pure (l.foldl g c)
 | [], c, _ => rfl
 | x :: l, c, h => by
  rw [List.forIn_cons, h x List.mem_cons_self, pure_bind]
  exact QO l (g c x) fun y hy => h y (List.mem_cons_of_mem _ hy)
theorem Jw {env : Env} {scope : Scope} (h : ∀ y ∈ scope.names, y.2 = .free -> ∃ c, env.cells.lookup y.1 = some c) : closureFor scope env = pure (YZ env scope) := by
 simp only [closureFor]
 rw [QO (g := fun c y => jw env y c) scope.names [] (fun y hy c => ?_)]
 ·rfl
 ·obtain ⟨n, k⟩ := y
  by_cases hk : k = .free
  ·subst hk
   obtain ⟨a, ha⟩ := h _ hy rfl
   have ha' : env.cells.lookup n = some a := ha
   simp [jw, cellOf, ha']
  ·have hb : (k == NameKind.free) = false := by simpa using hk
   simp only [jw, hb, Bool.false_eq_true, if_false]
theorem Qw {env : Env} : ∀ (ns : List (Str × NameKind)) (cs : List (Str × Addr)), (∀ y ∈ ns, y.2 = .free -> ∃ c, env.cells.lookup y.1 = some c) -> (∀ x c, cs.lookup x = some c -> env.cells.lookup x = some c) ->
  ∀ x c, (ns.foldl (fun c y => jw env y c) cs).lookup x = some c -> env.cells.lookup x = some c
 | [], _, _, h => h
 | y :: ns, cs, hf, h => by
  refine Qw ns (jw env y cs) (fun z hz => hf z (List.mem_cons_of_mem _ hz)) fun x c e => ?_
  unfold jw at e
  split at e
  ·rename_i hk
   have hk' : y.2 = .free := by simpa using hk
   obtain ⟨a, ha⟩ := hf y List.mem_cons_self hk'
   rw [List.lookup_cons] at e
   split at e
   ·rename_i hx
    have hx' : x = y.1 := by simpa using hx
    rw [ha] at e
    rw [hx', ha]
    exact e
   ·exact h x c e
  ·exact h x c e
theorem Zc {env : Env} (x : Str) : ∀ (ns : List (Str × NameKind)) (cs : List (Str × Addr)), ((x, NameKind.free) ∈ ns \/ ∃ c, cs.lookup x = some c) -> ∃ c, (ns.foldl (fun c y => jw env y c) cs).lookup x = some c
 | [], _, h => by
  rcases h with h | h
  ·exact absurd h (by simp)
  ·exact h
 | y :: ns, cs, h => by
  refine Zc x ns (jw env y cs) ?_
  rcases h with h | ⟨c, h⟩
  ·rcases List.mem_cons.mp h with e | h
   ·subst e
    exact .inr ⟨(List.lookup x env.cells).getD 0, by simp [jw]⟩
   ·exact .inl h
  ·refine .inr ?_
   unfold jw
   split
   ·rw [List.lookup_cons]
    split
    ·exact ⟨_, rfl⟩
    ·exact ⟨c, h⟩
   ·exact ⟨c, h⟩
def relK (env : Env) (n : Str) (k : NameKind) : NameKind := if (k == NameKind.free && env.scope.kind == .function && env.kindOf n == some .cell) = true then .cell else k
def relP (env : Env) (y : Str × NameKind) : Str × NameKind := if (y.2 == NameKind.free && env.scope.kind == .function && env.kindOf y.1 == some .cell) = true then (y.1, NameKind.cell) else (y.1, y.2)
theorem relP_eq (env : Env) (y : Str × NameKind) : relP env y = (y.1, relK env y.1 y.2) := by
 unfold relP relK
 split <;> rfl
theorem Jx {env : Env} (x : Str) : ∀ ns : List (Str × NameKind), (ns.map (relP env)).lookup x = (ns.lookup x).map (relK env x)
 | [] => rfl
 | (n, k) :: r => by
  have ih := Jx (env := env) x r
  rw [List.map_cons, relP_eq, List.lookup_cons, List.lookup_cons]
  cases hx : x == n with
  | true =>
   have e : x = n := by simpa using hx
   subst e
   rfl
  | false => exact ih
theorem jN {env : Env} {scope : Scope} (x : Str) : (relabel scope env).names.lookup x = (scope.names.lookup x).map (relK env x) := Jx x scope.names
def Y0 (N : List Str) (scope : Scope) (p : Option Nat × Str) : Bool := match p.1 with
 | none => true
 | some j => decide (N[j]? = some p.2) && decide (scope.names.lookup p.2 = some .free)
structure zN (N : List Str) (sc : Scope) (N' : List Str) (ix : List (Option Nat)) (scope : Scope) : Prop where
 kind : scope.kind = .function
 nocell : ∀ y ∈ scope.names, y.2 ≠ .cell
 locs : ∀ y ∈ scope.names, y.2 = .local -> scope.names.lookup y.1 = some .local
 frees : ∀ y ∈ scope.names, y.2 = .free -> (sc.names.lookup y.1 = some .cell \/ sc.names.lookup y.1 = some .free)
 nd : N'.Nodup
 len : ix.length = N'.length
 cap : (ix.zip N').all (Y0 N scope) = true
def ixSt (ix : List (Option Nat)) (σ : St) : St := ix.map fun o => o.bind fun i => (σ[i]?).join
def qS (X : Cx) (N' : List Str) (scope : Scope) (C : Addr) (fp : List Addr) (s₀ : Shared) (H₀ : Hp) : Cx where
 prog := X.prog
 w := X.w
 K := X.K
 mg := X.mg
 base := X.base
 A := X.A
 N := N'
 s₀ := s₀
 H₀ := H₀
 env := compEnvC scope (YZ X.env scope) C X.env
 outer := X.stack
 stack := X.stack
 ex := fp
 fn := fun _ => false
 calm := X.calm
 pn := []
 xe := NoX
section
variable {X : Cx} {N' : List Str} {ix : List (Option Nat)} {scope : Scope} {pins : List (Addr × Obj)} {σ : St} {H : Hp} {s : Shared} {fp : List Addr}
theorem zN.has (S : zN X.N X.env.scope N' ix scope) (ok : X.Ok) : ∀ y ∈ scope.names, y.2 = .free -> ∃ c, X.env.cells.lookup y.1 = some c := fun y hy hk => ok.has y.1 (S.frees y hy hk)
theorem zN.sub (S : zN X.N X.env.scope N' ix scope) (ok : X.Ok) : ∀ x c, (YZ X.env scope).lookup x = some c -> X.env.cells.lookup x = some c :=
 Qw scope.names [] (S.has ok) fun x c e => by simp at e
theorem zN.frK (S : zN X.N X.env.scope N' ix scope) {x : Str} (h : (relabel scope X.env).names.lookup x = some .cell \/ (relabel scope X.env).names.lookup x = some .free) : scope.names.lookup x = some .free := by
 rw [jN] at h
 cases e : scope.names.lookup x with
 | none => rw [e] at h; simp at h
 | some k =>
  rw [e] at h
  cases k with
  | free => rfl
  | cell => exact absurd rfl (S.nocell _ (PySem.mem_of_lookup e))
  | «local» => simp [relK] at h
  | globalExplicit => simp [relK] at h
  | globalImplicit => simp [relK] at h
theorem yT {h1 : Heap} {m : Str -> Option Value} {tk : Nat} (S : zN X.N X.env.scope N' ix scope) (I : Inv X pins σ H s) (hf : ∀ b ∈ fp, YE X pins H b) (hlt : ∀ b ∈ fp, b < s.heap.objs.size)
  (ns : h1.Ns s.heap.objs.size m) (kp : ∀ b o, s.heap.get? b = some o -> h1.get? b = some o) :
  Inv (qS X N' scope s.heap.objs.size fp s H) [] (ixSt ix σ) H { s with heap := h1, toks := tk } := by
 have sub := S.sub I.ok
 have cellS : ∀ x c, (YZ X.env scope).lookup x = some c -> c < s.heap.objs.size := fun x c e => by
  obtain ⟨v, q⟩ := I.cell x c (sub x c e)
  exact q.lt
 refine ⟨⟨I.ok.mod, S.kind, I.ok.glob, I.ok.blt, Nat.le_refl _, fun x y c h1 h2 => I.ok.inj x y c (sub x c h1) (sub y c h2), fun x hx => ?_, fun x c z _ => ?_, I.ok.hd, I.ok.frames, .inl rfl, fun b hb => ⟨?_, fun x c e => ?_⟩, I.bs, Nat.le_trans I.ok.bsz I.sz, fun b o e hb => ?_, fun b hb z => ?_, I.stack, I.stkFree⟩,
  rfl, I.bare, Un.kept kp, ⟨m, ns, fun i x v h1 h2 h3 => ?_⟩, fun x c e => ?_, I.hok.fresh (Nat.le_refl _), fun x c e => I.freeC x c (sub x c e), fun p hp => absurd (show p ∈ ([] : List (Addr × Obj)) from hp) (by simp), I.hok.kept kp, ?_⟩
 ·exact Zc x scope.names [] (.inl (PySem.mem_of_lookup (S.frK hx)))
 ·exact absurd (show false = true from z) (by simp)
 ·exact Nat.ne_of_lt (hlt b hb)
 ·exact (hf b hb).2.2.2.2.1 x c (sub x c e)
 ·rcases (hf b hb).2.2.2.1 with z | z
  ·exact I.ok.noex b o e z
  ·exact absurd (Nat.lt_of_lt_of_le (Heap.lt_size e) (Nat.le_trans I.ok.bsz z)) (Nat.lt_irrefl _)
 ·rcases List.mem_cons.mp (I.stkSub b z) with e | e
  ·exact (hf b hb).2.1 e
  ·exact (hf b hb).2.2.1 e
 ·have hi : i < ix.length := by
   have := (List.getElem?_eq_some_iff.mp h1).1
   rw [S.len]; exact this
  have e1 : ix[i]? = some ix[i] := List.getElem?_eq_getElem hi
  have h2' : (ixSt ix σ)[i]? = some (some v) := h2
  rw [ixSt, List.getElem?_map, e1] at h2'
  have h2'' : (ix[i].bind fun j => (σ[j]?).join) = some v := Option.some.inj h2'
  cases ej : ix[i] with
  | none => rw [ej] at h2''; cases h2''
  | some j =>
   rw [ej] at h2''
   have h2j : (σ[j]?).join = some v := h2''
   have hz : (ix[i], x) ∈ ix.zip N' := by
    have ez : (ix.zip N')[i]? = some (ix[i], x) := by rw [List.getElem?_zip_eq_some]; exact ⟨e1, h1⟩
    exact List.mem_of_getElem? ez
   have cq := List.all_eq_true.mp S.cap _ hz
   have cq' : (decide (X.N[j]? = some x) && decide (scope.names.lookup x = some .free)) = true := by
    unfold Y0 at cq
    simp only [ej] at cq
    exact cq
   rw [Bool.and_eq_true] at cq'
   have c1 := of_decide_eq_true cq'.1
   have c2 := of_decide_eq_true cq'.2
   have kx : X.env.scope.names.lookup x = some .cell \/ X.env.scope.names.lookup x = some .free := S.frees (x, .free) (PySem.mem_of_lookup c2) rfl
   have hs : σ[j]? = some (some v) := by
    cases q : σ[j]? with
    | none => rw [q] at h2j; cases h2j
    | some o => rw [q] at h2j; have : o = some v := h2j; rw [this]
   obtain ⟨m0, hn0, hl0⟩ := I.loc
   obtain ⟨u, ru, lk⟩ := hl0 j x v c1 hs (kx.elim (fun z => .inr (.inl z)) fun z => .inr (.inr z))
   refine ⟨u, ru, .inr ⟨?_, ?_⟩⟩
   ·show (relabel scope X.env).names.lookup x = some .cell \/ (relabel scope X.env).names.lookup x = some .free
    rw [jN, c2]
    simp only [Option.map_some, relK]
    split
    ·exact .inl rfl
    ·exact .inr rfl
   ·rcases lk with ⟨k, _⟩ | ⟨_, c, ec, hc⟩
    ·have k' : X.env.scope.names.lookup x = some .local := k
     rw [k'] at kx
     rcases kx with z | z <;> cases z
    ·obtain ⟨c', ec'⟩ := Zc (env := X.env) x scope.names [] (.inl (PySem.mem_of_lookup c2))
     have := sub x c' ec'
     rw [ec] at this; cases this
     exact ⟨c, ec', hc.keeps kp⟩
 ·obtain ⟨v, q⟩ := I.cell x c (sub x c e)
  exact ⟨v, q.keeps kp⟩
 ·show (ixSt ix σ).length = N'.length
  rw [ixSt, List.length_map, S.len]
def PF (X : Cx) (ifs : List Expr) (t : TT) : Prop := ∀ (pins : List (Addr × Obj)) (s : Shared) (σ : St) (H : Hp) (Q : Bool -> Hp -> Prop), Inv X pins σ H s -> t σ H Q -> wpAny (model X.prog X.w) X.A (YY ifs X.env) (TP X pins σ Q) X.xe s
def tYes : TT := fun _ H Q => Q true H
theorem qG : PF X [] tYes := fun _ _ _ H _ I h => wpAny_tests_nil ⟨H, I, h⟩
theorem wQ {c : Expr} {t : TT} (hc : PT X c t) : PF X [c] t := fun pins s σ H Q I h => wpAny_tests_one (hc pins s σ H Q I h)
def ZA (J : It) (g : TG) (tt : TT) (te : TE) (σ0 : St) (H1 : Hp) (Q : VK) (D : Addr) : Prop := ∃ W : Nat -> Nat -> St -> Hp -> Prop, (∃ m, W 0 m σ0 (upd H1 D (.lst []))) /\ ∀ i m σ' H', W i m σ' H' ->
 (J.stop i H' /\ Q (.ref D) H') \/ (J.go i H' /\ ∀ x H2, J.yld i H' x H2 -> g x σ' H2 fun σ2 H3 => tt σ2 H3 fun b H4 =>
  if b = true then te σ2 H4 fun v H5 => ∃ xs, H5 D = some (.lst xs) /\ xs.length < sizeLine /\ ∃ m', m' < m /\ W (i + 1) m' σ2 (upd H5 D (.lst (xs ++ [v]))) else ∃ m', m' < m /\ W (i + 1) m' σ2 H4)
def tComp (ix : List (Option Nat)) (wi : TI) (g : TG) (tt : TT) (te : TE) : TE := fun σ H Q => wi σ H fun J H1 => ∀ D, H1 D = none -> ZA J g tt te (ixSt ix σ) H1 Q D
theorem Jy {elt tg iter : Expr} {ifs : List Expr} {pos : Pos} {g : TG} {tt : TT} {te : TE} {Q : VK} {Z : Value -> Addr -> Result -> Shared -> Prop} {it : Addr} {tn : Nat -> Heap -> Prop} {J : It}
  (S : zN X.N X.env.scope N' ix scope) (hc : X.calm = true)
  (hg : ∀ C fp s₀ H₀, PG (qS X N' scope C fp s₀ H₀) tg g) (ht : ∀ C fp s₀ H₀, PF (qS X N' scope C fp s₀ H₀) ifs tt) (he : ∀ C fp s₀ H₀, PE (qS X N' scope C fp s₀ H₀) elt te)
  (I : Inv X pins σ H s) (T : Turn X.prog X.w X.K tg J fp it tn) (st : tn 0 s.heap) (hf : ∀ b ∈ fp, YE X pins H b)
  (h : ∀ D, H D = none -> ∃ W : Nat -> Nat -> St -> Hp -> Prop, (∃ m, W 0 m (ixSt ix σ) (upd H D (.lst []))) /\ ∀ i m σ' H', W i m σ' H' ->
   (J.stop i H' /\ Q (.ref D) H') \/ (J.go i H' /\ ∀ x H2, J.yld i H' x H2 -> g x σ' H2 fun σ2 H3 => tt σ2 H3 fun b H4 =>
    if b = true then te σ2 H4 fun v H5 => ∃ xs, H5 D = some (.lst xs) /\ xs.length < sizeLine /\ ∃ m', m' < m /\ W (i + 1) m' σ2 (upd H5 D (.lst (xs ++ [v]))) else ∃ m', m' < m /\ W (i + 1) m' σ2 H4))
  (hZ : ∀ D C H' s' m, Inv X pins σ H' s' -> s'.heap.Ns C m -> H' C = none -> s.heap.objs.size <= C -> Q (.ref D) H' -> Z (.ref D) C (.ok .next) s') :
  wpAny (model X.prog X.w) X.A (newList []) (fun acc s3 => wpAny (model X.prog X.w) X.A (newFunctionEnv scope X.env.globals (YZ X.env scope) [] X.env.qual none .none (some X.env)) (fun cenv s4 =>
   codeAny (model X.prog X.w) X.A (.compStart (.ListComp elt [⟨tg, iter, ifs, 0⟩] scope pos) 0 (.ref it) acc { cenv with scope := relabel scope X.env }) (Z acc cenv.locals) s4) X.xe s3) X.xe s := by
 refine wpAny_newObj_type (wpAny_newFunctionEnv S.nocell (by intro y hy; simp at hy) (fun h1 ns1 sb1 => ?_) S.kind)
 have I3 : Inv X pins σ (upd H s.heap.objs.size (.lst [])) { s with heap := s.heap.push { cls := .type "list", data := .seq ([] : List Value).toArray }, toks := s.toks } := I.lnew (ys := []) (its := []) .nil (Nat.zero_le _)
 generalize hs3 : ({ s with heap := s.heap.push { cls := .type "list", data := .seq ([] : List Value).toArray } } : Shared) = s3 at ns1 sb1 ⊢
 have I3 : Inv X pins σ (upd H s.heap.objs.size (.lst [])) s3 := by rw [<- hs3]; exact I3
 have hsz : s3.heap.objs.size = s.heap.objs.size + 1 := by rw [<- hs3]; exact Heap.size_push _ _
 have st3 : tn 0 s3.heap := by
  rw [<- hs3]
  exact T.keep _ _ _ st fun b _ o e => Heap.get?_push_of_some _ e
 have blw : ∀ b ∈ fp, b < s.heap.objs.size := fun b hb => by
  obtain ⟨o, e, _⟩ := T.obj _ _ st b hb
  exact Heap.lt_size e
 have hf3 : ∀ b ∈ fp, YE X pins (upd H s.heap.objs.size (.lst [])) b := fun b hb => ⟨by rw [zn (Nat.ne_of_lt (blw b hb))]; exact (hf b hb).1, (hf b hb).2⟩
 obtain ⟨W, ⟨m0, w0⟩, turn⟩ := h s.heap.objs.size I.fresh
 have kp : ∀ b o, s3.heap.get? b = some o -> h1.get? b = some o := fun b o e => (sb1.2 b (Nat.ne_of_lt (Heap.lt_size e))).trans (Heap.get?_push_of_some _ e)
 have J0 := yT (tk := s3.toks + ([] : List (Str × Value)).length) S I3 hf3 (fun b hb => by rw [hsz]; exact Nat.lt_succ_of_lt (blw b hb)) ns1 kp
 have st4 : tn 0 h1 := T.keep _ _ _ st3 fun b _ o e => kp b o e
 have stat : ∀ {H' : Hp} {pl : List (Addr × Obj)}, (∀ b ∈ fp, H' b = none) -> (∀ b ∈ fp, ∀ p ∈ pl, p.1 ≠ b) -> ∀ b ∈ fp, YE (qS X N' scope s3.heap.objs.size fp s3 (upd H s.heap.objs.size (.lst []))) pl H' b := fun hn hp b hb =>
  ⟨hn b hb, (J0.ok.exf b hb).1, J0.ok.exfs b hb, .inl hb, (J0.ok.exf b hb).2, fun p q => hp b hb p q⟩
 have loop : codeAny (model X.prog X.w) X.A (.compLoop (.ListComp elt [⟨tg, iter, ifs, 0⟩] scope pos) 0 (.ref it) (.ref s.heap.objs.size) (qS X N' scope s3.heap.objs.size fp s3 (upd H s.heap.objs.size (.lst []))).env) (Z (.ref s.heap.objs.size) s3.heap.objs.size)
   { s3 with heap := h1, toks := s3.toks + ([] : List (Str × Value)).length } := by
  refine JZ (fun n s' => ∃ i σ' H', Inv (qS X N' scope s3.heap.objs.size fp s3 (upd H s.heap.objs.size (.lst []))) [] σ' H' s' /\ tn i s'.heap /\ (∀ b ∈ fp, H' b = none) /\ W i n σ' H') ?_ m0
   ⟨0, _, _, J0, st4, fun b hb => (hf3 b hb).1, w0⟩
  rintro n s5 ⟨i, σ5, H5, I5, st5, fr5, w5⟩
  rcases turn i n σ5 H5 w5 with ⟨stop, q⟩ | ⟨go, step⟩
  ·refine thn (T.done (qS X N' scope s3.heap.objs.size fp s3 (upd H s.heap.objs.size (.lst []))) rfl rfl rfl hc i [] s5 σ5 H5 NoX I5 (stat (pl := []) fr5 (fun _ _ p hp => absurd hp (by simp))) st5 stop) fun r s6 ⟨hr, I6⟩ => ?_
   subst hr
   have I7 : Inv X pins σ H5 s6 := I3.call' (ch := fp) I6.os I6.base I6.hok I6.bare fun b hb => ⟨(hf3 b hb).2.2.2.1, (hf3 b hb).2.1, (hf3 b hb).2.2.2.2.1, (hf3 b hb).2.2.2.2.2⟩
   obtain ⟨m6, n6, _⟩ := I6.loc
   exact hZ _ _ H5 s6 m6 I7 n6 I6.free (by rw [hsz]; exact Nat.le_succ _) q
  ·refine thn (T.item (qS X N' scope s3.heap.objs.size fp s3 (upd H s.heap.objs.size (.lst []))) rfl rfl rfl hc i [] s5 σ5 H5 NoX I5 (stat (pl := []) fr5 (fun _ _ p hp => absurd hp (by simp))) st5 go) fun r s6 ⟨u, hr, h6⟩ => ?_
   subst hr
   refine thn h6 fun _ s7 ⟨x, H7, I7, r7, y7, st7, fr7⟩ => ?_
   have I7' := I7.pinned (stat (pl := []) fr7 (fun _ _ p hp => absurd hp (by simp))) (T.obj _ _ st7)
   refine thn (hg _ _ _ _ _ s7 σ5 H7 x u _ I7' r7 (step x H7 y7)) fun _ s8 ⟨σ8, H8, I8, q8⟩ => ?_
   refine thn (ht _ _ _ _ _ s8 σ8 H8 _ I8 q8) fun b s9 ⟨H9, I9, q9⟩ => ?_
   have again : ∀ {σ' : St} {H' : Hp} {s' : Shared} {m' : Nat}, Inv (qS X N' scope s3.heap.objs.size fp s3 (upd H s.heap.objs.size (.lst []))) ([] ++ wE fp s7.heap) σ' H' s' -> m' < n -> W (i + 1) m' σ' H' ->
     ∃ m, m < n /\ ∃ i σ' H', Inv (qS X N' scope s3.heap.objs.size fp s3 (upd H s.heap.objs.size (.lst []))) [] σ' H' s' /\ tn i s'.heap /\ (∀ b ∈ fp, H' b = none) /\ W i m σ' H' := fun {σ' H' s' m'} I' hm w' => by
    refine ⟨m', hm, i + 1, σ', H', I'.unpinned, T.keep _ _ _ st7 fun b hb o e => (I'.pin (b, o) (List.mem_append_right _ (List.mem_append_right _ (Zt hb e)))).1, fun b hb => ?_, w'⟩
    obtain ⟨o, e, d⟩ := T.obj _ _ st7 b hb
    exact (I'.pin (b, o) (List.mem_append_right _ (List.mem_append_right _ (Zt hb e)))).2.1
   cases b with
   | false =>
    obtain ⟨m', hm, w'⟩ := (show ∃ m', m' < n /\ W (i + 1) m' σ8 H9 from q9)
    exact again I9 hm w'
   | true =>
    refine thn (he _ _ _ _ _ s9 σ8 H9 _ I9 q9) fun v s10 ⟨y, H10, I10, r10, q10⟩ => ?_
    obtain ⟨xs, hx, hl, m', hm, w'⟩ := q10
    refine thn (jv _ s10 σ8 H10 (.ref s.heap.objs.size) [y] (.ref s.heap.objs.size) [v] (fun _ H' => W (i + 1) m' σ8 H') I10 rfl (.cons r10 .nil) ⟨_, xs, y, rfl, rfl, hx, hl, w'⟩) fun _ s11 ⟨_, H11, I11, _, q11⟩ => ?_
    exact again I11 hm q11
 exact codeAny_compStart_list loop (T.self _ _ _ _ _ st4 loop)
theorem zW {elt tg iter : Expr} {ifs : List Expr} {pos : Pos} {wi : TI} {g : TG} {tt : TT} {te : TE} (S : zN X.N X.env.scope N' ix scope) (hc : X.calm = true) (hi : PI X tg iter wi)
  (hg : ∀ C fp s₀ H₀, PG (qS X N' scope C fp s₀ H₀) tg g) (ht : ∀ C fp s₀ H₀, PF (qS X N' scope C fp s₀ H₀) ifs tt) (he : ∀ C fp s₀ H₀, PE (qS X N' scope C fp s₀ H₀) elt te)
  (hs : ∀ x, foldedSetIterable iter X.env x = pure x := by intro _; rfl) : PE X (.ListComp elt [⟨tg, iter, ifs, 0⟩] scope pos) (tComp ix wi g tt te) := by
 intro pins s σ H Q I h
 rw [eval_ListComp]
 refine wpAny_comprehension_free (use := none) rfl hs (Jw (S.has I.ok)) S.kind S.locs (thn (hi pins s σ H _ I h) fun v s1 h1 => thn h1 fun itv s2 h2 => ?_)
 obtain ⟨it, fp, tn, J, H2, e, I2, T, st2, f2, q⟩ := h2
 subst e
 refine Jy (Z := fun acc C => compPost (model X.prog X.w) X.A X.xe none (EP X pins σ Q) acc C) S hc hg ht he I2 T st2 f2 q ?_
 intro D C H' s' m I' hn hC hz qD
 refine ⟨m, hn, fun h' sb => ?_⟩
 have I'' : Inv X pins σ H' { s' with heap := h', toks := s'.toks } := I'.turned (it := C) (fun b o hb e => (sb.2 b hb).trans e) hC (fun z => absurd (Nat.lt_of_lt_of_le I2.lt (by rw [<- z]; exact hz)) (Nat.lt_irrefl _))
  (.inr (Nat.le_trans I2.sz hz)) (fun x c e z => by obtain ⟨v, w⟩ := I2.cell x c e; exact absurd (Nat.lt_of_lt_of_le w.lt (by rw [z]; exact hz)) (Nat.lt_irrefl _)) (fun p hp z => absurd (Nat.lt_of_lt_of_le (Heap.lt_size (I2.pin p hp).1) (by rw [z]; exact hz)) (Nat.lt_irrefl _))
 exact ⟨.ref D, H', I'', rfl, qD⟩
theorem Qi {i : Nat} {y : Str} {py spos : Pos} {elt tg iter : Expr} {ifs : List Expr} {pos : Pos} {wi : TI} {g : TG} {tt : TT} {te : TE} (S : zN X.N X.env.scope N' ix scope) (hc : X.calm = true) (hi : PI X tg iter wi)
  (hg : ∀ C fp s₀ H₀, PG (qS X N' scope C fp s₀ H₀) tg g) (ht : ∀ C fp s₀ H₀, PF (qS X N' scope C fp s₀ H₀) ifs tt) (he : ∀ C fp s₀ H₀, PE (qS X N' scope C fp s₀ H₀) elt te)
  (hN : X.N.Nodup) (hy : X.N[i]? = some y) (hl : X.env.scope.names.lookup y = some .local) (hsw : swapsWith (.ListComp elt [⟨tg, iter, ifs, 0⟩] scope pos) (some (.Name y py)) spos.line X.env = pure true)
  (hs : ∀ x, foldedSetIterable iter X.env x = pure x := by intro _; rfl) : PS X (.Assign [.Name y py] (.ListComp elt [⟨tg, iter, ifs, 0⟩] scope pos) spos) (tAsg (tComp ix wi g tt te) (Za i)) := by
 intro pins s σ H D I h
 rw [exec_Assign_Name_used _ _ _ _ hsw]
 refine wpAny_bind (wpAny_standAt (wpAny_bind ?_))
 rw [arm_evalThenUse_ListComp]
 refine wpAny_bind (thn (wpAny_comprehension_free (use := some (assign (.Name y py) X.env)) (Q := fun _ s' => SP X pins D .next s') rfl hs (Jw (S.has I.ok)) S.kind S.locs
  (thn (hi pins s σ H _ I h) fun v s1 h1 => thn h1 fun itv s2 h2 => ?_)) fun _ s' q => wpAny_pure (wpAny_pure q))
 obtain ⟨it, fp, tn, J, H2, e, I2, T, st2, f2, q⟩ := h2
 subst e
 refine Jy (Q := fun x H1 => Za i x σ H1 D.nx) (Z := fun acc C => compPost (model X.prog X.w) X.A X.xe (some (assign (.Name y py) X.env)) (fun _ s' => SP X pins D .next s') acc C) S hc hg ht he I2 T st2 f2 q ?_
 intro Dl C H' s' m I' hn hC hz qD
 have neL : C ≠ X.env.locals := fun z => absurd (Nat.lt_of_lt_of_le I2.lt (by rw [<- z]; exact hz)) (Nat.lt_irrefl _)
 have neC : ∀ x c, X.env.cells.lookup x = some c -> c ≠ C := fun x c e z => by obtain ⟨v, w⟩ := I2.cell x c e; exact absurd (Nat.lt_of_lt_of_le w.lt (by rw [z]; exact hz)) (Nat.lt_irrefl _)
 show wpAny (model X.prog X.w) X.A (assign (.Name y py) X.env (.ref Dl)) _ X.xe s'
 refine wpAny_assign_Name (wD I' hN hy (.inl hl) (show RelV (.ref Dl) (.ref Dl) from rfl) (fun s'' J' ⟨a, sb, ha⟩ => ?_) (.inr hl))
 have na : C ≠ a := by
  rcases ha with z | z
  ·rw [z]; exact neL
  ·exact Ne.symm (neC y a z)
 refine ⟨m, hn.sameBut sb na, fun h' sb' => ?_⟩
 have I'' : Inv X pins (σ.set i (some (.ref Dl))) H' { s'' with heap := h', toks := s''.toks } := J'.turned (it := C) (fun b o hb e => (sb'.2 b hb).trans e) hC neL (.inr (Nat.le_trans I2.sz hz)) neC
  (fun p hp z => absurd (Nat.lt_of_lt_of_le (Heap.lt_size (I2.pin p hp).1) (by rw [z]; exact hz)) (Nat.lt_irrefl _))
 exact ⟨_, H', I'', qD⟩
end
end L2
namespace L2
open PySem PySem.Spec PyProof.Rows
theorem bt_abs : bootBuiltins "abs" = some (.builtin "abs") := by decide +kernel
theorem jl : bootBuiltins "len" = some (.builtin "len") := by decide +kernel
theorem bt_sum : bootBuiltins "sum" = some (.builtin "sum") := by decide +kernel
theorem wR : bootBuiltins "all" = some (.builtin "all") := by decide +kernel
theorem zJ : bootBuiltins "isinstance" = some (.builtin "isinstance") := by decide +kernel
theorem bt_int : bootBuiltins "int" = some (.type "int") := by decide +kernel
theorem bt_bool : bootBuiltins "bool" = some (.type "bool") := by decide +kernel
theorem Jz : bootBuiltins "str" = some (.type "str") := by decide +kernel
theorem jJ : bootBuiltins "tuple" = some (.type "tuple") := by decide +kernel
theorem Zd : bootBuiltins "list" = some (.type "list") := by decide +kernel
def Def (P : Program) (w : World) (K : PySem.W.Frag) (mg : Str -> Option Value) (base : Heap) (k : Nat) (x : Str) (ps : List Str) (sp : Sp) : Prop :=
 ∃ (f : Addr) (fd : FuncData), jT P w K mg base CX0 k f fd ps sp /\ mg x = some (.ref f) /\ PySem.W.keepIn K (.ref f) = true /\ Binds K fd ps []
section
variable {X : Cx}
theorem zq {k k' : Nat} {x : Str} {ps : List Str} {sp : Sp} {e : Expr} {es : List Expr} {t : TA} {p pos : Pos} (D : Def X.prog X.w X.K X.mg X.base k x ps sp) (hr : ZS k' X.A) (hk : k <= k') (hg : Gl X x) (ha : PA X (e :: es) t)
  (hdb : (x == ("__debug__" : Str)) = false := by decide) (he : starEach (e :: es) X.env = (false, eval e X.env) :: starEach es X.env := by rfl) (hpl : (backTo pos (starEach es X.env)).any (·.1) = false := by rfl) :
  PE X (.Call (.Name x p) (e :: es) [] pos) (tCall sp [] E0 t) := by
 obtain ⟨f, fd, F, m, kp, b⟩ := D
 exact pe_call F (hr.mono hk) hg m kp b .nil pass0 ha hdb he hpl
theorem JA {ys : List Str} : ∀ {us : List Value}, qo (ys.map V.str) us -> StrsAre us ys := by
 induction ys with
 | nil => intro us r; rw [List.map_nil] at r; cases r; exact .nil
 | cons y ys ih =>
  intro us r
  rw [List.map_cons] at r
  cases r with
  | cons r1 r2 =>
   obtain ⟨t, e⟩ := r1
   subst e
   exact .cons y t (ih r2)
def rJoin (K : PySem.W.Frag) : V -> List V -> Hp -> VK -> Prop := fun x vs H Q => ∃ z p ys, x = .str z /\ vs = [.ref p] /\ SqL K H p (ys.map V.str) /\ (ys.map (·.length)).sum + ys.length * z.length <= 16777216 /\ Q (.str (PySem.Txt.join z ys)) H
theorem mt_join : MtR X "str.join" (rJoin X.K) := by
 intro pins s σ H x vs v us Q I rx rv h
 obtain ⟨z, p, ys, rfl, rfl, hq, hz, q⟩ := h
 obtain ⟨t, rfl⟩ := rx
 obtain ⟨u, rfl, ru⟩ := vals1 rv
 cases ru
 obtain ⟨its, r, pl, _⟩ := I.list hq
 exact join_list pl.isList (JA r) hz fun t' k => ⟨.str _, H, I.tok k, ⟨_, rfl⟩, q⟩
theorem call_sum (hc : X.calm = true) : jf X (.builtin "sum") (fun xs H Q => ∃ (p : Addr) (ns : List Int), xs = [.ref p] /\ SqL X.K H p (ns.map V.int) /\ Q (.int ns.sum) H) := by
 intro pins s σ H xs us Q I r h
 obtain ⟨p, ns, rfl, hq, q⟩ := h
 obtain ⟨u, rfl, ru⟩ := vals1 r
 cases ru
 obtain ⟨its, rv, pl, _⟩ := I.list hq
 have hi : IntsAre its ns := intsAre_of rv
 obtain ⟨ys, hys⟩ := (hi.allInts).items
 refine sum_intListG (xs := ys) (I.ok.hd hc) (by rw [<- hys]; exact pl.isList) fun h' tk t' hk => ⟨.int _, H, I.kept hk, ⟨t', rfl⟩, ?_⟩
 have e1 : (numsOf its).sum = preSum (numAt ys) ys.size := by
  have e2 : numsOf its.toArray.toList = numsOf (intItems ys).toList := by rw [hys]
  have e3 : numsOf its = numsOf (intItems ys).toList := e2
  rw [e3, nums_intItems, preSum_eq, List.take_of_length_le (by simp)]
 rw [<- e1, hi.numsOf]
 exact q
theorem Y1 : jf X (.builtin "isinstance") (fun xs H Q => ∃ x n t b, xs = [x, .ty n] /\ ye X.K H x t /\ PySem.W.kitOne X.K t (.type n) = some b /\ Q (.bl b) H) := by
 intro pins s σ H xs us Q I r h
 obtain ⟨x, n, t, b, rfl, ty, e, q⟩ := h
 obtain ⟨u, w', rfl, r1, r2⟩ := vals2 r
 cases r2
 exact YQ I r1 ty e fun tk => ⟨.bl b, H, I.tok tk, rfl, q⟩
theorem qI {K : PySem.W.Frag} (n : String) : PySem.W.kitOne K (.type n) (.type n) = some true := by simp [PySem.W.kitOne]
theorem wS {K : PySem.W.Frag} : PySem.W.kitOne K (.type "int") (.type "bool") = some false := by rfl
def Its (z : Str) : It := ⟨fun i _ => i < z.cps.size, fun i H x H' => H' = H /\ ∃ c, z.cps[i]? = some c /\ x = .str ⟨#[c]⟩, fun i _ => z.cps.size <= i⟩
def iStr (tl : TE) : TI := fun σ H R => tl σ H fun x H1 => ∃ z, x = .str z /\ R (Its z) H1
theorem turn_str {P : Program} {w : World} {K : PySem.W.Frag} {tg : Expr} {z : Str} {tk : Tok} {it : Addr} {ty : String} (hty : ty = "str_ascii_iterator" \/ ty = "str_iterator") :
  Turn P w K tg (Its z) [it] it (fun i h => h.IsStrIter it ty z tk i /\ i <= z.cps.size) where
 mem := by simp
 obj := fun i h st b hb => by
  have e : b = it := by simpa using hb
  subst e
  obtain ⟨⟨o, h1, h2, h3⟩, _⟩ := st
  exact ⟨o, h1, fun v q => by rw [h3] at q; cases q⟩
 keep := fun i h h' st k => by
  obtain ⟨⟨o, h1, h2⟩, h3⟩ := st
  exact ⟨⟨o, k it (by simp) o h1, h2⟩, h3⟩
 item := by
  intro X hP hw hK hc i pins s σ H E I hf st hg
  subst hP hw hK
  obtain ⟨f0, f1, f2, f3, f4, f5⟩ := hf it (by simp)
  have fin : ∀ (v : Value) (h' : Heap) (tk' : Nat), SignAt z i v -> h'.IsStrIter it ty z tk (i + 1) -> (∀ b o, b ∉ [it] -> s.heap.get? b = some o -> h'.get? b = some o) ->
    ∃ u, some v = some u /\ wpAny (model X.prog X.w) X.A (letOwnedTupleGo tg (.ref it) u) (fun _ s2 => ∃ x H', Inv X pins σ H' s2 /\ RelV x u /\ (Its z).yld i H x H' /\ (s2.heap.IsStrIter it ty z tk (i + 1) /\ i + 1 <= z.cps.size) /\ ∀ b ∈ [it], H' b = none) E { s with heap := h', toks := tk' } := by
   intro v h' tk' hv st' kk
   obtain ⟨c, t, hcx, rfl⟩ := hv
   have I1 : Inv X pins σ H { s with heap := h', toks := tk' } := I.turned (fun b o hb e => kk b o (by simpa using hb) e) f0 f1 f3 f4 f5
   obtain ⟨o, h1, h2, h3⟩ := id st'
   refine ⟨_, rfl, YF (s := { s with heap := h', toks := tk' }) (n := ty) h1 h2 h3 ?_ ⟨.str ⟨#[c]⟩, H, I1, ⟨t, rfl⟩, ⟨rfl, c, hcx, rfl⟩, ⟨st', hg⟩, fun b hb => (hf b hb).1⟩⟩
   rcases hty with rfl | rfl <;> decide
  rcases hty with rfl | rfl
  ·exact (Walks.strAscii (I.ok.hd hc) it z tk).item i s _ _ hg st.1 fun v h' tk' hv st' kk => fin v h' tk' hv st' kk
  ·exact (Walks.strWide (I.ok.hd hc) it z tk).item i s _ _ hg st.1 fun v h' tk' hv st' kk => fin v h' tk' hv st' kk
 done := by
  intro X hP hw hK hc i pins s σ H E I hf st hg
  subst hP hw hK
  obtain ⟨f0, f1, f2, f3, f4, f5⟩ := hf it (by simp)
  have e : i = z.cps.size := Nat.le_antisymm st.2 hg
  subst e
  rcases hty with rfl | rfl
  ·exact (Walks.strAscii (I.ok.hd hc) it z tk).done s _ _ st.1 fun h' tk' kk => ⟨rfl, I.turned (fun b o hb e => kk b o (by simpa using hb) e) f0 f1 f3 f4 f5⟩
  ·exact (Walks.strWide (I.ok.hd hc) it z tk).done s _ _ st.1 fun h' tk' kk => ⟨rfl, I.turned (fun b o hb e => kk b o (by simpa using hb) e) f0 f1 f3 f4 f5⟩
 self := fun A i s Q E st h => by
  rcases hty with rfl | rfl
  ·exact wpAny_pyIter_striter_ascii st.1 h
  ·exact wpAny_pyIter_striter_wide st.1 h
theorem pi_str {tg l : Expr} {tl : TE} (hl : PE X l tl) : PI X tg l (iStr tl) := by
 intro pins s σ H R I h
 refine thn (hl pins s σ H _ I h) fun v s1 ⟨x, H1, I1, r1, q1⟩ => ?_
 obtain ⟨z, rfl, q⟩ := q1
 obtain ⟨t, rfl⟩ := r1
 have fin : ∀ ty : String, ty = "str_ascii_iterator" \/ ty = "str_iterator" -> PIE X pins σ tg R (.ref s1.heap.objs.size) { s1 with heap := s1.heap.push { cls := .type ty, data := .fields #[.str z t, .int 0 0] } } := fun ty hty => by
  refine ⟨s1.heap.objs.size, [s1.heap.objs.size], _, _, H1, rfl, I1.kept (t' := s1.toks) fun b o e => Heap.get?_push_of_some _ e, turn_str (z := z) (tk := t) hty, ⟨⟨_, Heap.get?_push_size _ rfl, rfl, rfl⟩, Nat.zero_le _⟩, fun b hb => ?_, q⟩
  have e : b = s1.heap.objs.size := by simpa using hb
  subst e
  exact I1.fpOk (Nat.le_refl _) (I1.hok.fresh (Nat.le_refl _))
 cases ha : z.cps.all (· < 128)
 ·exact wpAny_pyIter_wide ha (fin _ (.inr rfl))
 ·exact wpAny_pyIter_ascii ha (fin _ (.inl rfl))
def rSlS : V -> Option Int -> Option Int -> Hp -> VK -> Prop := fun x lo hi H Q => ∃ z, x = .str z /\ z.length <= sizeLine /\ Q (.str (PySem.Txt.slice z lo hi)) H
theorem sl_str : SlR X rSlS := by
 intro pins s σ H x v vl vu lo hi sl Q I rx hs pl pu h
 obtain ⟨z, rfl, hz, q⟩ := h
 obtain ⟨t, rfl⟩ := rx
 refine ⟨"str", _, F.slot_str_getitem.lookup, typeIs_str _ _ _, ?_⟩
 cases pl with
 | none =>
  cases pu with
  | none => exact wpAny_getItem_str_slice (l := none) (u := none) (st := none) hs rfl (post_val_or_str ⟨Nat.le_trans (PySem.Txt.slice_le z _ _) hz, fun t' k => ⟨.str _, H, I.tok k, ⟨t', rfl⟩, q⟩⟩)
  | int j uj => exact wpAny_getItem_str_slice (l := none) (u := some (j, uj)) (st := none) hs rfl (post_val_or_str ⟨Nat.le_trans (PySem.Txt.slice_le z _ _) hz, fun t' k => ⟨.str _, H, I.tok k, ⟨t', rfl⟩, q⟩⟩)
 | int i ui =>
  cases pu with
  | none => exact wpAny_getItem_str_slice (l := some (i, ui)) (u := none) (st := none) hs rfl (post_val_or_str ⟨Nat.le_trans (PySem.Txt.slice_le z _ _) hz, fun t' k => ⟨.str _, H, I.tok k, ⟨t', rfl⟩, q⟩⟩)
  | int j uj => exact wpAny_getItem_str_slice (l := some (i, ui)) (u := some (j, uj)) (st := none) hs rfl (post_val_or_str ⟨Nat.le_trans (PySem.Txt.slice_le z _ _) hz, fun t' k => ⟨.str _, H, I.tok k, ⟨t', rfl⟩, q⟩⟩)
theorem sl_any : SlR X (fun x lo hi H Q => rSlL X.K x lo hi H Q \/ (rSlT X.K x lo hi H Q \/ rSlS x lo hi H Q)) := sl_list.or (sl_tup.or sl_str)
end
end L2
namespace L2
open PySem PySem.Spec PyProof.Rows
def cW (R : St -> Prop) (P : Nat -> List V -> Hp -> Prop) (n : Nat) (D : Addr) : Nat -> Nat -> St -> Hp -> Prop := fun i m σ' H => m = n - i /\ i <= n /\ R σ' /\ ∃ ys, P i ys H /\ H D = some (.lst ys)
def cYes (R : St -> Prop) (P : Nat -> List V -> Hp -> Prop) (n : Nat) (D : Addr) (σ : St) (i : Nat) : VK := fun v H5 => ∃ xs, H5 D = some (.lst xs) /\ xs.length < sizeLine /\ ∃ m', m' < n - i /\ cW R P n D (i + 1) m' σ (upd H5 D (.lst (xs ++ [v])))
def cNo (R : St -> Prop) (P : Nat -> List V -> Hp -> Prop) (n : Nat) (D : Addr) (σ : St) (i : Nat) : Hp -> Prop := fun H4 => ∃ m', m' < n - i /\ cW R P n D (i + 1) m' σ H4
theorem wA {R : St -> Prop} {P : Nat -> List V -> Hp -> Prop} {n : Nat} {D : Addr} {σ : St} {i : Nat} {ys : List V} {v : V} {H : Hp} (hi : i < n) (r : R σ) (h : H D = some (.lst ys)) (hl : ys.length < sizeLine) (p : P (i + 1) (ys ++ [v]) (upd H D (.lst (ys ++ [v])))) : cYes R P n D σ i v H :=
 ⟨ys, h, hl, n - (i + 1), by omega, rfl, hi, r, _, p, zd⟩
theorem cno {R : St -> Prop} {P : Nat -> List V -> Hp -> Prop} {n : Nat} {D : Addr} {σ : St} {i : Nat} {ys : List V} {H : Hp} (hi : i < n) (r : R σ) (h : H D = some (.lst ys)) (p : P (i + 1) ys H) : cNo R P n D σ i H :=
 ⟨n - (i + 1), by omega, rfl, hi, r, _, p, h⟩
theorem Zu {J : It} {g : TG} {tt : TT} {te : TE} {σ0 : St} {H1 : Hp} {Q : VK} {D : Addr} {n : Nat} {xv : Nat -> V} {st : Nat -> St} (R : St -> Prop) (P : Nat -> List V -> Hp -> Prop) (r0 : R σ0) (h0 : P 0 [] (upd H1 D (.lst [])))
  (hj : ∀ i ys H, i < n -> P i ys H -> H D = some (.lst ys) -> J.go i H /\ ∀ x H2, J.yld i H x H2 -> H2 = H /\ x = xv i) (he : ∀ ys H, P n ys H -> H D = some (.lst ys) -> J.stop n H)
  (hg : ∀ i ys σ' H (K : St -> Hp -> Prop), i < n -> R σ' -> P i ys H -> K (st i) H -> g (xv i) σ' H K)
  (hs : ∀ i ys H, i < n -> P i ys H -> H D = some (.lst ys) -> tt (st i) H fun b H4 => if b = true then te (st i) H4 (cYes R P n D (st i) i) else cNo R P n D (st i) i H4)
  (hd : ∀ ys H, P n ys H -> H D = some (.lst ys) -> Q (.ref D) H) :
  ZA J g tt te σ0 H1 Q D := by
 refine ⟨cW R P n D, ⟨n, by simp [cW, r0]; exact ⟨_, h0, zd⟩⟩, ?_⟩
 rintro i m σ' H' ⟨rfl, hi, r, ys, p, hD⟩
 by_cases hlt : i < n
 ·obtain ⟨g1, g2⟩ := hj i ys H' hlt p hD
  refine .inr ⟨g1, fun x H2 y => ?_⟩
  obtain ⟨rfl, rfl⟩ := g2 x H2 y
  exact hg i ys σ' H2 _ hlt r p (hs i ys H2 hlt p hD)
 ·have e : i = n := by omega
  subst e
  exact .inl ⟨he ys H' p hD, hd ys H' p hD⟩
def wT (t : Nat) (σ0 : St) : St -> Prop := fun σ' => ∀ v, σ'.set t v = σ0.set t v
theorem Y2 {t : Nat} {σ0 : St} : wT t σ0 σ0 := fun _ => rfl
theorem jU {t : Nat} {σ0 : St} {x : Option V} : wT t σ0 (σ0.set t x) := fun v => by rw [List.set_set]
theorem jV {t : Nat} {tt : TT} {te : TE} {σ0 : St} {H1 : Hp} {Q : VK} {D : Addr} {lo : Int} {n : Nat} (P : Nat -> List V -> Hp -> Prop) (h0 : P 0 [] (upd H1 D (.lst [])))
  (hs : ∀ i ys H, i < n -> P i ys H -> H D = some (.lst ys) -> tt (σ0.set t (some (.int (lo + i)))) H fun b H4 => if b = true then te (σ0.set t (some (.int (lo + i)))) H4 (cYes (wT t σ0) P n D (σ0.set t (some (.int (lo + i)))) i) else cNo (wT t σ0) P n D (σ0.set t (some (.int (lo + i)))) i H4)
  (hd : ∀ ys H, P n ys H -> H D = some (.lst ys) -> Q (.ref D) H) :
  ZA (Itr lo n) (Za t) tt te σ0 H1 Q D :=
 Zu (xv := fun i => .int (lo + i)) (st := fun i => σ0.set t (some (.int (lo + i)))) (wT t σ0) P Y2 h0 (fun i _ H hi _ _ => ⟨hi, fun x H2 y => y⟩) (fun _ _ _ _ => Nat.le_refl n)
  (fun i _ σ' H K _ r _ k => by show K (σ'.set t (some (.int (lo + i)))) H; rw [r]; exact k) hs hd
theorem jz {K : PySem.W.Frag} {a : Addr} {xs : List V} {t : Nat} {tt : TT} {te : TE} {σ0 : St} {H1 : Hp} {Q : VK} {D : Addr} (P : Nat -> List V -> Hp -> Prop) (h0 : P 0 [] (upd H1 D (.lst []))) (hl : ∀ i ys H, P i ys H -> H D = some (.lst ys) -> SqL K H a xs)
  (hs : ∀ i ys H x, xs[i]? = some x -> P i ys H -> H D = some (.lst ys) -> tt (σ0.set t (some x)) H fun b H4 => if b = true then te (σ0.set t (some x)) H4 (cYes (wT t σ0) P xs.length D (σ0.set t (some x)) i) else cNo (wT t σ0) P xs.length D (σ0.set t (some x)) i H4)
  (hd : ∀ ys H, P xs.length ys H -> H D = some (.lst ys) -> Q (.ref D) H) :
  ZA (Itl K a) (Za t) tt te σ0 H1 Q D := by
 have get : ∀ i, i < xs.length -> xs[i]? = some (xs.getD i .non) := fun i hi => by simp [List.getD, hi]
 refine Zu (xv := fun i => xs.getD i .non) (st := fun i => σ0.set t (some (xs.getD i .non))) (wT t σ0) P Y2 h0 (fun i ys H hi p hD => ⟨⟨xs, _, hl i ys H p hD, get i hi⟩, fun x H2 y => ⟨y.1, ?_⟩⟩) (fun ys H p hD => ⟨xs, hl _ ys H p hD, Nat.le_refl _⟩)
  (fun i _ σ' H K _ r _ k => by show K (σ'.set t (some (xs.getD i .non))) H; rw [r]; exact k) (fun i ys H hi p hD => hs i ys H _ (get i hi) p hD) hd
 have e := y.2 xs (hl i ys H p hD)
 rw [get i hi] at e
 exact (Option.some.inj e).symm
theorem comp_tup {K : PySem.W.Frag} {a : Addr} {xs : List V} {t : Nat} {tt : TT} {te : TE} {σ0 : St} {H1 : Hp} {Q : VK} {D : Addr} (P : Nat -> List V -> Hp -> Prop) (h0 : P 0 [] (upd H1 D (.lst []))) (hl : ∀ i ys H, P i ys H -> H D = some (.lst ys) -> SqT K H a xs)
  (hs : ∀ i ys H x, xs[i]? = some x -> P i ys H -> H D = some (.lst ys) -> tt (σ0.set t (some x)) H fun b H4 => if b = true then te (σ0.set t (some x)) H4 (cYes (wT t σ0) P xs.length D (σ0.set t (some x)) i) else cNo (wT t σ0) P xs.length D (σ0.set t (some x)) i H4)
  (hd : ∀ ys H, P xs.length ys H -> H D = some (.lst ys) -> Q (.ref D) H) :
  ZA (Itt K a) (Za t) tt te σ0 H1 Q D := by
 have get : ∀ i, i < xs.length -> xs[i]? = some (xs.getD i .non) := fun i hi => by simp [List.getD, hi]
 refine Zu (xv := fun i => xs.getD i .non) (st := fun i => σ0.set t (some (xs.getD i .non))) (wT t σ0) P Y2 h0 (fun i ys H hi p hD => ⟨⟨xs, _, hl i ys H p hD, get i hi⟩, fun x H2 y => ⟨y.1, ?_⟩⟩) (fun ys H p hD => ⟨xs, hl _ ys H p hD, Nat.le_refl _⟩)
  (fun i _ σ' H K _ r _ k => by show K (σ'.set t (some (xs.getD i .non))) H; rw [r]; exact k) (fun i ys H hi p hD => hs i ys H _ (get i hi) p hD) hd
 have e := y.2 xs (hl i ys H p hD)
 rw [get i hi] at e
 exact (Option.some.inj e).symm
theorem yh {z : Str} {t : Nat} {tt : TT} {te : TE} {σ0 : St} {H1 : Hp} {Q : VK} {D : Addr} (P : Nat -> List V -> Hp -> Prop) (h0 : P 0 [] (upd H1 D (.lst [])))
  (hs : ∀ i ys H c, z.cps[i]? = some c -> P i ys H -> H D = some (.lst ys) -> tt (σ0.set t (some (.str ⟨#[c]⟩))) H fun b H4 => if b = true then te (σ0.set t (some (.str ⟨#[c]⟩))) H4 (cYes (wT t σ0) P z.cps.size D (σ0.set t (some (.str ⟨#[c]⟩))) i) else cNo (wT t σ0) P z.cps.size D (σ0.set t (some (.str ⟨#[c]⟩))) i H4)
  (hd : ∀ ys H, P z.cps.size ys H -> H D = some (.lst ys) -> Q (.ref D) H) :
  ZA (Its z) (Za t) tt te σ0 H1 Q D := by
 have get : ∀ i, i < z.cps.size -> z.cps[i]? = some (z.cps.getD i 0) := fun i hi => by simp [Array.getD, hi]
 refine Zu (xv := fun i => .str ⟨#[z.cps.getD i 0]⟩) (st := fun i => σ0.set t (some (.str ⟨#[z.cps.getD i 0]⟩))) (wT t σ0) P Y2 h0 (fun i ys H hi p hD => ⟨hi, fun x H2 y => ⟨y.1, ?_⟩⟩) (fun ys H p hD => Nat.le_refl _)
  (fun i _ σ' H K _ r _ k => by show K (σ'.set t (some (.str ⟨#[z.cps.getD i 0]⟩))) H; rw [r]; exact k) (fun i ys H hi p hD => hs i ys H _ (get i hi) p hD) hd
 obtain ⟨c, e, ex⟩ := y.2
 rw [get i hi] at e
 rw [ex, <- Option.some.inj e]
end L2
namespace L2
open PySem PySem.Spec PyProof.Rows
theorem yes {σ : St} {H : Hp} {A B : Hp -> Prop} (h : A H) : tYes σ H fun b H4 => if b = true then A H4 else B H4 := by
 show if true = true then A H else B H
 rw [if_pos rfl]
 exact h
end L2
namespace L2
open PySem PySem.Spec PyProof.Rows
section
variable {X : Cx} (K : PySem.W.Frag)
theorem zj (hK : X.K = K := by rfl) : IxR X (rIx K) := hK ▸ ix_seq
theorem jp (hK : X.K = K := by rfl) : OpR X (compareOp .In) (rIn K false) := hK ▸ YV
theorem ZV (hK : X.K = K := by rfl) : OpR X (compareOp .NotIn) (rIn K true) := hK ▸ wM
theorem Y3 (hK : X.K = K := by rfl) : SlR X (fun x lo hi H Q => rSlL K x lo hi H Q \/ (rSlT K x lo hi H Q \/ rSlS x lo hi H Q)) := hK ▸ sl_any
theorem kmt_join (hK : X.K = K := by rfl) : MtR X "str.join" (rJoin K) := hK ▸ mt_join
theorem zY (hK : X.K = K := by rfl) : jf X (.builtin "len") (fun xs H Q => ∃ x n, xs = [x] /\ LenV K x H n /\ Q (.int n) H) := hK ▸ call_len
theorem jn (hK : X.K = K := by rfl) : jf X (.type "list") (fun xs H Q => ∃ p ys, xs = [.ref p] /\ (SqL K H p ys \/ SqT K H p ys) /\ ∀ l, H l = none -> Q (.ref l) (upd H l (.lst ys))) := hK ▸ wO
theorem qH (hK : X.K = K := by rfl) : jf X (.type "tuple") (fun xs H Q => ∃ p ys, xs = [.ref p] /\ ((SqL K H p ys /\ ∀ l, H l = none -> Q (.ref l) (upd H l (.tup ys))) \/ (SqT K H p ys /\ Q (.ref p) H))) := hK ▸ JY
theorem Y4 (hc : X.calm = true) (hK : X.K = K := by rfl) : jf X (.builtin "sum") (fun xs H Q => ∃ (p : Addr) (ns : List Int), xs = [.ref p] /\ SqL K H p (ns.map V.int) /\ Q (.int ns.sum) H) := hK ▸ call_sum hc
theorem qc (hK : X.K = K := by rfl) : jf X (.builtin "isinstance") (fun xs H Q => ∃ x n t b, xs = [x, .ty n] /\ ye K H x t /\ PySem.W.kitOne K t (.type n) = some b /\ Q (.bl b) H) := hK ▸ Y1
theorem zH {tg l : Expr} {tl : TE} (hl : PE X l tl) (hK : X.K = K := by rfl) : PI X tg l (iList K tl) := hK ▸ pi_list hl
theorem ZK {tg l : Expr} {tl : TE} (hl : PE X l tl) (hK : X.K = K := by rfl) : PI X tg l (iTup K tl) := hK ▸ pi_tup hl
theorem ZB {o e : Expr} {es : List Expr} {to : TE} {t : TA} {name : Str} {apos cpos : Pos} {T id : String} {r : V -> List V -> Hp -> VK -> Prop} (pa : PlainAttrs T) (slot : Slot T name id) (hty : typeOf (.builtin id) = pure (.type "method_descriptor")) (hm : MtR X id r) (ho : PE X o to) (ha : PA X (e :: es) t)
  (hbase : attributeBase o name X.env (eval o X.env) = eval o X.env := by rfl)
  (hfew : ((backTo cpos (starEach (e :: es) X.env)).all (fun x => !x.1) && (backToKw cpos (keywordEach [] X.env)).all (fun x => x.1.isSome)
   && decide ((e :: es).length + ([] : List Keyword).length + (if ([] : List Keyword).isEmpty then 0 else 1) < 30)) = true := by rfl)
  (hline : (apos.endLine == cpos.line) = true := by rfl) (hs : starEach (e :: es) X.env = (false, eval e X.env) :: starEach es X.env := by rfl) (hplain : (backTo cpos (starEach es X.env)).any (·.1) = false := by rfl) (hK : X.K = K := by rfl) :
  PE X (.Call (.Attribute o name apos) (e :: es) [] cpos) (tBM K T r to t) := hK ▸ pe_bm pa slot hty hm ho ha hbase hfew hline hs hplain
theorem kpe_bm0 {o : Expr} {to : TE} {name : Str} {apos cpos : Pos} {T id : String} {r : V -> List V -> Hp -> VK -> Prop} (pa : PlainAttrs T) (slot : Slot T name id) (hty : typeOf (.builtin id) = pure (.type "method_descriptor")) (hm : MtR X id r) (ho : PE X o to)
  (hbase : attributeBase o name X.env (eval o X.env) = eval o X.env := by rfl) (hline : (apos.endLine == cpos.line) = true := by rfl) (hK : X.K = K := by rfl) : PE X (.Call (.Attribute o name apos) [] [] cpos) (tBM0 K T r to) := hK ▸ pe_bm0 pa slot hty hm ho hbase hline
theorem QP {es : List Expr} {k : Nat} {pos : Pos} {t : TGs} {n : Nat} (hc : X.calm = true) (h : PGs X es t) (hn : (assignEach es X.env).length = n := by rfl) (hst : (assignEach es X.env).findIdx? (·.1) = none := by rfl) (hK : X.K = K := by rfl) : PG X (.Tuple es k pos) (gTup K n t) := hK ▸ pg_tup hc h hn hst
end
end L2
namespace L2
open PySem PySem.Spec PyProof.Rows
section
variable {X : Cx}
end
section
variable {X : Cx} {pins : List (Addr × Obj)} {σ : St} {H H' : Hp} {s s' : Shared} {h2 : Heap}
end
section
variable {P : Program} {w : World} {K : PySem.W.Frag} {mg : Str -> Option Value} {base : Heap} {N : List Str} {qual : Str} {scope : Scope} {f : Addr} {cd : Value} {A : Around} {outer : List Env} {s : Shared} {H : Hp} {E : XK}
end
section
variable {X : Cx}
end
end L2
namespace L2
open PySem PySem.Spec PyProof.Rows
section
variable {X : Cx}
end
section
variable {X : Cx} {pins : List (Addr × Obj)} {σ : St} {H : Hp} {s : Shared}
theorem Inv.adopt {e : Addr} {u : HO} (I : Inv X pins σ H s) (hn : H e = none) (h0 : X.s₀.heap.get? e = none) (nL : e ≠ X.env.locals) (nC : ∀ x c, X.env.cells.lookup x = some c -> c ≠ e) (nP : ∀ p ∈ X.pn ++ pins, p.1 ≠ e)
  (ok : qu X.prog X.w (upd H e u) s.heap e u) : Inv X pins σ (upd H e u) s := by
 have ne : ∀ {b : Addr} {v : HO}, H b = some v -> b ≠ e := fun q => zx q hn
 refine ⟨I.ok, I.os, I.bare, ⟨I.base.keep, I.base.slot, fun b o q n hx => ?_, I.base.there, fun b xs q => ?_, fun b o v q => ?_, fun b ps q => ?_⟩, I.loc, I.cell, ?_, fun x c q => ?_, fun p hp => ?_, fun a o q => ?_, I.len⟩
 ·have z : b ≠ e := fun z => by rw [z, h0] at q; cases q
  rw [zn z]
  exact I.base.free b o q n hx
 ·have q1 := I.base.tups b xs q
  rw [zn (ne q1)]
  exact q1
 ·have q1 := I.base.frzs b o v q
  rw [zn (ne q1)]
  exact q1
 ·obtain ⟨more, q1⟩ := I.base.tbls b ps q
  exact ⟨more, by rw [zn (ne q1)]; exact q1⟩
 ·rw [zn (Ne.symm nL)]
  exact I.free
 ·rw [zn (nC x c q)]
  exact I.freeC x c q
 ·obtain ⟨p1, p2, p3⟩ := I.pin p hp
  exact ⟨p1, by rw [zn (nP p hp)]; exact p2, p3⟩
 ·by_cases z : a = e
  ·subst z
   rw [zd] at q
   cases q
   exact ok
  ·rw [zn z] at q
   exact (I.hok a o q).stay (fun _ _ _ r => r) (fun c r => by rw [zn (ne r)]; exact r) fun c xs r => by rw [zn (ne r)]; exact r
end
section
variable {X : Cx} {pins : List (Addr × Obj)} {R : Value -> St -> Hp -> Prop} {e : Value} {s' : Shared}
end
section
variable {X : Cx} {pins : List (Addr × Obj)} {σ : St} {H : Hp} {s : Shared} {ea : Addr}
end
end L2
namespace L2
open PySem PySem.Spec PyProof.Rows
section
variable {X : Cx} {k k' : Nat} {x : Str} {ps : List Str} {sp : Sp} {e : Expr} {es : List Expr} {t : TA} {p pos : Pos}
end
section
variable {P : Program} {w : World} {K : PySem.W.Frag} {mg : Str -> Option Value} {base : Heap}
end
end L2
namespace L2
open PySem PySem.Spec PyProof.Rows
section
variable {prog : Program} {w : World} {A : Around} {E : Value -> Shared -> Prop} {s : Shared} {K : PySem.W.Frag} {e C : Addr} {h : Heap}
end
end L2
namespace L2
open PySem PySem.Spec PyProof.Rows
section
variable {X : Cx}
theorem yi {bs : List Bool} : ∀ {us : List Value}, qo (bs.map V.bl) us -> us = bs.map Value.bool := by
 induction bs with
 | nil => intro us r; rw [List.map_nil] at r; cases r; rfl
 | cons b bs ih =>
  intro us r
  rw [List.map_cons] at r
  cases r with
  | cons r1 r2 => rw [List.map_cons, <- ih r2]; cases r1; rfl
theorem QQ : ∀ bs : List Bool, ((List.range bs.length).all fun i => bs.getD i true) = bs.all id
 | [] => rfl
 | b :: bs => by
  have ih := QQ bs
  rw [List.length_cons, List.range_succ_eq_map, List.all_cons, List.all_map, List.all_cons, <- ih]
  rfl
theorem call_all (hc : X.calm = true) : jf X (.builtin "all") (fun xs H Q => ∃ (p : Addr) (bs : List Bool), xs = [.ref p] /\ SqL X.K H p (bs.map V.bl) /\ Q (.bl (bs.all id)) H) := by
 intro pins s σ H xs us Q I r h
 obtain ⟨p, bs, rfl, hq, q⟩ := h
 obtain ⟨u, rfl, ru⟩ := vals1 r
 cases ru
 obtain ⟨its, rv, pl, _⟩ := I.list hq
 have hl : s.heap.IsList p its.toArray := pl.isList
 have hlt : p < s.heap.objs.size := by obtain ⟨_, e, _⟩ := hl; exact Heap.lt_size e
 refine call_all_walk (wpAny_pyIter_list hl ⟨_, _, _, _, _, _, fun i => bs.getD i true, rfl, Walks.list (A := X.A.in1) (I.ok.hd hc) _ p (Nat.ne_of_lt hlt) its.toArray, ⟨⟨_, Heap.get?_push_size _ rfl, rfl, rfl⟩, hl.push _⟩, fun i v s' Q' E' hv hQ => ?_, fun h' tk hk => ⟨.bl _, H, I.kept (old_kept hk), rfl, ?_⟩⟩)
 ·have hv' : its[i]? = some v := by simpa using hv
  rw [yi rv, List.getElem?_map] at hv'
  obtain ⟨b, hb, rfl⟩ := Option.map_eq_some_iff.mp hv'
  have e : bs.getD i true = b := by simp [List.getD, hb]
  have z : Q' (bs.getD i true) s' := hQ
  rw [e] at z
  exact wpAny_truthy_bool z
 ·have e1 : its.toArray.size = bs.length := by
   have := rv.length
   rw [List.length_map] at this
   simp; omega
  rw [e1]
  have e2 := QQ bs
  rw [e2]
  exact q
theorem Ze (K : PySem.W.Frag) (hc : X.calm = true) (hK : X.K = K := by rfl) : jf X (.builtin "all") (fun xs H Q => ∃ (p : Addr) (bs : List Bool), xs = [.ref p] /\ SqL K H p (bs.map V.bl) /\ Q (.bl (bs.all id)) H) := hK ▸ call_all hc
end
end L2
namespace L2
open PySem PySem.Spec PyProof.Rows
section
variable {X : Cx} {tg : Expr}
end
end L2
namespace L2
open PySem PySem.Spec PyProof.Rows
def Y5 {α : Type} [DecidableEq α] (l : List α) (v : α) : List α := if v ∈ l then l else l ++ [v]
def QR {α : Type} [DecidableEq α] (vs : List α) : List α := vs.foldl Y5 []
theorem yj {α : Type} [DecidableEq α] {l : List α} {v x : α} : x ∈ Y5 l v ↔ x ∈ l \/ x = v := by
 unfold Y5
 split
 ·rename_i h
  constructor
  ·exact .inl
  ·rintro (z | rfl)
   ·exact z
   ·exact h
 ·simp
theorem yk {α : Type} [DecidableEq α] {l : List α} {v : α} : (Y5 l v).length = if v ∈ l then l.length else l.length + 1 := by
 unfold Y5
 split <;> simp
theorem wU {α : Type} [DecidableEq α] (vs : List α) (v : α) : QR (vs ++ [v]) = Y5 (QR vs) v := by
 unfold QR
 rw [List.foldl_append]
 rfl
theorem wV {α : Type} [DecidableEq α] : ∀ (vs l : List α), (vs.foldl Y5 l).length <= l.length + vs.length
 | [], l => Nat.le_refl _
 | v :: vs, l => by
  have h := wV vs (Y5 l v)
  rw [yk] at h
  rw [List.foldl_cons, List.length_cons]
  split at h <;> omega
theorem dedK_len {α : Type} [DecidableEq α] (vs : List α) : (QR vs).length <= vs.length := by
 have := wV vs []
 simpa [QR] using this
section
variable {prog : Program} {w : World} {A : Around} {E : Value -> Shared -> Prop} {s : Shared}
theorem Y6 : ∀ {us : List Value} {ys : List Str}, StrsAre us ys -> ∀ (i : Nat) (v : Value), us[i]? = some v -> ∃ t, v = .str (ys.getD i "") t
 | _, _, .nil, i, v, h => by simp at h
 | _, _, .cons y t r, 0, v, h => ⟨t, (Option.some.inj h).symm⟩
 | _, _, .cons y t r, i + 1, v, h => by
  obtain ⟨t', e⟩ := Y6 r i v (by simpa using h)
  exact ⟨t', by rw [e]; rfl⟩
def qa (b : Bool) : Obj := { cls := .type "set", dict := none, data := .set #[] 0 (.fresh 0 0 b) }
end
section
variable {X : Cx}
theorem ym : bootBuiltins "set" = some (.type "set") := by decide +kernel
end
end L2
namespace L2
open PySem PySem.Spec PyProof.Rows
section
variable {prog : Program} {w : World} {A : Around} {E : Value -> Shared -> Prop} {s : Shared}
variable {z TI TO i1 i2 t1 t2 : Addr} {xs ys : Array Value} {k1 k2 : Nat}
end
end L2
namespace L2
open PySem PySem.Spec PyProof.Rows
section
variable {X : Cx}
end
end L2
namespace L2
open PySem PySem.Spec PyProof.Rows
section
variable {X : Cx}
theorem wW : OpR X (compareOp .LtE) (fun x y H Q => ∃ i j, x = .str i /\ y = .str j /\ Q (.bl (!decide (j.cps.toList < i.cps.toList))) H) := by
 intro pins s σ H x y v u Q I rx ry h
 obtain ⟨i, j, rfl, rfl, q⟩ := h
 obtain ⟨t, rfl⟩ := rx
 obtain ⟨t', rfl⟩ := ry
 exact PySem.P.le_str (zV I q rfl)
end
theorem eqV_self {v : V} (h : Qh v = true) : eqV v v = true := by
 cases v with
 | non => rfl
 | bl b => simp [eqV]
 | int i => simp [eqV]
 | str x => simp [eqV]
 | _ => cases h
theorem Paired.at {α β : Type} {F : α -> β -> Prop} : ∀ {l₁ : List α} {l₂ : List β}, Paired F l₁ l₂ -> ∀ (i : Nat) (x : α) (y : β), l₁[i]? = some x -> l₂[i]? = some y -> F x y
 | _, _, .nil, i, x, y, h, _ => by simp at h
 | _, _, .cons r t, 0, x, y, h, k => by simp at h k; subst h k; exact r
 | _, _, .cons r t, i + 1, x, y, h, k => Paired.at t i x y (by simpa using h) (by simpa using k)
section
variable {X : Cx} {pins : List (Addr × Obj)} {σ : St} {H : Hp} {s : Shared}
end
end L2
namespace L2
open PySem PySem.Spec PyProof.Rows
end L2
namespace L4
open PySem L2
def jh (H : Hp) (p : Addr) : Prop := ∃ r a b : Int, H p = some (.lst [.int r, .int a, .int b])
def Off (p : Addr) (H H' : Hp) : Prop := ∀ b o, b ≠ p -> H b = some o -> H' b = some o
def Tk (H H' : Hp) : Prop := ∀ b xs, H b = some (.tup xs) -> H' b = some (.tup xs)
theorem Off.refl {p : Addr} {H : Hp} : Off p H H := fun _ _ _ h => h
theorem Off.trans {p : Addr} {H H1 H2 : Hp} (a : Off p H H1) (b : Off p H1 H2) : Off p H H2 := fun c o n h => b c o n (a c o n h)
theorem Off.put {p : Addr} {H : Hp} {o : HO} : Off p H (upd H p o) := fun c u n h => by rw [zn n]; exact h
theorem Off.new {p t : Addr} {H : Hp} {o : HO} (h : H t = none) : Off p H (upd H t o) := fun c u n q => by rw [zn (zx q h)]; exact q
theorem Off.tk {p : Addr} {H H' : Hp} (o : Off p H H') (h : jh H p) : Tk H H' := fun b xs q => by
 obtain ⟨r, a, c, e⟩ := h
 exact o b _ (wC q e (by intro z; cases z)) q
theorem Tk.trans {H H1 H2 : Hp} (a : Tk H H1) (b : Tk H1 H2) : Tk H H2 := fun c xs h => b c xs (a c xs h)
theorem Tk.new {t : Addr} {H : Hp} {o : HO} (h : H t = none) : Tk H (upd H t o) := fun c u q => by rw [zn (zx q h)]; exact q
theorem Tk.put {t : Addr} {H : Hp} {xs : List V} {o : HO} (h : H t = some (.lst xs)) : Tk H (upd H t o) := fun c u q => by rw [zn (wC q h (by intro z; cases z))]; exact q
theorem jh.put {H : Hp} {p : Addr} {r a b : Int} : jh (upd H p (.lst [.int r, .int a, .int b])) p := ⟨r, a, b, zd⟩
theorem jh.new {H : Hp} {p t : Addr} {o : HO} (h : jh H p) (n : H t = none) : jh (upd H t o) p := by
 obtain ⟨r, a, b, e⟩ := h
 exact ⟨r, a, b, by rw [zn (zx e n)]; exact e⟩
theorem jh.off {H : Hp} {p t : Addr} {o : HO} (h : jh H p) (n : p ≠ t) : jh (upd H t o) p := by
 obtain ⟨r, a, b, e⟩ := h
 exact ⟨r, a, b, by rw [zn n]; exact e⟩
def Y7 : Sp := fun vs H Q _ => ∃ c : Int, vs = [.int c] /\ ∀ p r a b, H p = none -> Q (.ref p) (upd H p (.lst [.int r, .int a, .int b]))
def ZW : Sp := fun vs H Q _ => ∃ (p : Addr) (m : Int), vs = [.ref p, .int m] /\ jh H p /\ 0 < m /\ m < 1073741824 /\ ∀ v H', 0 <= v -> v < m -> Off p H H' -> jh H' p -> Q (.int v) H'
theorem zg {H : Hp} {p : Addr} (h : H p = none) (o : HO) : zF H (upd H p o) := fun b u q => by rw [zn (zx q h)]; exact q
theorem Off.fresh {p f : Addr} {H H' : Hp} {o : HO} (h : Off p H H') (n : H f = none) : Off p H (upd H' f o) := fun b u hb q => by rw [zn (zx q n)]; exact h b u hb q
theorem Off.of {p : Addr} {H H' : Hp} (s : zF H H') : Off p H H' := fun b o _ q => s b o q
theorem Tk.of {H H' : Hp} (s : zF H H') : Tk H H' := fun b xs q => s b _ q
theorem take_snoc {α : Type} {xs : List α} {i : Nat} {x : α} (h : xs[i]? = some x) : xs.take (i + 1) = xs.take i ++ [x] := by rw [List.take_add_one, h]; rfl
theorem zu {n : Nat} (h : n <= 1000) : n <= sizeLine := Nat.le_of_lt (zr h)
end L4
namespace Fr
end Fr
namespace Fr
end Fr
namespace L4
open PySem L2
theorem _root_.L2.zF.put {H H' : Hp} {l : Addr} {o : HO} (h : zF H H') (n : H l = none) : zF H (upd H' l o) := fun b u e => by rw [zn (zx e n)]; exact h b u e
end L4
namespace L2
open PySem PySem.Spec PyProof.Rows
variable {X : Cx}
end L2
namespace HT
open PySem PyProof.Rows
open PySem.SeqAt
open PySem.AutoSeq1 (wpAny_loadPart')
open PySem.MeetsSeq PySem.MeetsSeq2 PySem.MeetsSeq3
variable {prog : Program} {w : World} {A : Around} {E : Value -> Shared -> Prop} {s : Shared}
theorem getItem_tuple_whole {t sl : Addr} {items : Array Value} {vl vu : Value} {lo hi : Option Int} {Q : Value -> Shared -> Prop} (ht : IsTup s.heap t items) (hs : s.heap.IsSliceOf sl vl vu .none) (pl : IsPart vl lo) (pu : IsPart vu hi)
  (hw : sIx items.size 0 lo = 0 /\ sIx items.size items.size hi = items.size)
  (h : Q (.ref t) s) : wpAny (model prog w) A (getItem (.ref t) (.ref sl)) Q E s := by
 obtain ⟨os, hos, hcs, hds⟩ := id hs
 have hTs : s.TypeIs (.ref sl) "slice" := ⟨os, hos, hcs⟩
 unfold getItem
 try with_reducible refine wpAny_holding ?_
 first | refine wpAny_bind (wpAny_pure ?_) | skip
 refine wpAny_bind (wpAny_sequenceKey ht.typeIs (by decide) ?_)
 refine wpAny_bind (wpAny_callSpecial?_slot (name := Str.ofString "__getitem__") ht.typeIs PyProof.Rows.slot_tuple_getitem
  (wpAny_call_entry PyProof.Rows.slot_tuple_getitem ht.typeIs entry_tuple_getitem ?_ (args_tuple_getitem _ _)))
 show wpAny _ _ (Builtin.Tuple.tupleItemsOf (.ref t) >>= _) _ _ s
 refine wpAny_bind (tupleItemsOf_ ht ?_)
 refine wpAny_bind (wpAny_typeOf hTs ?_)
 rw [if_pos (by decide)]
 refine wpAny_bind (sliceApplied_gen hs pl pu ?_)
 have hyes : (((sIx items.size 0 lo : Nat) : Int) == 0 && (1 : Int) == 1 && (sIx items.size items.size hi - sIx items.size 0 lo) == items.size) = true := by
  rw [hw.1, hw.2]
  simp
 show wpAny _ _ (if (((sIx items.size 0 lo : Nat) : Int) == 0 && (1 : Int) == 1 && (sIx items.size items.size hi - sIx items.size 0 lo) == items.size) = true then _ else _) _ _ s
 rw [if_pos hyes]
 refine wpAny_bind (m := Builtin.Tuple.tupleIsExact _) (wpAny_bind (wpAny_typeOf ht.typeIs (wpAny_pure ?_)))
 rw [if_pos (by decide)]
 first
  | exact wpAny_bind (wpAny_rule (wpAny_pure ⟨_, rfl, wpAny_pure h⟩))
  | exact wpAny_rule (wpAny_pure ⟨_, rfl, wpAny_pure h⟩)
  | exact wpAny_bind (wpAny_rule ⟨_, rfl, wpAny_pure h⟩)
  | exact wpAny_pure ⟨_, rfl, wpAny_pure h⟩
end HT
namespace L2
open PySem PySem.Spec PyProof.Rows
variable {X : Cx}
def rSlTW (K : PySem.W.Frag) : V -> Option Int -> Option Int -> Hp -> VK -> Prop := fun x lo hi H Q => ∃ a xs, x = .ref a /\ SqT K H a xs /\
 (HT.sIx xs.length 0 lo = 0 /\ HT.sIx xs.length xs.length hi = xs.length) /\ Q (.ref a) H
theorem sl_tupW : SlR X (rSlTW X.K) := by
 intro pins s σ H x v vl vu lo hi sl Q I rx hs pl pu h
 obtain ⟨a, xs, rfl, hx, hw, q⟩ := h
 cases rx
 obtain ⟨its, r, ht, hz⟩ := I.tuple hx
 have hlen : its.toArray.size = xs.length := by rw [List.size_toArray]; exact r.length.symm
 refine ⟨"tuple", _, PyProof.Rows.slot_tuple_getitem.lookup, ht.typeIs, ?_⟩
 exact HT.getItem_tuple_whole ht hs pl pu (by rw [hlen]; exact hw) ⟨.ref a, H, I, rfl, q⟩
end L2
namespace L2
open PySem PySem.Spec PyProof.Rows
section
variable {X : Cx}
def rCatA (K : PySem.W.Frag) : R2 := fun x y H Q => ∃ a b xs ys, x = .ref a /\ y = .ref b /\ SqT K H a xs /\ SqT K H b ys /\ xs.length + ys.length <= sizeLine /\
 (xs = [] -> Q (.ref b) H) /\ (xs ≠ [] -> ys = [] -> Q (.ref a) H) /\ (xs ≠ [] -> ys ≠ [] -> ∀ p, H p = none -> Q (.ref p) (upd H p (.tup (xs ++ ys))))
theorem op_catA (K : PySem.W.Frag) (hK : X.K = K := by rfl) : OpR X (binaryOp .Add) (rCatA K) := by
 subst hK
 intro pins s σ H x y v u Q I rx ry h
 obtain ⟨a, b, xs, ys, rfl, rfl, ha, hb, hz, q0, q1, q2⟩ := h
 by_cases hx : xs = []
 ·cases rx
  cases ry
  obtain ⟨its, r1, p1, _⟩ := I.tuple ha
  obtain ⟨its2, r2, p2, _⟩ := I.tuple hb
  obtain ⟨⟨cls, dd, data, sl⟩, ho, hc, n, hd⟩ := id p1
  obtain ⟨⟨cls2, dd2, data2, sl2⟩, ho2, hc2, n2, hd2⟩ := id p2
  simp only at hc hd hc2 hd2
  subst hc hd hc2 hd2
  have hv : its = [] := (qo.nil_iff r1).mpr hx
  exact concat_meets ⟨_, ho, rfl⟩ ⟨_, ho2, rfl⟩ noFill_tuple_add seq_tuple_add PySem.F.slot_tuple_add PySem.F.entry_tuple_add (PySem.F.args_tuple_add_2 _ _)
   (tuple_addW0 a b its.toArray its2.toArray n n2 dd dd2 sl sl2 (by simp [hv])) ⟨ho, ho2, ⟨.ref b, H, I, rfl, q0 hx⟩⟩
 ·exact op_catT pins s σ H _ _ v u Q I rx ry ⟨a, b, xs, ys, rfl, rfl, ha, hb, hx, hz, q1 hx, q2 hx⟩
def rNeE : R2 := fun x y H Q => ∃ a b xs, x = .ref a /\ y = .ref b /\ H a = some (.tup xs) /\ H b = some (.tup []) /\ Q (.bl (!xs.isEmpty)) H
theorem op_neE {k : Nat} (hr : ZS k X.A) : OpR X (compareOp .NotEq) rNeE := by
 intro pins s σ H x y v u Q I rx ry h
 obtain ⟨a, b, xs, rfl, rfl, ha, hb, q⟩ := h
 cases rx
 cases ry
 have hu : X.A.units + 64 < cLine := hr.units
 obtain ⟨_, us, q1, p1⟩ := I.hok a _ ha
 obtain ⟨_, vs, q2, p2⟩ := I.hok b _ hb
 have l1 := q1.length
 have l2 := q2.length
 have z := SeqAt.RcNeAt.tuples (A := X.A) (s := s) (e := fun _ => true) p1.isTup p2.isTup (by omega) (fun j h1 h2 => by
  rw [List.size_toArray, <- l2] at h2
  exact absurd h2 (Nat.not_lt_zero _))
 have e : (!((List.range (min us.toArray.size vs.toArray.size)).all (fun _ => true) && us.toArray.size == vs.toArray.size)) = !xs.isEmpty := by
  rw [List.size_toArray, List.size_toArray, <- l1, <- l2]
  cases xs with
  | nil => rfl
  | cons x xs => simp
 rw [e] at z
 exact z X.prog X.w _ _ ⟨.bl _, H, I, rfl, q⟩
end
end L2
namespace L4
open PySem L2
theorem Zf : ∀ (l ns : List Str), l.Nodup -> (∀ x ∈ l, x ∈ ns) -> l.length <= ns.length
 | [], ns, _, _ => Nat.zero_le _
 | x :: l, ns, nd, h => by
  obtain ⟨n1, n2⟩ := List.nodup_cons.mp nd
  have ih := Zf l (ns.erase x) n2 fun y hy => (List.mem_erase_of_ne (fun (e : y = x) => n1 (e ▸ hy))).mpr (h y (List.mem_cons_of_mem _ hy))
  have hx := h x List.mem_cons_self
  have e := List.length_erase_of_mem hx
  have pos : 0 < ns.length := List.length_pos_of_mem hx
  rw [List.length_cons]
  omega
def yn (z : Str) (c : Nat) : Str := z ++ ⟨#[c]⟩
theorem glue_inj {z : Str} {c d : Nat} (h : yn z c = yn z d) : c = d := by
 have e : z.cps ++ #[c] = z.cps ++ #[d] := congrArg Str.cps h
 have e2 := congrArg Array.toList e
 simp at e2
 exact e2
theorem JB (z : Str) : ∀ cs : List Nat, cs.Nodup -> (cs.map (yn z)).Nodup
 | [], _ => List.nodup_nil
 | c :: cs, nd => by
  obtain ⟨n1, n2⟩ := List.nodup_cons.mp nd
  rw [List.map_cons]
  refine List.nodup_cons.mpr ⟨fun hm => ?_, JB z cs n2⟩
  obtain ⟨d, hd, e⟩ := List.mem_map.mp hm
  exact n1 (glue_inj e ▸ hd)
theorem pick_new (z : Str) (cs : List Nat) (nd : cs.Nodup) (ns : List Str) (h : ns.length < cs.length) : ∃ c ∈ cs, yn z c ∉ ns := by
 refine Classical.byContradiction fun hn => ?_
 have all : ∀ x ∈ cs.map (yn z), x ∈ ns := fun x hx => by
  obtain ⟨c, hc, e⟩ := List.mem_map.mp hx
  refine Classical.byContradiction fun hx' => hn ⟨c, hc, e ▸ hx'⟩
 have := Zf _ ns (JB z cs nd) all
 rw [List.length_map] at this
 omega
structure yU where
 nm : Str
 pl : Int
 cs : List (Option Int)
def Zz : Option Int -> V
 | none => .non
 | some i => .int i
def ZX (H : Hp) : List yU -> List V -> Prop
 | [], vs => vs = []
 | c :: r, vs => ∃ t u rest, vs = .ref t :: rest /\ H t = some (.tup [.str c.nm, .int c.pl, .ref u]) /\ H u = some (.tup (c.cs.map Zz)) /\ ZX H r rest
theorem ZX.tk {H H' : Hp} (k : Tk H H') : ∀ {cs : List yU} {vs : List V}, ZX H cs vs -> ZX H' cs vs
 | [], _, h => h
 | _ :: _, _, ⟨t, u, rest, e, h1, h2, h3⟩ => ⟨t, u, rest, e, k _ _ h1, k _ _ h2, h3.tk k⟩
theorem ZX.len {H : Hp} : ∀ {cs : List yU} {vs : List V}, ZX H cs vs -> vs.length = cs.length
 | [], _, h => by cases h; rfl
 | _ :: _, _, ⟨t, u, rest, e, h1, h2, h3⟩ => by rw [e, List.length_cons, List.length_cons, h3.len]
theorem ZX.snoc {H : Hp} {c : yU} {t u : Addr} (h1 : H t = some (.tup [.str c.nm, .int c.pl, .ref u])) (h2 : H u = some (.tup (c.cs.map Zz))) : ∀ {cs : List yU} {vs : List V}, ZX H cs vs -> ZX H (cs ++ [c]) (vs ++ [.ref t])
 | [], _, h => by cases h; exact ⟨t, u, [], rfl, h1, h2, rfl⟩
 | _ :: _, _, ⟨t', u', rest, e, q1, q2, q3⟩ => ⟨t', u', rest ++ [.ref t], by rw [e]; rfl, q1, q2, q3.snoc h1 h2⟩
theorem ZX.get {H : Hp} : ∀ {cs : List yU} {vs : List V} {i : Nat} {c : yU}, ZX H cs vs -> cs[i]? = some c -> ∃ t u, vs[i]? = some (.ref t) /\ H t = some (.tup [.str c.nm, .int c.pl, .ref u]) /\ H u = some (.tup (c.cs.map Zz))
 | [], _, _, _, _, e => by simp at e
 | _ :: _, _, 0, _, ⟨t, u, rest, e, h1, h2, h3⟩, q => by
  simp at q
  subst q
  exact ⟨t, u, by rw [e]; rfl, h1, h2⟩
 | _ :: _, _, i + 1, _, ⟨t, u, rest, e, h1, h2, h3⟩, q => by
  obtain ⟨t', u', a, b⟩ := h3.get (i := i) (by simpa using q)
  exact ⟨t', u', by rw [e]; simpa using a, b⟩
structure Y8 where
 m : Int
 ws : List Int
 cs : List yU
def IsHalf (H : Hp) (v : V) (T : Y8) : Prop := ∃ a w c vs, v = .ref a /\ H a = some (.tup [.int T.m, .ref w, .ref c]) /\ H w = some (.tup (T.ws.map .int)) /\ H c = some (.tup vs) /\ ZX H T.cs vs
end L4
namespace L4
open PySem L2 PySem.StrLaws
theorem yV (y p q : Str) (r : List Str) : (Str.join y (p :: q :: r)).cps.toList = p.cps.toList ++ (y.cps.toList ++ (Str.join y (q :: r)).cps.toList) := by
 show ((p ++ y) ++ Str.join y (q :: r)).cps.toList = _
 simp [Str.cps_append]
end L4
namespace L4
open PySem L2 PySem.StrLaws
def Y9 (x : Str) : Prop := ∀ c ∈ x.cps.toList, 97 <= c /\ c <= 122
def Zg (x : Str) : Prop := 2 <= x.length /\ x.length <= 8 /\ Y9 x
def wX (m : Int) (o : Option Int) : Prop := ∀ i, o = some i -> 0 <= i /\ i < m
structure GoodC (m : Int) (c : yU) : Prop where
 nm : Zg c.nm
 p0 : 0 <= c.pl
 p2 : c.pl <= 2
 len : (c.cs.length : Int) = m ^ c.pl.toNat
 cells : ∀ o ∈ c.cs, wX m o
structure Good (T : Y8) : Prop where
 m1 : 1 <= T.m
 m9 : T.m <= 9
 ws : ∀ w ∈ T.ws, 0 <= w /\ w < T.m
 rising : T.ws.Pairwise (· < ·)
 wl : T.ws.length <= 9
 few : T.cs.length <= 8
 nd : (T.cs.map (·.nm)).Nodup
 each : ∀ c ∈ T.cs, GoodC T.m c
def Full (T : Y8) : Prop := ∀ c ∈ T.cs, ∀ o ∈ c.cs, o ≠ none
theorem ZY (x : Str) : x.cps.toList.length = x.length := by simp [Str.length]
theorem slice7 (x : Str) : (Txt.slice x none (some 7)).cps.toList = x.cps.toList.take 7 := by
 by_cases h : (7 : Int) <= x.length
 ·have := beq_iff_eq.mp (PyProof.Rows.slice_closes_toL (x := x) (j := 7) (by decide) h)
  rw [this]
  simp
 ·rw [PyProof.Rows.slice_to_beyond (by omega), beq_iff_eq.mp (PyProof.Rows.slice_closes_toL (x := x) (j := (x.length : Int)) (by omega) (Int.le_refl _))]
  have hl := ZY x
  rw [List.take_of_length_le (l := x.cps.toList) (i := 7) (by omega)]
  show ((x.cps.toList.drop 0).take ((x.length : Int) - 0).toNat).toArray.toList = _
  rw [List.drop_zero, show ((x.length : Int) - 0).toNat = x.cps.toList.length by omega, List.take_length]
theorem yW (z : Str) (c : Nat) : (yn z c).cps.toList = z.cps.toList ++ [c] := by
 show (z ++ ⟨#[c]⟩ : Str).cps.toList = _
 simp [Str.cps_append]
theorem xa {z : Str} {c : Nat} (h : Zg z) (h0 : 97 <= c) (h1 : c <= 122) : Zg (yn (Txt.slice z none (some 7)) c) := by
 obtain ⟨a, b, s⟩ := h
 have e := yW (Txt.slice z none (some 7)) c
 rw [slice7] at e
 have hl := ZY (yn (Txt.slice z none (some 7)) c)
 have hz := ZY z
 rw [e, List.length_append, List.length_take, List.length_singleton] at hl
 refine ⟨by omega, by omega, fun d hd => ?_⟩
 rw [e] at hd
 rcases List.mem_append.mp hd with q | q
 ·exact s d (List.mem_of_mem_take q)
 ·rw [List.mem_singleton.mp q]
  exact ⟨h0, h1⟩
theorem WF : ∀ cs : List Nat, (Txt.join (Str.ofString "") (cs.map fun c => (⟨#[c]⟩ : Str))).cps.toList = cs := by
 intro cs
 have e2 : ∀ ps, Txt.join (Str.ofString "") ps = Str.join (Str.ofString "") ps := fun ps => glued_eq_join _ _
 rw [e2]
 have e0 : (Str.ofString "").cps.toList = [] := by decide +kernel
 induction cs with
 | nil => rfl
 | cons c cs ih =>
  cases cs with
  | nil => rfl
  | cons d ds =>
   rw [List.map_cons, List.map_cons, yV, e0, List.nil_append]
   rw [List.map_cons] at ih
   rw [ih]
   rfl
theorem JC : Zg (Str.ofString "grades") /\ Zg (Str.ofString "wished") := by
 refine ⟨⟨by decide +kernel, by decide +kernel, ?_⟩, ⟨by decide +kernel, by decide +kernel, ?_⟩⟩
 ·unfold Y9
  decide +kernel
 ·unfold Y9
  decide +kernel
def gsOf (c : yU) : List Int := c.cs.map fun o => o.getD 0
theorem JD : ∀ {cs : List (Option Int)}, (∀ o ∈ cs, o ≠ none) -> cs.map Zz = (cs.map fun o => o.getD 0).map V.int
 | [], _ => rfl
 | none :: cs, h => absurd rfl (h none List.mem_cons_self)
 | some i :: cs, h => by
  rw [List.map_cons, List.map_cons, List.map_cons, JD fun o ho => h o (List.mem_cons_of_mem _ ho)]
  rfl
end L4
namespace L4
open PySem L2
theorem jo {α : Type} {K : PySem.W.Frag} {a D : Addr} {t : Nat} {te : TE} {σ0 : St} {H1 : Hp} {Q : VK} (as : List α) (g h : α -> V) (ha : H1 a = some (.lst (as.map g))) (hl : as.length <= 1000) (hD : H1 D = none)
  (he : ∀ z ∈ as, ∀ H' Q', zF H1 H' -> (∀ H'', zF H' H'' -> Q' (h z) H'') -> te (σ0.set t (some (g z))) H' Q')
  (q : ∀ H', zF H1 H' -> H' D = some (.lst (as.map h)) -> Q (.ref D) H') : ZA (Itl K a) (Za t) tYes te σ0 H1 Q D := by
 refine jz (xs := as.map g) (fun i ys H' => zF H1 H' /\ ys = (as.take i).map h) ⟨zg hD _, rfl⟩ (fun i ys H' hh _ => SqL.of (hh.1 _ _ ha)) ?_ ?_
 ·rintro i ys H' x hx ⟨s1, rfl⟩ hD'
  have hi : i < (as.map g).length := (List.getElem?_eq_some_iff.mp hx).1
  rw [List.getElem?_map] at hx
  obtain ⟨z, hz, rfl⟩ := Option.map_eq_some_iff.mp hx
  refine yes (he z (List.mem_of_getElem? hz) H' _ s1 fun H'' s2 => ?_)
  rw [List.length_map] at hi
  refine wA (by rw [List.length_map]; exact hi) jU (s2 _ _ hD') (by rw [List.length_map, List.length_take]; exact zr (by omega)) ⟨fun b o qb => ?_, ?_⟩
  ·rw [zn (zx qb hD)]
   exact s2 b o (s1 b o qb)
  ·rw [take_snoc hz, List.map_append]
   rfl
 ·rintro ys H' ⟨s1, rfl⟩ hD'
  rw [List.length_map, List.take_length] at hD'
  exact q H' s1 hD'
theorem map_str {z : Str} {D : Addr} {t : Nat} {te : TE} {σ0 : St} {H1 : Hp} {Q : VK} (h : Nat -> V) (hl : z.length <= 1000) (hD : H1 D = none)
  (he : ∀ c ∈ z.cps.toList, ∀ H' Q', zF H1 H' -> (∀ H'', zF H' H'' -> Q' (h c) H'') -> te (σ0.set t (some (.str ⟨#[c]⟩))) H' Q')
  (q : ∀ H', zF H1 H' -> H' D = some (.lst (z.cps.toList.map h)) -> Q (.ref D) H') : ZA (Its z) (Za t) tYes te σ0 H1 Q D := by
 refine yh (fun i ys H' => zF H1 H' /\ ys = (z.cps.toList.take i).map h) ⟨zg hD _, rfl⟩ ?_ ?_
 ·rintro i ys H' c hc ⟨s1, rfl⟩ hD'
  have hi : i < z.cps.size := (Array.getElem?_eq_some_iff.mp hc).1
  have hc' : z.cps.toList[i]? = some c := by simpa using hc
  have hs : z.cps.size = z.length := rfl
  refine yes (he c (List.mem_of_getElem? hc') H' _ s1 fun H'' s2 => ?_)
  refine wA hi jU (s2 _ _ hD') (by rw [List.length_map, List.length_take]; exact zr (by omega)) ⟨fun b o qb => ?_, ?_⟩
  ·rw [zn (zx qb hD)]
   exact s2 b o (s1 b o qb)
  ·rw [take_snoc hc', List.map_append]
   rfl
 ·rintro ys H' ⟨s1, rfl⟩ hD'
  rw [List.take_of_length_le (by simp)] at hD'
  exact q H' s1 hD'
theorem trues {α : Type} (as : List α) : as.map (fun _ => V.bl true) = (as.map fun _ => true).map V.bl := by rw [List.map_map]; rfl
theorem xb {α : Type} (as : List α) : (as.map fun _ => true).all id = true := by
 rw [List.all_eq_true]
 intro x hx
 obtain ⟨_, _, rfl⟩ := List.mem_map.mp hx
 rfl
theorem zF.rfl' {H : Hp} : zF H H := fun _ _ h => h
end L4
namespace L4
open PySem L2 PySem.StrLaws
inductive Th where
 | non
 | bl (b : Bool)
 | int (i : Int)
 | str (x : Str)
 | lst
 | dct
 | tup (ts : List Th)
def tyTh : Th -> Value
 | .non => .type "NoneType"
 | .bl _ => .type "bool"
 | .int _ => .type "int"
 | .str _ => .type "str"
 | .lst => .type "list"
 | .dct => .type "dict"
 | .tup _ => .type "tuple"
def isStrB : Th -> Bool
 | .str _ => true
 | _ => false
theorem QS {K : PySem.W.Frag} (t : Th) : PySem.W.kitOne K (tyTh t) (.type "str") = some (isStrB t) := by cases t <;> first | rfl | exact qI _
end L4
namespace L4
open PySem L2 PySem.StrLaws
end L4
namespace L4
open PySem L2 PySem.StrLaws
end L4
namespace L4
open PySem L2
open Classical in
section
variable {X : Addr -> Prop} {H0 : Hp} {σ : St}
end
end L4
namespace L4
open PySem L2
end L4
namespace L4
open PySem L2
end L4
namespace L2
open PySem PySem.Spec PyProof.Rows
open Builtin
section
variable {X : Cx}
end
end L2
namespace L4
open PySem L2
section
variable {B : Th -> Bool} {H0 H : Hp} {l : Addr} {n : Nat} {σ : St}
end
end L4
namespace L4
open PySem L2 PySem.StrLaws
end L4
namespace L2
open PySem PySem.Spec PyProof.Rows
end L2
namespace L2
open PySem PySem.Spec PyProof.Rows PySem.Builtin PySem.Builtin.Str
section
variable {X : Cx} {e : Expr} {es : List Expr} {te ta tb : TE} {t : TA} {pos : Pos} {a b : Expr} {st : Stmt} {rest : List Stmt} {ts us : TS}
end
end L2
namespace L2
open PySem PySem.Spec PyProof.Rows PySem.Builtin PySem.Builtin.Str
section
variable {X : Cx}
end
end L2
namespace L4
open PySem L2 PySem.StrLaws
end L4
namespace L4
open PySem L2 PySem.StrLaws
end L4
namespace L4
open PySem L2 PySem.StrLaws
section
variable {T : Y8} (g : Good T)
include g
end
end L4
namespace L4
open PySem L2
section
variable {X : Addr -> Prop} {H0 H : Hp} {σ : St} {B : Th -> Bool} {l : Addr} {n : Nat}
end
end L4
namespace L4
open PySem L2
end L4
namespace L4
open PySem L2
end L4
namespace L4
open PySem L2
end L4
namespace L4
open PySem L2
end L4
namespace L4
open PySem L2 PySem.StrLaws
section
variable {T : Y8} (g : Good T)
include g
end
end L4
namespace L4
open PySem L2 PySem.StrLaws
section
variable {X : Addr -> Prop} {H0 : Hp} {σ : St} {K : PySem.W.Frag}
end
end L4
namespace L4
open PySem L2 PySem.StrLaws
section
variable {T : Y8} (g : Good T) (m4 : T.m <= 4) (c4 : T.cs.length <= 4)
include g m4
end
section
variable {T : Y8} (g : Good T)
include g
end
end L4
namespace L2
open PySem PySem.Spec PyProof.Rows
section
variable {X : Cx}
theorem bt_min : bootBuiltins "min" = some (.builtin "min") := by decide +kernel
theorem yX (K : PySem.W.Frag) (hc : X.calm = true) : jf X (.builtin "min") (fun xs H Q => ∃ i j, xs = [.int i, .int j] /\ Q (.int (if j < i then j else i)) H) := YM hc
end
theorem iteDT {c A B : Prop} [Decidable c] (hc : decide c = true) (h : A) : if decide c = true then A else B := by rw [if_pos hc]; exact h
theorem iteDF {c A B : Prop} [Decidable c] (hc : decide c = false) (h : B) : if decide c = true then A else B := by rw [if_neg (by rw [hc]; exact Bool.false_ne_true)]; exact h
end L2
namespace L4
open PySem L2
end L4
namespace Fr
end Fr
namespace PySem
open Sem (wp)
section
variable {prog : Program} {w : World} {A : Around} {E : Value -> Shared -> Prop} {s : Shared}
theorem wpAny_collect_range {Q : List Value -> Shared -> Prop} {it : Addr} {a b c : Int} {t u v : Tok} {n : Nat} (hh : A.handled = none) (hr : IsRange s.heap it a b c t u v) (hsmall : Builtin.Range.small a b c = true)
  (hn : Builtin.Range.rangeSize a b c = n) (hlen : n <= 2 ^ 24)
  (hQ : ∀ h' tk (acc : Array Value), (∀ b o', s.heap.get? b = some o' -> h'.get? b = some o') -> ItemsOf (fun i v => ∃ t, v = .int (a + i * c) t) acc n -> Q acc.toList { s with heap := h', toks := tk }) :
  wpAny (model prog w) A (collect (.ref it)) Q E s := by
 unfold collect
 refine wpAny_bind (wpAny_runValue (codeAny_builtin F.entry_proto_collect ?_))
 rw [Around.under_plainId F.plain_proto_collect _]
 show wpAny _ A.in1 (newList [] >>= fun l => again (.builtin "list.__iadd__" ⟨[l, .ref it], []⟩)) _ _ s
 refine wpAny_bind (wpAny_newObj_type ?_)
 refine wpAny_pure ⟨plainId_quiet F.plain_list_iadd _, codeAny_builtin F.entry_list_iadd ?_⟩
 rw [Around.under_plainId F.plain_list_iadd _]
 show wpAny _ A.in1 (Builtin.List.listExtendWith (.ref s.heap.objs.size) (.ref it) (.ref s.heap.objs.size)) _ _ _
 have hS : (s.heap.push { cls := .type "list", data := .seq ([] : List Value).toArray }).get? s.heap.objs.size = some { cls := .type "list", data := .seq #[] 0 } := Heap.get?_push_size _ rfl
 have fin' : ∀ (s' : Shared), (∃ h' tk acc c', s' = { s with heap := h', toks := tk } /\ (∀ b o, b ≠ s.heap.objs.size -> (s.heap.push { cls := .type "list", data := .seq ([] : List Value).toArray }).get? b = some o -> h'.get? b = some o) /\ h'.get? s.heap.objs.size = some { cls := .type "list", dict := none, data := .seq acc c', slots := #[] } /\ ItemsOf (fun i v => ∃ t, v = .int (a + i * c) t) acc n) -> wpAny (model prog w) A (match Value.ref s.heap.objs.size with
   | Value.ref a => do
    match (<- load a).data with
     | Data.seq xs _ => pure xs.toList
     | _ => unsupported "internal:collect"
   | _ => unsupported "internal:collect") Q E s' := by
  rintro s' ⟨h', tk, acc, c', rfl, kp, e, hacc⟩
  show wpAny _ A (load s.heap.objs.size >>= _) _ _ _
  refine wpAny_bind (wpAny_load e ?_)
  refine wpAny_pure ?_
  exact hQ h' tk acc (fun b o' hb => kp b o' (Nat.ne_of_lt (Heap.lt_size hb)) (Heap.get?_push_of_some _ hb)) hacc
 refine wpAny_mono (wpAny_extend_range (A := A) (R := fun r s' => r = .ok (.ret (.ref s.heap.objs.size)) /\ ∃ h' tk acc c', s' = { s with heap := h', toks := tk } /\ (∀ b o, b ≠ s.heap.objs.size -> (s.heap.push { cls := .type "list", data := .seq ([] : List Value).toArray }).get? b = some o -> h'.get? b = some o) /\ h'.get? s.heap.objs.size = some { cls := .type "list", dict := none, data := .seq acc c', slots := #[] } /\ ItemsOf (fun i v => ∃ t, v = .int (a + i * c) t) acc n)
  (s := { s with heap := s.heap.push { cls := .type "list", data := .seq ([] : List Value).toArray } }) hh (Heap.get?_push_of_some _ hr) hsmall hn hlen _ _ 0 hS fun h' tk acc' c' k1 k2 k3 => ⟨rfl, h', tk, acc', c', rfl, k1, k2, k3⟩) (fun fin s' h => ?_) (fun e s' h => ?_)
 ·cases fin with
  | done f =>
   obtain ⟨e, h⟩ := h
   cases e
   exact fin' _ h
  | again c' => exact ⟨h.1, codeAny_mono h.2 fun r s'' hr => by obtain ⟨rfl, hr⟩ := hr; exact fin' _ hr⟩
 ·exact absurd h.1 (by simp)
end
theorem meets_tuple_new_range (l : Addr) (a b c : Int) (t u v : Tok) (n : Nat) (hsmall : Builtin.Range.small a b c = true) (hn : Builtin.Range.rangeSize a b c = n) (hlen : n <= 2 ^ 20) :
  Meets (Builtin.«tuple.__new__» ⟨[.type "tuple", .ref l], []⟩)
   (fun A R s => A.handled = none /\ IsRange s.heap l a b c t u v /\ ∀ (h' : Heap) (tk : Nat) (acc : Array Value), (∀ b o', s.heap.get? b = some o' -> h'.get? b = some o') -> ItemsOf (fun i v => ∃ t, v = .int (a + i * c) t) acc n -> R (.ok (.ret (.ref h'.objs.size))) { s with heap := h'.push { cls := .type "tuple", data := .seq acc }, toks := tk }) :=
 .of_wp fun prog w A R s h => by
  obtain ⟨hp, g, d, tk, os⟩ := s; obtain ⟨hh, ht, h⟩ := h
  have hsub := sub_tuple_self
  have hinit := init_tuple_lookup
  have hmh := madeHere_tuple
  have hT : Shared.TypeIs ⟨hp, g, d, tk, os⟩ (.ref l) "range" := ⟨_, ht, rfl⟩
  wp_walk using AutoSeq1.wpAny_loadPart' ht, wpAny_typeOf hT, wpAny_collect_range (A := A.in1) hh ht hsmall hn (by omega)
  intro h' tk' acc hk hacc
  show wpAny _ _ (Builtin.Tuple.tupleExact acc.toList.toArray >>= fun v => ret v) _ _ _
  unfold Builtin.Tuple.tupleExact
  have hsz : acc.size <= sizeLine := by rw [hacc.1]; exact Nat.le_trans hlen (by decide +kernel)
  refine wpAny_bind (wpAny_newObj_type ?_ (by show acc.toList.toArray.size <= sizeLine; simpa using hsz))
  refine wpAny_pure ⟨_, rfl, ?_⟩
  have e : acc.toList.toArray = acc := by simp
  rw [e]
  exact h h' tk' acc hk hacc
section
variable {prog : Program} {w : World} {A : Around} {E : Value -> Shared -> Prop} {s : Shared}
theorem call_tuple_range {l : Addr} {a b c : Int} {t u v : Tok} {n : Nat} {Q : Value -> Shared -> Prop} (hh : A.handled = none) (hr : IsRange s.heap l a b c t u v) (hsmall : Builtin.Range.small a b c = true) (hn : Builtin.Range.rangeSize a b c = n) (hlen : n <= 2 ^ 20)
  (h : ∀ (h' : Heap) (tk : Nat) (acc : Array Value), (∀ b o', s.heap.get? b = some o' -> h'.get? b = some o') -> ItemsOf (fun i v => ∃ t, v = .int (a + i * c) t) acc n -> Q (.ref h'.objs.size) { s with heap := h'.push { cls := .type "tuple", data := .seq acc }, toks := tk }) :
  wpAny (model prog w) A (call (.type "tuple") [.ref l]) Q E s :=
 callType_new F.called_tuple (by decide) (F.typeCall_tuple_1 _) (F.newCall_tuple_1 _) (fun obj => F.args_object_init_2 obj _) F.entry_tuple_new
  (meets_tuple_new_range l a b c t u v n hsmall hn hlen) ⟨hh, hr, fun h' tk acc hk hacc => ⟨⟨_, Heap.get?_push_size _ rfl, rfl⟩, h h' tk acc hk hacc⟩⟩
end
end PySem
namespace PySem.SeqAt
open PySem
theorem wpAny_forRange {M : Model} {A : Around} {E : Value -> Shared -> Prop} {s : Shared} {β : Type} {a b : Nat} (f : Nat -> β -> Sem (ForInStep β)) (I : Nat -> β -> Shared -> Prop) (Q : β -> Shared -> Prop)
  (turn : ∀ i c s, a <= i -> i < b -> I i c s -> wpAny M A (f i c) (fun r s' => match r with | .yield c' => I (i + 1) c' s' | .done c' => Q c' s') E s)
  (fin : ∀ c s, I (max a b) c s -> Q c s) (c : β) (h : I a c s) : wpAny M A (forIn [a:b] c f) Q E s := by
 rw [Std.Legacy.Range.forIn_eq_forIn_range']
 have hsz : ([a:b] : Std.Legacy.Range).size = b - a := by simp [Std.Legacy.Range.size]
 show wpAny M A (forIn (List.range' a ([a:b] : Std.Legacy.Range).size 1) c f) Q E s
 rw [hsz]
 refine wpAny_forIn_list f (fun l c st => ∃ i, a <= i /\ i <= max a b /\ l = List.range' i (max a b - i) 1 /\ I i c st) Q ?_ ?_ _ c ⟨a, Nat.le_refl _, by omega, by congr 1; omega, h⟩
 ·rintro x rest c st ⟨i, hai, hib, hl, hI⟩
  have hlt : i < max a b := by
   rcases Nat.lt_or_ge i (max a b) with h' | h'
   ·exact h'
   ·rw [show max a b - i = 0 by omega] at hl; simp at hl
  obtain ⟨n, hn⟩ : ∃ n, max a b - i = n + 1 := ⟨max a b - i - 1, by omega⟩
  rw [hn, List.range'_succ] at hl
  obtain ⟨rfl, rfl⟩ := List.cons.inj hl
  refine wpAny_mono (turn x c st hai (by omega) hI) (fun r st' h' => ?_) fun _ _ h' => h'
  cases r with
  | done c' => exact h'
  | yield c' => exact ⟨x + 1, by omega, by omega, by congr 1; omega, h'⟩
 ·rintro c st ⟨i, hai, hib, hl, hI⟩
  have : i = max a b := by
   rcases Nat.lt_or_ge i (max a b) with h' | h'
   ·obtain ⟨n, hn⟩ : ∃ n, max a b - i = n + 1 := ⟨max a b - i - 1, by omega⟩
    rw [hn, List.range'_succ] at hl
    cases hl
   ·omega
  rw [this] at hI
  exact fin c st hI
theorem tuple_indexAt (l : Addr) (items : Array Value) (n : Nat) (dd : Option Addr) (sl : Array (Option Value)) (x : Value) (e : Value -> Bool) (j : Nat) (hj : j < items.size)
  (hit : e items[j] = true) (hno : ∀ m (hm : m < items.size), m < j -> e items[m] = false) :
  Meets (Builtin.«tuple.index» ⟨[.ref l, x], []⟩)
   (fun A R s => s.heap.get? l = some { cls := .type "tuple", dict := dd, data := .seq items n, slots := sl } /\ (∀ y, y ∈ items -> EqAt A.in1 s y x (e y)) /\ R (.ok (.ret (.int j s.toks))) { s with toks := s.toks + 1 }) :=
 .of_wp fun prog w A R s h => by
  obtain ⟨hp, g, d, tk, os⟩ := s; obtain ⟨hl, he, h⟩ := h
  wp_walk using AutoSeq1.wpAny_loadPart' hl, wpAny_forRange _ (fun i c s' => c = (none, ()) /\ s' = ⟨hp, g, d, tk, os⟩ /\ i <= j) _
  case turn =>
   rintro i c s' hi1 hi2 ⟨rfl, rfl, hij⟩
   have hi : i < items.size := by omega
   rw [Array.getElem?_eq_getElem hi]
   refine wpAny_bind (he _ (Array.getElem_mem hi) prog w _ _ ?_)
   rcases Nat.lt_or_ge i j with h' | h'
   ·rw [hno i hi h']
    wp_walk
    exact ⟨rfl, rfl, h'⟩
   ·have e1 : i = j := by omega
    subst e1
    rw [hit]
    wp_walk
    exact ⟨_, rfl, h⟩
  case fin =>
   rintro c s' ⟨rfl, rfl, hij⟩
   omega
  case h =>
   exact ⟨rfl, rfl, Nat.zero_le _⟩
end PySem.SeqAt
namespace L2
open PySem PySem.Spec PyProof.Rows
theorem xc {ns : List Int} {us : List Value} (h : IntsAre us ns) : qo (ns.map V.int) us := by
 induction h with
 | nil => exact .nil
 | cons n t _ ih => exact .cons ⟨t, rfl⟩ ih
theorem J1 : ∀ {xs : List V} {us : List Value}, xs.length = us.length -> (∀ (i : Nat) x u, xs[i]? = some x -> us[i]? = some u -> RelV x u) -> qo xs us
 | [], [], _, _ => .nil
 | [], _ :: _, h, _ => by cases h
 | _ :: _, [], h, _ => by cases h
 | x :: xs, u :: us, h, k => .cons (k 0 x u rfl rfl) (J1 (by simpa using h) fun i y v a b => k (i + 1) y v (by simpa using a) (by simpa using b))
theorem yY {n : Nat} {acc : Array Value} (h : ItemsOf (fun i v => ∃ t, v = .int (0 + i * 1) t) acc n) : qo ((List.range n).map fun (i : Nat) => V.int (i : Int)) acc.toList := by
 refine J1 (by rw [List.length_map, List.length_range]; simpa using h.1.symm) fun i x u hx hu => ?_
 rw [List.getElem?_map] at hx
 obtain ⟨j, hj, rfl⟩ := Option.map_eq_some_iff.mp hx
 have ej : j = i := by
  have := List.getElem?_eq_some_iff.mp hj
  obtain ⟨_, e⟩ := this
  rw [List.getElem_range] at e
  exact e.symm
 subst ej
 obtain ⟨t, e⟩ := h.2 j u (by simpa using hu)
 rw [e, Int.zero_add, Int.mul_one]
 exact ⟨t, rfl⟩
section
variable {X : Cx}
def tRng (ta : TA) : TE := fun σ H Q => ta σ H fun vs H1 => ∃ j : Int, vs = [.int j] /\ ∀ p, H1 p = none -> Q (.ref p) (upd H1 p (.rng 0 j))
theorem xf {a : Expr} {ta : TA} {p pos : Pos} (hg : Gl X "range") (hm : X.mg "range" = none) (ha : PA X [a] ta) (hs : starEach [a] X.env = [(false, eval a X.env)] := by rfl) : PE X (.Call (.Name "range" p) [a] [] pos) (tRng ta) := by
 intro pins s σ H Q I h
 refine Call_ (ZR I hg hm boot_range (PyProof.Rows.callWith_type1 (thn (ha pos pins s σ H _ I h) fun us s1 ⟨vs, H1, I1, r1, q1⟩ => ?_) hs rfl))
 obtain ⟨j, e, q⟩ := q1
 subst e
 cases r1 with
 | cons r rr =>
  cases rr
  obtain ⟨t, rfl⟩ := r
  refine call_range_1 ⟨.ref s1.heap.objs.size, _, I1.laid (t' := _) (o := .rng 0 j) (fun b o q => Heap.get?_push_of_some _ q) (Nat.le_refl _) ?_, rfl, q _ (I1.hok.fresh (Nat.le_refl _))⟩
  exact ⟨_, _, _, Heap.get?_push_size _ rfl⟩
theorem Qj (hc : X.calm = true) : jf X (.type "list") (fun xs H Q => ∃ (p : Addr) (j : Int), xs = [.ref p] /\ H p = some (.rng 0 j) /\ 0 <= j /\ j <= 1000 /\ ∀ l, H l = none -> Q (.ref l) (upd H l (.lst ((List.range j.toNat).map fun (i : Nat) => V.int (i : Int))))) := by
 intro pins s σ H xs us Q I r h
 obtain ⟨p, j, rfl, hp, j0, j1, q⟩ := h
 obtain ⟨u, rfl, rx⟩ := vals1 r
 cases rx
 obtain ⟨t, u, v, e⟩ := I.hok p _ hp
 have hn : Builtin.Range.rangeSize 0 j 1 = (j.toNat : Nat) := by rw [rangeSize_one]; split <;> omega
 refine call_list_range (I.ok.hd hc) e (small_one (by omega) (by omega) (by omega) (by omega)) hn (by omega) fun h' tk acc c' kp he hacc => ?_
 refine ⟨.ref s.heap.objs.size, _, I.laid (t' := tk) (o := .lst ((List.range j.toNat).map fun (i : Nat) => V.int (i : Int))) kp (Nat.le_refl _) ?_, rfl, q _ (I.hok.fresh (Nat.le_refl _))⟩
 refine ⟨by rw [List.length_map, List.length_range]; exact Nat.le_of_lt (zr (by omega)), acc.toList, c', ?_, by simpa using he⟩
 exact yY hacc
end
end L2
namespace L2
open PySem PySem.Spec PyProof.Rows
theorem Inv.changed {X : Cx} {pins : List (Addr × Obj)} {σ : St} {H : Hp} {s : Shared} {ch : List Addr} {h' : Heap} {t' : Nat} (I : Inv X pins σ H s) (hf : ∀ b ∈ ch, YE X pins H b) (k : ∀ c o, c ∉ ch -> s.heap.get? c = some o -> h'.get? c = some o) : Inv X pins σ H { s with heap := h', toks := t' } := by
 have nt : ∀ b u, H b = some u -> b ∉ ch := fun b u e hb => by
  rw [(hf b hb).1] at e
  cases e
 have nl : X.env.locals ∉ ch := fun hb => (hf _ hb).2.1 rfl
 refine I.step (g' := s.gens) (d' := s.drawn) (ch := ch) (fun b hb => ⟨(hf b hb).2.2.2.1, (hf b hb).2.1, (hf b hb).2.2.2.2.1, (hf b hb).2.2.2.2.2⟩) (fun b o _ _ hc e _ => k b o hc e) (fun b o _ _ hc e _ => ⟨o.slots, k b o hc e⟩) (fun _ _ _ _ n => n)
  (fun b o hc e => ⟨o, k b o hc e⟩) (fun _ _ e => e) (fun _ _ _ e => e) (fun b ps e => ⟨#[], by rw [e]; simp⟩) (fun m hm => ?_) (fun b u e => ?_) I.bare
 ·obtain ⟨o, es, ep, ho, r⟩ := hm
  exact ⟨o, es, ep, k _ o nl ho, r⟩
 ·refine (I.hok b u e).stay (fun c v hc q => k c v ?_ q) (fun _ q => q) fun _ _ q => q
  rcases hc with z | z
  ·rw [z]; exact nt b u e
  ·exact nt c _ z
section
variable {X : Cx}
end
end L2
namespace L2
open PySem PySem.Spec PyProof.Rows
theorem ZZ : bootBuiltins "sorted" = some (.builtin "sorted") := by decide +kernel
end L2
namespace L4
open PySem L2
abbrev nV (i : Nat) : V := .int (i : Int)
end L4
namespace Tn
def place (m : Nat) (r : List Nat) : Nat := r.foldl (fun p x => p * m + x) 0
theorem place_snoc (m : Nat) (r : List Nat) (x : Nat) : place m (r ++ [x]) = place m r * m + x := by
 unfold place
 rw [List.foldl_append]
 rfl
theorem flat_len {α β : Type} (f : α -> List β) (b : Nat) (hf : ∀ x, (f x).length = b) : ∀ (xs : List α), (xs.flatMap f).length = xs.length * b
 | [] => by simp
 | y :: ys => by rw [List.flatMap_cons, List.length_append, hf, flat_len f b hf ys, List.length_cons, Nat.succ_mul]; omega
def Rw (m k : Nat) (r : List Nat) : Prop := r.length = k /\ ∀ x ∈ r, x < m
theorem place_lt {m : Nat} : ∀ (k : Nat) (r : List Nat), Rw m k r -> place m r < m ^ k := by
 intro k
 induction k with
 | zero =>
  intro r h
  have : r = [] := List.length_eq_zero_iff.mp h.1
  subst this
  show 0 < m ^ 0
  rw [Nat.pow_zero]
  decide
 | succ k ih =>
  intro r h
  obtain ⟨h1, h2⟩ := h
  have hne : r ≠ [] := by intro z; rw [z] at h1; cases h1
  have e := List.dropLast_concat_getLast hne
  have hr : Rw m k r.dropLast := ⟨by rw [List.length_dropLast, h1]; rfl, fun x hx => h2 x ((List.dropLast_sublist r).subset hx)⟩
  have h3 := ih _ hr
  have h4 := h2 (r.getLast hne) (List.getLast_mem hne)
  rw [<- e, place_snoc, Nat.pow_succ]
  have h5 : (place m r.dropLast + 1) * m <= m ^ k * m := Nat.mul_le_mul_right m h3
  rw [Nat.succ_mul] at h5
  omega
def at' (o : List Nat) (i : Nat) : Nat := o.getD i 0
theorem nodup_len : ∀ (m : Nat) (xs : List Nat), xs.Nodup -> (∀ x ∈ xs, x < m) -> xs.length <= m
 | 0, [], _, _ => Nat.le_refl _
 | 0, x :: xs, _, h => absurd (h x (List.mem_cons_self ..)) (Nat.not_lt_zero _)
 | m + 1, xs, nd, h => by
  have h1 := nodup_len m (xs.erase m) (nd.erase m) fun x hx => by
   obtain ⟨ne, hm⟩ := nd.mem_erase_iff.mp hx
   have := h x hm
   omega
  by_cases hm : m ∈ xs
  ·rw [List.length_erase_of_mem hm] at h1
   omega
  ·rw [List.erase_of_not_mem hm] at h1
   omega
structure Cs (m k : Nat) (cs : List Nat) : Prop where
 len : cs.length = m ^ k
 lt : ∀ x ∈ cs, x < m
theorem Cs.at_lt {m k : Nat} {cs : List Nat} (h : Cs m k cs) {p : Nat} (hp : p < m ^ k) : at' cs p < m := by
 unfold at'
 rw [List.getD_eq_getElem?_getD, List.getElem?_eq_getElem (by rw [h.len]; exact hp)]
 exact h.lt _ (List.getElem_mem _)
end Tn
namespace L2
open PySem PySem.Spec PyProof.Rows
section
variable {prog : Program} {w : World} {A : Around} {E : Value -> Shared -> Prop} {s : Shared}
variable {z TI TO i1 i2 t1 t2 : Addr} {xs ys : Array Value} {k1 k2 : Nat}
end
end L2
namespace L2
open PySem PySem.Spec PyProof.Rows
section
variable {X : Cx}
end
end L2
namespace L2
open PySem PySem.Spec PyProof.Rows
section
variable {X : Cx}
end
end L2
namespace Tn
end Tn
namespace L2
open PySem PySem.Spec PyProof.Rows
section
variable {X : Cx}
theorem kslT (K : PySem.W.Frag) (hK : X.K = K := by rfl) : SlR X (fun x lo hi H Q => rSlT K x lo hi H Q \/ rSlTW K x lo hi H Q) := by
 subst hK
 exact sl_tup.or sl_tupW
end
theorem wY {K : PySem.W.Frag} {a : Addr} {n : Nat} {xs : List V} {ad : Nat -> Addr} {v1 v2 v3 : Nat -> V} {tt : TT} {te : TE} {H1 : Hp} {Q : VK} {D : Addr} {more : St} (P : Nat -> List V -> Hp -> Prop) (h0 : P 0 [] (upd H1 D (.lst []))) (hn : xs.length = n) (hx : ∀ i, i < n -> xs[i]? = some (.ref (ad i)))
  (hl : ∀ i ys H, P i ys H -> H D = some (.lst ys) -> SqT K H a xs) (ht : ∀ i ys H, i < n -> P i ys H -> SqT K H (ad i) [v1 i, v2 i, v3 i])
  (hs : ∀ i ys H, i < n -> P i ys H -> H D = some (.lst ys) -> tt (some (v1 i) :: some (v2 i) :: some (v3 i) :: more) H fun b H4 => if b = true then te (some (v1 i) :: some (v2 i) :: some (v3 i) :: more) H4 (cYes (fun σ => ∃ x y z, σ = x :: y :: z :: more) P n D (some (v1 i) :: some (v2 i) :: some (v3 i) :: more) i) else cNo (fun σ => ∃ x y z, σ = x :: y :: z :: more) P n D (some (v1 i) :: some (v2 i) :: some (v3 i) :: more) i H4)
  (hd : ∀ ys H, P n ys H -> H D = some (.lst ys) -> Q (.ref D) H) :
  ZA (Itt K a) (gTup K 3 (gCons (Za 0) (gCons (Za 1) (gCons (Za 2) gNil)))) tt te (none :: none :: none :: more) H1 Q D := by
 refine Zu (xv := fun i => .ref (ad i)) (st := fun i => some (v1 i) :: some (v2 i) :: some (v3 i) :: more) (fun σ => ∃ x y z, σ = x :: y :: z :: more) P ⟨_, _, _, rfl⟩ h0 (fun i ys H hi p hD => ⟨⟨xs, _, hl i ys H p hD, hx i hi⟩, fun x H2 y => ⟨y.1, ?_⟩⟩) (fun ys H p hD => ⟨xs, hl _ ys H p hD, Nat.le_of_eq hn⟩)
  (fun i ys σ' H K' hi r p k => ?_) hs hd
 ·have e := y.2 xs (hl i ys H p hD)
  rw [hx i hi] at e
  exact (Option.some.inj e).symm
 ·obtain ⟨x, y, z, rfl⟩ := r
  exact ⟨ad i, _, rfl, ht i ys H hi p, rfl, _, _, rfl, _, _, rfl, _, _, rfl, rfl, k⟩
end L2
namespace L2
open PySem PySem.Spec PyProof.Rows
section
variable {X : Cx}
end
end L2
namespace L2
open PySem PySem.Spec PyProof.Rows
section
variable {κ : Type} [DecidableEq κ]
def jE (kvs : List (κ × V)) (k : κ) : Option V := (kvs.find? fun kv => decide (kv.1 = k)).map (·.2)
def j9 (kvs : List (κ × V)) (k : κ) (v : V) : List (κ × V) :=
 if (kvs.any fun kv => decide (kv.1 = k)) = true then kvs.map (fun kv => if kv.1 = k then (kv.1, v) else kv) else kvs ++ [(k, v)]
theorem qt {p : κ × V} {r : List (κ × V)} {k : κ} (e : p.1 = k) : jE (p :: r) k = some p.2 := by simp [jE, List.find?_cons, e]
theorem qh {p : κ × V} {r : List (κ × V)} {k : κ} (e : ¬ p.1 = k) : jE (p :: r) k = jE r k := by simp [jE, List.find?_cons, e]
theorem Z0 (k : κ) : ∀ kvs : List (κ × V), (kvs.any fun kv => decide (kv.1 = k)) = (jE kvs k).isSome
 | [] => rfl
 | p :: r => by
  rw [List.any_cons]
  by_cases e : p.1 = k
  ·simp only [qt e, decide_eq_true e, Bool.true_or, Option.isSome_some]
  ·rw [qh e, decide_eq_false e, Bool.false_or]; exact Z0 k r
theorem yo (k j : κ) (y : V) : ∀ kvs : List (κ × V), jE (kvs.map fun kv => if kv.1 = k then (kv.1, y) else kv) j = (jE kvs j).map fun x => if j = k then y else x
 | [] => rfl
 | p :: r => by
  have ih := yo k j y r
  rw [List.map_cons]
  by_cases h : p.1 = k
  ·rw [if_pos h]
   by_cases e : p.1 = j
   ·rw [qt (p := (p.1, y)) e, qt e, Option.map_some, if_pos (e.symm.trans h)]
   ·rw [qh (p := (p.1, y)) e, qh e, ih]
  ·rw [if_neg h]
   by_cases e : p.1 = j
   ·rw [qt (p := p) e, qt e, Option.map_some, if_neg (fun z => h (e.trans z))]
   ·rw [qh (p := p) e, qh e, ih]
theorem wZ (k j : κ) (y : V) : ∀ kvs : List (κ × V), jE kvs k = none -> jE (kvs ++ [(k, y)]) j = if j = k then some y else jE kvs j
 | [], _ => by
  by_cases e : k = j
  ·rw [if_pos e.symm]; exact qt (p := (k, y)) e
  ·rw [if_neg (fun z => e z.symm)]; exact qh (p := (k, y)) e
 | p :: r, hn => by
  rw [List.cons_append]
  have hk : ¬ p.1 = k := fun z => by rw [qt z] at hn; cases hn
  rw [qh hk] at hn
  have ih := wZ k j y r hn
  by_cases e : p.1 = j
  ·rw [qt e, qt e, if_neg (fun z => hk (e.trans z))]
  ·rw [qh e, qh e, ih]
theorem yp (kvs : List (κ × V)) (k j : κ) (y : V) : jE (j9 kvs k y) j = if j = k then some y else jE kvs j := by
 unfold j9
 by_cases a : (kvs.any fun kv => decide (kv.1 = k)) = true
 ·rw [if_pos a, yo]
  rw [Z0] at a
  by_cases e : j = k
  ·obtain ⟨x, hx⟩ := Option.isSome_iff_exists.mp a
   rw [if_pos e, e, hx, Option.map_some, if_pos rfl]
  ·rw [if_neg e]
   cases jE kvs j with
   | none => rfl
   | some x => rw [Option.map_some, if_neg e]
 ·rw [if_neg a]
  refine wZ k j y kvs ?_
  rw [Z0] at a
  cases q : jE kvs k with
  | none => rfl
  | some x => rw [q] at a; exact (a rfl).elim
theorem j5 (kvs : List (κ × V)) (k : κ) (v : V) : (j9 kvs k v).length <= kvs.length + 1 := by
 unfold j9
 split
 ·rw [List.length_map]; omega
 ·rw [List.length_append, List.length_cons, List.length_nil]; omega
theorem yq {kvs : List (κ × V)} {k : κ} (v : V) (h : jE kvs k = none) : j9 kvs k v = kvs ++ [(k, v)] := by
 unfold j9
 rw [Z0, h]
 exact if_neg (by decide)
theorem ya.isSome_eq {o : Option V} {u : Option Value} (r : ya o u) : o.isSome = u.isSome := by
 cases o with
 | none => cases u with
  | none => rfl
  | some _ => exact (show False from r).elim
 | some _ => cases u with
  | none => exact (show False from r).elim
  | some _ => rfl
theorem ya.getD {o : Option V} {u : Option Value} {d : V} {d' : Value} (r : ya o u) (rd : RelV d d') : RelV (o.getD d) (u.getD d') := by
 cases o with
 | none => cases u with
  | none => exact rd
  | some _ => exact (show False from r).elim
 | some _ => cases u with
  | none => exact (show False from r).elim
  | some _ => exact r
theorem KV.val {kvs : List (κ × V)} {vs : List (κ × Value)} (r : KV kvs vs) (k : κ) : ya (jE kvs k) (valueAt vs k) := by
 unfold KV at r
 induction r with
 | nil => exact True.intro
 | @cons p q ps qs h t ih =>
  obtain ⟨h1, h2⟩ := h
  by_cases e : p.1 = k
  ·have e' : q.1 = k := h1.symm.trans e
   have b : valueAt (q :: qs) k = some q.2 := by simp [valueAt, List.find?_cons, e']
   rw [qt e, b]; exact h2
  ·have e' : ¬ q.1 = k := fun z => e (h1.trans z)
   have b : valueAt (q :: qs) k = valueAt qs k := by simp [valueAt, List.find?_cons, e']
   rw [qh e, b]; exact ih
theorem KV.any {kvs : List (κ × V)} {vs : List (κ × Value)} (r : KV kvs vs) (k : κ) : (kvs.any fun kv => decide (kv.1 = k)) = vs.any fun kv => decide (kv.1 = k) := by
 unfold KV at r
 induction r with
 | nil => rfl
 | cons h t ih => rw [List.any_cons, List.any_cons, ih, h.1]
theorem KV.repl {kvs : List (κ × V)} {vs : List (κ × Value)} (r : KV kvs vs) (k : κ) {y : V} {u : Value} (ry : RelV y u) :
  KV (kvs.map fun kv => if kv.1 = k then (kv.1, y) else kv) (vs.map fun kv => if kv.1 = k then (kv.1, u) else kv) := by
 unfold KV at r ⊢
 induction r with
 | nil => exact .nil
 | @cons p q ps qs h t ih =>
  rw [List.map_cons, List.map_cons]
  refine .cons ?_ ih
  obtain ⟨h1, h2⟩ := h
  by_cases e : p.1 = k
  ·rw [if_pos e, if_pos (h1.symm.trans e)]; exact ⟨h1, ry⟩
  ·rw [if_neg e, if_neg (fun z => e (h1.trans z))]; exact ⟨h1, h2⟩
theorem KV.put {kvs : List (κ × V)} {vs : List (κ × Value)} (r : KV kvs vs) (k : κ) {y : V} {u : Value} (ry : RelV y u) : KV (j9 kvs k y) (stored vs k u) := by
 unfold j9 stored
 rw [r.any k]
 by_cases e : (vs.any fun kv => decide (kv.1 = k)) = true
 ·rw [if_pos e, if_pos e]; exact r.repl k ry
 ·rw [if_neg e, if_neg e]; exact Paired.snoc r ⟨rfl, ry⟩
theorem KV.keys {kvs : List (κ × V)} {vs : List (κ × Value)} (r : KV kvs vs) : kvs.map (·.1) = vs.map (·.1) := by
 unfold KV at r
 induction r with
 | nil => rfl
 | cons h t ih => rw [List.map_cons, List.map_cons, ih, h.1]
theorem KV.length {kvs : List (κ × V)} {vs : List (κ × Value)} (r : KV kvs vs) : kvs.length = vs.length := Paired.length r
end
theorem w4 {P : Program} {w : World} {k : Key} {u : Value} (r : RelV (kV k) u) : (zE P w).is k u = true := by
 cases k with
 | inl i => obtain ⟨t, e⟩ := (show ∃ t, u = Value.int i t from r); subst e; exact WB P w i t
 | inr x => obtain ⟨t, e⟩ := (show ∃ t, u = Value.str x t from r); subst e; exact WC P w x t
theorem w6 {P : Program} {w : World} : ∀ {ks : List Key} {us : List Value}, qo (ks.map kV) us -> ItemsAre (zE P w) ks us
 | [], _, r => by rw [List.map_nil] at r; cases r; exact .nil
 | k :: ks, _, r => by
  rw [List.map_cons] at r
  cases r with
  | cons h t => exact .cons (w4 h) (w6 t)
abbrev KT (H : Hp) : List (List Key × V) -> List (List Key × Addr × Value) -> Prop := Paired fun p q => p.1 = q.1 /\ H q.2.1 = some (.tup (p.1.map kV)) /\ RelV p.2 q.2.2
theorem KT.val {H : Hp} {kvs : List (List Key × V)} {xs : List (List Key × Addr × Value)} (r : KT H kvs xs) (k : List Key) : ya (jE kvs k) ((atKey xs k).map (·.2)) := by
 induction r with
 | nil => exact True.intro
 | @cons p q ps qs h t ih =>
  obtain ⟨h1, _, h2⟩ := h
  by_cases e : p.1 = k
  ·have e' : q.1 = k := h1.symm.trans e
   have b : atKey (q :: qs) k = some q.2 := by simp [atKey, List.find?_cons, e']
   rw [qt e, b]; exact h2
  ·have e' : ¬ q.1 = k := fun z => e (h1.trans z)
   have b : atKey (q :: qs) k = atKey qs k := by simp [atKey, List.find?_cons, e']
   rw [qh e, b]; exact ih
theorem KT.repl {H : Hp} {kvs : List (List Key × V)} {xs : List (List Key × Addr × Value)} (r : KT H kvs xs) (k : List Key) {y : V} {u : Value} (ry : RelV y u) :
  KT H (kvs.map fun kv => if kv.1 = k then (kv.1, y) else kv) (xs.map (putAt k u)) := by
 induction r with
 | nil => exact .nil
 | @cons p q ps qs h t ih =>
  rw [List.map_cons, List.map_cons]
  refine .cons ?_ ih
  obtain ⟨h1, h2, h3⟩ := h
  unfold putAt
  by_cases e : p.1 = k
  ·rw [if_pos e, if_pos (h1.symm.trans e)]; exact ⟨h1, h2, ry⟩
  ·rw [if_neg e, if_neg (fun z => e (h1.trans z))]; exact ⟨h1, h2, h3⟩
theorem KT.put {H : Hp} {kvs : List (List Key × V)} {xs : List (List Key × Addr × Value)} (r : KT H kvs xs) (k : List Key) {b : Addr} {y : V} {u : Value} (hb : H b = some (.tup (k.map kV))) (ry : RelV y u) :
  KT H (j9 kvs k y) (storedH xs k b u) := by
 have e : (kvs.any fun kv => decide (kv.1 = k)) = (atKey xs k).isSome := by
  rw [Z0, (r.val k).isSome_eq, Option.isSome_map]
 unfold j9 storedH
 rw [e]
 by_cases q : (atKey xs k).isSome = true
 ·rw [if_pos q, if_pos q]; exact r.repl k ry
 ·rw [if_neg q, if_neg q]; exact Paired.snoc r ⟨rfl, hb, ry⟩
theorem KT.keeps {H H' : Hp} {kvs : List (List Key × V)} {xs : List (List Key × Addr × Value)} (r : KT H kvs xs) (ht : ∀ b ys, H b = some (.tup ys) -> H' b = some (.tup ys)) : KT H' kvs xs :=
 Paired.mapP r fun _ _ z => ⟨z.1, ht _ _ z.2.1, z.2.2⟩
section
variable {P : Program} {w : World} {H : Hp} {h : Heap} {a : Addr}
theorem rd_of {u : HO} (ok : HOk P w H h) (e : Rd H a u) : qu P w H h a u := e.ok ok
theorem J2 {kvs : List (Key × V)} (ok : HOk P w H h) (e : Rd H a (.dK kvs)) : kvs.length <= sizeLine /\ (a == sysModules) = false /\ ∃ vs, KV kvs vs /\ h.DictOf (zE P w) a vs :=
 show qu P w H h a (.dK kvs) from rd_of ok e
theorem xg {kvs : List (Key × V)} (ok : HOk P w H h) (e : H a = some (.dK kvs)) : kvs.length <= sizeLine /\ (a == sysModules) = false /\ ∃ vs, KV kvs vs /\ h.DictOf (zE P w) a vs := J2 ok (.inl e)
theorem QT {ks : List Key} (ok : HOk P w H h) (e : H a = some (.tup (ks.map kV))) : (tupleKind (zE P w)).is h ks a := by
 obtain ⟨_, its, r, o, h1, h2, ⟨n, h3⟩, _⟩ := (show qu P w H h a (.tup (ks.map kV)) from ok a _ e)
 exact ⟨o, its.toArray, n, h1, h2, h3, by simpa using w6 r⟩
theorem WG {kvs : List (List Key × V)} (ok : HOk P w H h) (e : Rd H a (.dT kvs)) : kvs.length <= sizeLine /\ (a == sysModules) = false /\
  ∃ xs, KT H kvs xs /\ h.DictOfH (tupleKind (zE P w)) a xs := by
 obtain ⟨z, y, xs, r, o, es, ep, h1, h2, h3, h4, h5⟩ := (show qu P w H h a (.dT kvs) from rd_of ok e)
 refine ⟨z, y, xs, r, o, es, ep, h1, h2, h3, h4, fun x hx => ?_, h5⟩
 have all : ∀ {l : List (List Key × V)} {m : List (List Key × Addr × Value)}, KT H l m -> ∀ x ∈ m, (tupleKind (zE P w)).is h x.1 x.2.1 := by
  intro l m q
  induction q with
  | nil => intro x hx; exact nomatch hx
  | @cons p q ps qs hq t ih =>
   intro x hx
   rcases List.mem_cons.mp hx with e | hx
   ·subst e
    exact QT ok (by rw [<- hq.1]; exact hq.2.1)
   ·exact ih x hx
 exact all r x hx
theorem dt_of {kvs : List (List Key × V)} (ok : HOk P w H h) (e : H a = some (.dT kvs)) : kvs.length <= sizeLine /\ (a == sysModules) = false /\
  ∃ xs, KT H kvs xs /\ h.DictOfH (tupleKind (zE P w)) a xs := WG ok (.inl e)
end
def WA (H : Hp) (a : Addr) (y : V) (r : Option V) : Prop :=
 (∃ kvs k, Rd H a (.dK kvs) /\ y = kV k /\ r = jE kvs k) \/ ∃ kvs k b, Rd H a (.dT kvs) /\ y = .ref b /\ H b = some (.tup (k.map kV)) /\ r = jE kvs k
def DPut (H : Hp) (a : Addr) (y v : V) (H' : Hp) : Prop :=
 (∃ kvs k, H a = some (.dK kvs) /\ y = kV k /\ kvs.length < sizeLine /\ H' = upd H a (.dK (j9 kvs k v))) \/
 ∃ kvs k b, H a = some (.dT kvs) /\ y = .ref b /\ H b = some (.tup (k.map kV)) /\ kvs.length < sizeLine /\ H' = upd H a (.dT (j9 kvs k v))
theorem WA.k {H : Hp} {a : Addr} {kvs : List (Key × V)} {k : Key} (e : H a = some (.dK kvs)) : WA H a (kV k) (jE kvs k) := .inl ⟨kvs, k, .inl e, rfl, rfl⟩
theorem WA.t {H : Hp} {a b : Addr} {kvs : List (List Key × V)} {k : List Key} (e : H a = some (.dT kvs)) (eb : H b = some (.tup (k.map kV))) : WA H a (.ref b) (jE kvs k) := .inr ⟨kvs, k, b, .inl e, rfl, eb, rfl⟩
theorem DPut.k {H : Hp} {a : Addr} {kvs : List (Key × V)} {k : Key} {v : V} (e : H a = some (.dK kvs)) (hl : kvs.length < sizeLine) : DPut H a (kV k) v (upd H a (.dK (j9 kvs k v))) := .inl ⟨kvs, k, e, rfl, hl, rfl⟩
section
variable {X : Cx} {pins : List (Addr × Obj)} {σ : St} {H : Hp} {s : Shared} {a : Addr} {y v : V} {u r : Value} {o : Option V} {A : Around} {E : Value -> Shared -> Prop}
theorem Inv.big (I : Inv X pins σ H s) : sysModules < s.heap.objs.size := by
 have h : mainGlobals < s.heap.objs.size := (I.mod.glob.keeps I.bk).lt
 exact Nat.lt_trans (by decide) h
theorem xh {Q : Value -> Shared -> Prop} (hu : A.units + 1 < cLine) (I : Inv X pins σ H s) (g : WA H a y (some v)) (ry : RelV y u) (h : ∀ w' s', Inv X pins σ H s' -> RelV v w' -> Q w' s') :
  wpAny (model X.prog X.w) A (getItem (.ref a) u) Q E s := by
 rcases g with ⟨kvs, k, e, ey, l⟩ | ⟨kvs, k, b, e, ey, eb, l⟩
 ·subst ey
  obtain ⟨z, hd, vs, rel, dd⟩ := J2 I.hok e
  obtain ⟨w', hw, rw'⟩ := ya.some_of (v := v) (o := valueAt vs k) (by rw [l]; exact rel.val k)
  exact wpAny_getItem_of (w4 ry) dd.mapOf hw (h w' _ (I.tok _) rw')
 ·subst ey
  cases (show u = Value.ref b from ry)
  obtain ⟨z, hd, xs, rel, dd⟩ := WG I.hok e
  obtain ⟨w', hw, rw'⟩ := ya.some_of (v := v) (o := (atKey xs k).map (·.2)) (by rw [l]; exact rel.val k)
  obtain ⟨p, hp, hp2⟩ := Option.map_eq_some_iff.mp hw
  refine wpAny_getItem_heap (tupleKind_room_in1 hu) (QT I.hok eb) dd hp ?_
  rw [hp2]
  exact h w' _ (I.tok _) rw'
theorem d_in {Q : Value -> Shared -> Prop} (hu : A.units + 1 < cLine) (I : Inv X pins σ H s) (g : WA H a y o) (ry : RelV y u) (h : ∀ s', Inv X pins σ H s' -> Q (.bool o.isSome) s') :
  wpAny (model X.prog X.w) A (compareOp .In u (.ref a)) Q E s := by
 rcases g with ⟨kvs, k, e, ey, l⟩ | ⟨kvs, k, b, e, ey, eb, l⟩
 ·subst ey
  obtain ⟨z, hd, vs, rel, dd⟩ := J2 I.hok e
  refine wpAny_in_of (w4 ry) hd dd.mapOf ?_
  rw [<- (rel.val k).isSome_eq, <- l]
  exact h _ (I.tok _)
 ·subst ey
  cases (show u = Value.ref b from ry)
  obtain ⟨z, hd, xs, rel, dd⟩ := WG I.hok e
  refine wpAny_in_heap (tupleKind_room_in1 hu) (QT I.hok eb) hd dd ?_
  have q := (rel.val k).isSome_eq
  rw [Option.isSome_map] at q
  rw [<- q, <- l]
  exact h _ (I.tok _)
theorem d_notIn {Q : Value -> Shared -> Prop} (hu : A.units + 1 < cLine) (I : Inv X pins σ H s) (g : WA H a y o) (ry : RelV y u) (h : ∀ s', Inv X pins σ H s' -> Q (.bool (!o.isSome)) s') :
  wpAny (model X.prog X.w) A (compareOp .NotIn u (.ref a)) Q E s := by
 rcases g with ⟨kvs, k, e, ey, l⟩ | ⟨kvs, k, b, e, ey, eb, l⟩
 ·subst ey
  obtain ⟨z, hd, vs, rel, dd⟩ := J2 I.hok e
  refine wpAny_notIn_of (w4 ry) hd dd.mapOf ?_
  rw [<- (rel.val k).isSome_eq, <- l]
  exact h _ (I.tok _)
 ·subst ey
  cases (show u = Value.ref b from ry)
  obtain ⟨z, hd, xs, rel, dd⟩ := WG I.hok e
  refine wpAny_notIn_heap (tupleKind_room_in1 hu) (QT I.hok eb) hd dd ?_
  have q := (rel.val k).isSome_eq
  rw [Option.isSome_map] at q
  rw [<- q, <- l]
  exact h _ (I.tok _)
theorem xi {h' : Heap} {t' : Nat} {ob : HO} (I : Inv X pins σ H s) (mu : Mut (H a)) (hs : Heap.SameBut a s.heap h') (he : ∃ q, h'.get? a = some q) (new : qu X.prog X.w (upd H a ob) h' a ob) :
  Inv X pins σ (upd H a ob) { s with heap := h', toks := t' } :=
 I.write (x := a) (e := a) mu (.inl rfl) (fun b q hb z => (hs.2 b hb).trans z) he new
theorem dk_new {P : Program} {w : World} {H' : Hp} {h' : Heap} {kvs : List (Key × V)} {vs : List (Key × Value)} (z : kvs.length <= sizeLine) (hd : (a == sysModules) = false) (rel : KV kvs vs) (dd : h'.DictOf (zE P w) a vs) :
  qu P w H' h' a (.dK kvs) := ⟨z, hd, vs, rel, dd⟩
theorem xj {H' : Hp} {Q : Unit -> Shared -> Prop} (hu : A.units + 1 < cLine) (I : Inv X pins σ H s) (g : DPut H a y v H') (ry : RelV y u) (rv : RelV v r) (h : ∀ s', Inv X pins σ H' s' -> Q () s') :
  wpAny (model X.prog X.w) A (setItem (.ref a) u r) Q E s := by
 rcases g with ⟨kvs, k, e, ey, l, eH⟩ | ⟨kvs, k, b, e, ey, eb, l, eH⟩
 ·subst ey eH
  obtain ⟨z, hd, vs, rel, dd⟩ := xg I.hok e
  have hz : vs.length <= sizeLine := by rw [<- rel.length]; exact z
  have hl : (j9 kvs k v).length <= sizeLine := by have := j5 kvs k v; omega
  refine wpAny_setItem_pairs (hsz := hz) (w4 ry) dd fun h' dd' hs => h _ ?_
  have he : ∃ q, h'.get? a = some q := let ⟨q, _, _, hq, _⟩ := dd'; ⟨q, hq⟩
  exact xi I (by rw [e]; exact True.intro) hs he (dk_new hl hd (rel.put k rv) dd')
 ·subst ey eH
  cases (show u = Value.ref b from ry)
  obtain ⟨z, hd, xs, rel, dd⟩ := dt_of I.hok e
  have hz : xs.length <= sizeLine := by rw [<- Paired.length rel]; exact z
  have hl : (j9 kvs k v).length <= sizeLine := by have := j5 kvs k v; omega
  refine wpAny_setItem_heap (hsz := hz) (tupleKind_room_in1 hu) (QT I.hok eb) dd fun h' dd' hs => h _ ?_
  obtain ⟨q, es, ep, hq, h2, h3, h4, _, h5⟩ := dd'
  refine xi I (by rw [e]; exact True.intro) hs ⟨q, hq⟩ ⟨hl, hd, _, (rel.put k eb rv).keeps fun c ys ec => ?_, q, es, ep, hq, h2, h3, h4, h5⟩
  rw [zn (wC ec e (fun z => nomatch z))]
  exact ec
end
section
variable {X : Cx} {pins : List (Addr × Obj)} {σ : St} {H : Hp} {s : Shared} {a : Addr} {kvs : List (Key × V)} {k : Key} {u : Value} {A : Around} {E : Value -> Shared -> Prop}
theorem d_len {Q : Value -> Shared -> Prop} (I : Inv X pins σ H s) (e : Rd H a (.dK kvs)) (h : ∀ t s', Inv X pins σ H s' -> Q (.int kvs.length t) s') : wpAny (model X.prog X.w) A (call (.builtin "len") [.ref a]) Q E s := by
 obtain ⟨z, hd, vs, rel, dd⟩ := J2 I.hok e
 refine call_len_dict hd dd (by rw [<- rel.length]; rw [sizeLine_eq] at z; omega) ?_
 rw [<- rel.length]
 exact h _ _ (I.tok _)
end
def NoSl (i : Expr) : Prop := ∀ ov iv, subscripted i false ov iv = operate [ov, iv] (getItem ov iv)
theorem xk {prog : Program} {w : World} {A : Around} {E : Value -> Shared -> Prop} {s : Shared} {env : Env} {value slice : Expr} {pos : Pos} {T id : String} {Q : Value -> Shared -> Prop}
  (hl : typeLookup (.type T) "__getitem__" = pure (some (.builtin id))) (hs : NoSl slice)
  (h : wpAny (model prog w) A (eval value env) (fun o s₁ => wpAny (model prog w) A (eval slice env) (fun i s₂ => s₂.TypeIs o T /\ wpAny (model prog w) A (getItem o i) Q E s₂) E s₁) E s) :
  wpAny (model prog w) A (eval (.Subscript value slice pos) env) Q E s := by
 refine Subscript_ (wpAny_mono h (fun o s₁ h₁ => wpAny_mono h₁ (fun i s₂ h₂ => ?_) fun _ _ x => x) fun _ _ x => x)
 obtain ⟨hT, h₂⟩ := h₂
 unfold subscriptTail
 refine wpAny_bind ?_
 rw [getitemInPython_of_ne hT.not_modules]
 refine wpAny_bind (wpAny_specialOf hT hl ?_)
 have fin : wpAny (model prog w) A (subscripted slice false o i) (fun r s₃ => wpAny (model prog w) A (letTemporaryGo value o r >>= fun _ => pure r) Q E s₃) E s₂ := by
  rw [hs o i]
  exact wpAny_operating (wpAny_mono h₂ (fun r s₃ h₃ => wpAny_bind (wpAny_letTemporaryGo (wpAny_pure h₃))) fun _ _ x => x)
 first
  | exact wpAny_pure (wpAny_bind fin)
  | exact wpAny_bind (wpAny_pure (wpAny_bind fin))
  | exact wpAny_bind fin
theorem WH {X : Cx} {pins : List (Addr × Obj)} {σ : St} {H : Hp} {s : Shared} {a : Addr} {y : V} {o : Option V} (I : Inv X pins σ H s) (g : WA H a y o) : s.TypeIs (.ref a) "dict" := by
 rcases g with ⟨kvs, k, e, _, _⟩ | ⟨kvs, k, b, e, _, _, _⟩
 ·obtain ⟨_, _, vs, _, dd⟩ := J2 I.hok e
  exact dd.typeIs
 ·obtain ⟨_, _, xs, _, dd⟩ := WG I.hok e
  exact dd.typeIs
def tDGet (td ty : TE) : TE := fun σ H Q => td σ H fun x H1 => ty σ H1 fun y H2 => ∃ a v, x = .ref a /\ WA H2 a y (some v) /\ Q v H2
section
variable {X : Cx} {o i e value : Expr} {pos pos' tpos : Pos} {td ty tv : TE}
theorem pe_dget (hu : X.A.units + 1 < cLine) (ho : PE X o td) (hi : PE X i ty) (hs : NoSl i) : PE X (.Subscript o i pos) (tDGet td ty) := by
 intro pins s σ H Q I h
 refine xk PySem.F.slot_dict_getitem.lookup hs (thn (ho pins s σ H _ I h) fun u s1 ⟨x, H1, I1, rx, q1⟩ => thn (hi pins s1 σ H1 _ I1 q1) fun iv s2 ⟨y, H2, I2, ry, a, v, ex, g, q2⟩ => ?_)
 subst ex
 obtain rfl : u = Value.ref a := rx
 exact ⟨WH I2 g, xh hu I2 g ry fun w' s3 I3 rw' => ⟨v, H2, I3, rw', q2⟩⟩
end
theorem dk_empty {P : Program} {w : World} {H : Hp} (h : Heap) (hb : sysModules < h.objs.size) : qu P w H (h.push { cls := .type "dict", data := .dict #[] }) h.objs.size (.dK []) :=
 ⟨Nat.zero_le _, beq_eq_false_iff_ne.mpr (Ne.symm (Nat.ne_of_lt hb)), [], .nil, Heap.DictOf.new h⟩
def tDNewK : TE := fun _ H Q => ∀ p, H p = none -> Q (.ref p) (upd H p (.dK []))
section
variable {X : Cx} {pos : Pos}
theorem J3 : PE X (.Dict [] [] pos) tDNewK := fun pins s σ H Q I h =>
 wpAny_Dict_empty ⟨.ref s.heap.objs.size, _, I.laid (a := s.heap.objs.size) (o := .dK []) (t' := s.toks) (fun _ _ q => Heap.get?_push_of_some _ q) (Nat.le_refl _) (dk_empty s.heap I.big), rfl, h _ (I.hok.fresh (Nat.le_refl _))⟩
end
structure M2 (X : Cx) (o : Expr) (m : Str) (apos : Pos) (e f : Expr) (cpos : Pos) : Prop where
 base : attributeBase o m X.env (eval o X.env) = eval o X.env
 few : ((backTo cpos (starEach [e, f] X.env)).all (fun x => !x.1) && (backToKw cpos (keywordEach [] X.env)).all (fun x => x.1.isSome)
  && decide (([e, f] : List Expr).length + ([] : List Keyword).length + (if ([] : List Keyword).isEmpty then 0 else 1) < 30)) = true
 line : (apos.endLine == cpos.line) = true
 trees : backTo cpos (starEach [e, f] X.env) = [(false, eval e X.env), (false, eval f X.env)]
def IsD (H : Hp) (a : Addr) : Prop := (∃ kvs, Rd H a (.dK kvs)) \/ ∃ kvs, Rd H a (.dT kvs)
theorem isD_at {X : Cx} {pins : List (Addr × Obj)} {σ : St} {H : Hp} {s : Shared} {a : Addr} (I : Inv X pins σ H s) (d : IsD H a) :
  s.TypeIs (.ref a) "dict" /\ (∀ b, Value.ref a = .ref b -> ∃ ob, s.heap.get? b = some ob /\ ob.dict = none) /\ (a == sysModules) = false := by
 rcases d with ⟨kvs, e⟩ | ⟨kvs, e⟩
 ·obtain ⟨_, hd, vs, _, dd⟩ := J2 I.hok e
  refine ⟨dd.typeIs, fun b q => ?_, hd⟩
  cases q
  obtain ⟨ob, _, _, h1, h2, _⟩ := dd
  exact ⟨ob, h1, h2.2.1⟩
 ·obtain ⟨_, hd, xs, _, dd⟩ := WG I.hok e
  refine ⟨dd.typeIs, fun b q => ?_, hd⟩
  cases q
  obtain ⟨ob, _, _, h1, h2, _⟩ := dd
  exact ⟨ob, h1, h2.2.1⟩
section
variable {X : Cx} {pins : List (Addr × Obj)} {σ : St} {H : Hp} {s : Shared} {a : Addr} {y d : V} {u r : Value} {o : Option V} {A : Around} {E : Value -> Shared -> Prop}
theorem d_get2 {Q : Value -> Shared -> Prop} (hu : A.units + 1 < cLine) (I : Inv X pins σ H s) (g : WA H a y o) (ry : RelV y u) (rd : RelV d r) (h : ∀ w' s', Inv X pins σ H s' -> RelV (o.getD d) w' -> Q w' s') :
  wpAny (model X.prog X.w) A (call (.builtin "dict.get") [.ref a, u, r]) Q E s := by
 rcases g with ⟨kvs, k, e, ey, l⟩ | ⟨kvs, k, b, e, ey, eb, l⟩
 ·subst ey
  obtain ⟨z, hd, vs, rel, dd⟩ := J2 I.hok e
  refine call_meetsIn PySem.F.slot_dict_get dd.typeIs PySem.F.entry_dict_get (PySem.F.args_dict_get_3 _ _ _) (meets_dict_get_default (zE X.prog X.w) a (w4 ry) hd r) ⟨_, dd.mapOf, h _ _ (I.tok _) ?_⟩
  rw [l]
  exact (rel.val k).getD rd
 ·subst ey
  cases (show u = Value.ref b from ry)
  obtain ⟨z, hd, xs, rel, dd⟩ := WG I.hok e
  refine call_meetsIn PySem.F.slot_dict_get dd.typeIs PySem.F.entry_dict_get (PySem.F.args_dict_get_3 _ _ _) (meetsH_dict_get_default (tupleKind (zE X.prog X.w)) a b hd r) ⟨tupleKind_room_in1 hu, k, xs, QT I.hok eb, dd, h _ _ (I.tok _) ?_⟩
  rw [l]
  exact (rel.val k).getD rd
end
def tDGet2 (td ty tx : TE) : TE := fun σ H Q => td σ H fun x H1 => ∃ a, x = .ref a /\ IsD H1 a /\ ty σ H1 fun y H2 => tx σ H2 fun z H3 => ∃ o, WA H3 a y o /\ Q (o.getD z) H3
section
theorem pe_dget2 (hu : X.A.units + 1 < cLine) (ho : PE X o td) (he : PE X e ty) (hf : PE X f tx) (m : M2 X o "get" apos e f cpos) : PE X (.Call (.Attribute o "get" apos) [e, f] [] cpos) (tDGet2 td ty tx) := by
 intro pins s σ H Q I h
 refine wpAny_Call_method m.base m.few m.line PySem.F.plainAttrs_dict PySem.F.slot_dict_get PySem.F.type_dict_get (thn (ho pins s σ H _ I h) fun u s1 ⟨x, H1, I1, rx, a, ex, d, q1⟩ => ?_)
 subst ex
 obtain rfl : u = Value.ref a := rx
 obtain ⟨t1, t2, _⟩ := isD_at I1 d
 refine ⟨t1, t2, ?_⟩
 rw [m.trees]
 refine Calls.callWith_builtin rfl (Calls.evalArgs_plain (Calls.spliced_cons (thn (he pins s1 σ H1 _ I1 q1) fun iv s2 ⟨y, H2, I2, ry, q2⟩ =>
  Calls.spliced_cons (thn (hf pins s2 σ H2 _ I2 q2) fun fv s3 ⟨z, H3, I3, rz, ov, g, q3⟩ => Calls.spliced_nil ?_))))
 exact d_get2 hu I3 g ry rz fun w' s4 I4 rw' => ⟨_, H3, I4, rw', q3⟩
end
section
variable {X : Cx} {pins : List (Addr × Obj)} {σ : St} {H : Hp} {s : Shared} {a : Addr} {kvs : List (Key × V)} {A : Around} {E : Value -> Shared -> Prop}
theorem d_copyOf {Q : Value -> Shared -> Prop} (I : Inv X pins σ H s) (e : Rd H a (.dK kvs)) (h : ∀ p s', H p = none -> Inv X pins σ (upd H p (.dK kvs)) s' -> Q (.ref p) s') : wpAny (model X.prog X.w) A (call (.type "dict") [.ref a]) Q E s := by
 obtain ⟨z, hd, vs, rel, dd⟩ := J2 I.hok e
 refine kt_call_dict hd dd (by rw [<- rel.length]; exact z) fun h' dd' hs => ?_
 refine h _ _ (I.hok.fresh (Nat.le_refl _)) (I.laid (a := s.heap.objs.size) (o := .dK kvs) (t' := s.toks) (fun b q hq => ?_) (Nat.le_refl _) (dk_new z (beq_eq_false_iff_ne.mpr (Ne.symm (Nat.ne_of_lt I.big))) rel dd'))
 exact (hs.2 b (Nat.ne_of_lt (Heap.lt_size hq))).trans (Heap.get?_push_of_some _ hq)
end
section
variable {X : Cx} {pins : List (Addr × Obj)} {σ : St} {H : Hp} {s : Shared} {a : Addr} {y : V} {u : Value} {A : Around} {E : Value -> Shared -> Prop}
end
end L2
namespace L2
open PySem PySem.Spec PyProof.Rows
theorem no_keys : typeLookup (.type "list") "keys" = pure none := am_miss_of_fast (by decide +kernel)
theorem zT : plainId "dict.update.loop" = true := by decide +kernel
theorem jc : entryFor table "dict.update.loop" = some Builtin.«dict.update.loop» := entryFor_of_fast (by kernel_rfl)
theorem Qx : isSubtype (.type "AttributeError") (.type "AttributeError") = pure true := by rw [isSubtype_type]; kernel_rfl
theorem keys_by {prog : Program} {w : World} {A : Around} {E : Value -> Shared -> Prop} {s : Shared} {a : Addr} {o : Obj} {xs : Array Value} {k : Nat} {t : Tok} {Q : Value -> Shared -> Prop}
  (hx : s.heap.get? a = some o) (hc : o.cls = .type "list") (hdat : o.data = .seq xs k) (hd : o.dict = none) (hA : A.handled = none)
  (h : ∀ h' tk e, Heap.NewExcOf s.heap h' e "AttributeError" -> E (.ref e) { s with heap := h', toks := tk }) :
  wpAny (model prog w) A (getAttrBy (.ref a) (.str "keys" t) false) Q E s := by
 obtain ⟨c, dct, dat, sl⟩ := o
 simp only at hc hdat hd
 subst hc hdat hd
 obtain ⟨hp, g, d, tk, os⟩ := s
 have hT : ∀ tk', (⟨hp, g, d, tk', os⟩ : Shared).TypeIs (.ref a) "list" := fun _ => ⟨_, hx, rfl⟩
 have f1 := Qx
 have f3 := PySem.F.slot_list_getattribute.lookup
 have f4 := PySem.F.slot_list_getattribute.bind (.ref a)
 have f5 := am_list_getattr_none
 unfold getAttrBy
 repeat (any_goals (first | assumption | exact hT _ | ((with_reducible show wpAny _ _ (call (Value.builtin "list.__getattribute__") _ _) _ _ _); refine call_meets PySem.F.slot_list_getattribute (hT _) am_entry_list_getattribute (PySem.F.args_list_getattribute_2 _ _) (meets_getattribute_miss_list a xs k sl "keys" _ no_keys (by decide) (by decide)) ⟨hx, hA, fun h' tk' e hx' => ?_⟩) | wp_step))
 obtain ⟨t', u', he⟩ := hx'.there
 show wpAny _ _ (getattributeRaised _ _ _ _ _ _ _) _ _ _
 unfold getattributeRaised
 repeat (any_goals (first | assumption | wp_step))
 exact h _ _ _ hx'.of
theorem w8 {prog : Program} {w : World} {A : Around} {E : Value -> Shared -> Prop} {s : Shared} {a : Addr} {o : Obj} {xs : Array Value} {k : Nat} {Q : Option Value -> Shared -> Prop}
  (hx : s.heap.get? a = some o) (hc : o.cls = .type "list") (hdat : o.data = .seq xs k) (hd : o.dict = none) (hA : A.handled = none)
  (h : ∀ h' tk, (∀ b ob, s.heap.get? b = some ob -> h'.get? b = some ob) -> Q none { s with heap := h', toks := tk }) :
  wpAny (model prog w) A (getAttr? (.ref a) "keys") Q E s := by
 unfold getAttr? getAttrBy?
 refine wpAny_bind (wpAny_mkText (wpAny_bind (wpAny_attempt (keys_by (s := { s with toks := s.toks + 1 }) hx hc hdat hd hA fun h' tk e ne => ?_))))
 obtain ⟨kp, nw, ob, vs, he, h1, h2⟩ := ne
 refine wpAny_bind (wpAny_isInstance (T := "AttributeError") (b := true) ⟨ob, he, h1⟩ Qx ?_)
 exact wpAny_pure (h h' tk kp)
def putAll (kvs : List (Key × V)) (ps : List (Key × V)) : List (Key × V) := ps.foldl (fun acc p => j9 acc p.1 p.2) kvs
section
variable {prog : Program} {w : World} {A : Around} {R : Result -> Shared -> Prop}
def QU (prog : Program) (w : World) (h : Heap) (v : Value) (k : Key) (x : Value) : Prop := ∃ b key, v = .ref b /\ h.IsTuple b #[key, x] /\ (zE prog w).is k key = true
theorem QU.keep {prog : Program} {w : World} {h h' : Heap} {v x : Value} {k : Key} {b0 : Addr} (p : QU prog w h v k x) (hs : ∀ b o, b ≠ b0 -> h.get? b = some o -> h'.get? b = some o) (hn : ∀ o, h.get? b0 = some o -> o.cls ≠ .type "tuple") : QU prog w h' v k x := by
 obtain ⟨b, key, rfl, ⟨o, e, c, r⟩, hk⟩ := p
 exact ⟨b, key, rfl, ⟨o, hs b o (fun z => by subst z; exact hn o e c) e, c, r⟩, hk⟩
theorem upd_loop (hh : A.handled = none) (D L it : Addr) (items : Array Value) (hDL : D ≠ L) (hDi : D ≠ it) (hLi : L ≠ it) (ps : List (Key × Value)) (hlen : ps.length = items.size) (hsz : ps.length <= sizeLine) :
  ∀ (n i : Nat) (s : Shared) (acc : List (Key × Value)), n + i = items.size -> acc.length <= i -> s.heap.IsListIter it L i -> s.heap.IsList L items -> s.heap.DictOf (zE prog w) D acc ->
  (∀ (j : Nat) (p : Key × Value) (v : Value), ps[j]? = some p -> items[j]? = some v -> QU prog w s.heap v p.1 p.2) ->
  (∀ h' tk, h'.DictOf (zE prog w) D ((ps.drop i).foldl (fun (acc : List (Key × Value)) (p : Key × Value) => stored acc p.1 p.2) acc) -> (∀ b o, b ≠ D -> b ≠ it -> s.heap.get? b = some o -> h'.get? b = some o) -> R (.ok (.ret .none)) { s with heap := h', toks := tk }) ->
  codeAny (model prog w) A (.builtin "dict.update.loop" ⟨[.ref D, .ref it, rawInt i, .none], []⟩) R s := by
 intro n
 induction n with
 | zero =>
  intro i s acc hn hacc hit hl hd hp hR
  refine codeAny_builtin jc ?_
  rw [Around.under_plainId zT _]
  show wpAny _ A.in1 (pyNext (.ref it) >>= _) _ _ s
  refine wpAny_bind (wpAny_pyNext_list_end (show A.in1.handled = none from hh) hit hl (by simp; omega) fun h' eb => ?_)
  show wpAny _ _ (Builtin.Dict.addKeywords D [] >>= _) _ _ _
  refine wpAny_bind (wpAny_pure (wpAny_pure (hR h' s.toks ?_ fun b o _ h2 e => eb b o h2 e)))
  rw [List.drop_eq_nil_of_le (by omega)]
  exact hd.extBut eb hDi
 | succ n ih =>
  intro i s acc hn hacc hit hl hd hp hR
  have hi : i < items.size := by omega
  obtain ⟨v, hv⟩ : ∃ v, items[i]? = some v := ⟨items[i], by simp [hi]⟩
  obtain ⟨p, hpi⟩ : ∃ p, ps[i]? = some p := ⟨ps[i]'(by omega), by rw [List.getElem?_eq_getElem (by omega)]⟩
  refine codeAny_builtin jc ?_
  rw [Around.under_plainId zT _]
  show wpAny _ A.in1 (pyNext (.ref it) >>= _) _ _ s
  refine wpAny_bind (wpAny_pyNext_list_item hit hl hv fun h1 hit1 hs1 => ?_)
  obtain ⟨oi, hoi, hci, _⟩ := hit
  have hp1 : ∀ (j : Nat) (p : Key × Value) (v : Value), ps[j]? = some p -> items[j]? = some v -> QU prog w h1 v p.1 p.2 := fun j p v a b => (hp j p v a b).keep (b0 := it) (fun b o hb e => hs1.extBut b o hb e) fun o e => by
   rw [hoi] at e; cases e; rw [hci]; decide
  obtain ⟨b, key, rfl, hb, hk⟩ := hp1 i p v hpi hv
  obtain ⟨ot, e1, e2, nt, e3⟩ := id hb
  have hd1 := hd.extBut hs1.extBut hDi
  refine wpAny_bind (wpAny_holding (wpAny_bind (wpAny_tryCatch ?_)))
  unfold Builtin.Dict.pairItems
  refine wpAny_bind (wpAny_typeOf (T := "tuple") ⟨ot, e1, e2⟩ ?_)
  rw [if_pos (by decide)]
  refine wpAny_bind (wpAny_seqItems e1 e3 (wpAny_pure ?_))
  show wpAny _ _ (holding [key, p.2] (dictSet D key p.2)) _ _ _
  refine wpAny_holding (wpAny_dictSet_pairs (hsz := by omega) hk hd1 fun h2 hd2 hs2 => ?_)
  refine wpAny_pure ⟨plainId_quiet zT _, ?_⟩
  have hl1 : h1.IsList L items := hl.extBut hs1.extBut hLi
  have hle : (stored acc p.1 p.2).length <= i + 1 := by
   unfold stored
   split
   ·rw [List.length_map]; omega
   ·rw [List.length_append]; simp; omega
  obtain ⟨oD, _, _, hoD, hcD, _⟩ := hd1
  have := ih (i + 1) { s with heap := h2, toks := s.toks + 1 } (stored acc p.1 p.2) (by omega) hle (hit1.extBut hs2.extBut (Ne.symm hDi)) (hl1.extBut hs2.extBut (Ne.symm hDL)) hd2 (fun j p v a b => (hp1 j p v a b).keep (b0 := D) (fun b o hb e => hs2.extBut b o hb e) fun o e => by
    rw [hoD] at e; cases e; rw [hcD.1]; decide) fun h' tk hd' hk' => ?_
  ·simpa using this
  ·refine hR h' tk ?_ fun b o h1 h2 e => hk' b o h1 h2 (hs2.extBut b o h1 (hs1.extBut b o h2 e))
   have e4 : ps.drop i = p :: ps.drop (i + 1) := by
    rw [List.getElem?_eq_some_iff] at hpi
    obtain ⟨h5, h6⟩ := hpi
    rw [<- h6]
    exact List.drop_eq_getElem_cons h5
   rw [e4, List.foldl_cons]
   exact hd'
theorem QV {E : Value -> Shared -> Prop} {Q : Value -> Shared -> Prop} {s : Shared} {L : Addr} {o : Obj} {items : Array Value} {k : Nat} {ps : List (Key × Value)} (hh : A.handled = none) (hx : s.heap.get? L = some o) (hc : o.cls = .type "list") (hdat : o.data = .seq items k) (hdn : o.dict = none)
  (hlen : ps.length = items.size) (hsz : ps.length <= sizeLine) (hp : ∀ (j : Nat) (p : Key × Value) (v : Value), ps[j]? = some p -> items[j]? = some v -> QU prog w s.heap v p.1 p.2)
  (h : ∀ h' tk, h'.DictOf (zE prog w) s.heap.objs.size (ps.foldl (fun (acc : List (Key × Value)) (p : Key × Value) => stored acc p.1 p.2) []) -> (∀ b o, s.heap.get? b = some o -> h'.get? b = some o) -> Q (.ref s.heap.objs.size) { s with heap := h', toks := tk }) :
  wpAny (model prog w) A (call (.type "dict") [.ref L]) Q E s := by
 refine callType_codes (Q₁ := fun obj s₁ => obj = .ref s.heap.objs.size /\ s₁ = { s with heap := s.heap.push { cls := .type "dict", data := .dict #[] } }) PySem.F.kt_called_dict (PySem.F.kt_typeCall_dict_1 _) PySem.F.entry_dict_init (kt_code_dict_new _ ⟨rfl, rfl⟩) ?_
 rintro obj s₁ ⟨rfl, rfl⟩
 have hnew : (s.heap.push { cls := .type "dict", data := .dict #[] }).DictOf (zE prog w) s.heap.objs.size [] := Heap.DictOf.new s.heap
 have hx1 := Heap.get?_push_of_some { cls := .type "dict", data := .dict #[] } hx
 have Llt : L < s.heap.objs.size := Heap.lt_size hx
 refine ⟨hnew.typeIs, PySem.F.args_dict_init_2 _ _, ?_⟩
 unfold Builtin.«dict.__init__»
 refine wpAny_bind ?_
 unfold Builtin.Dict.selfAndRest
 refine wpAny_bind (wpAny_notOrdered_dict hnew.typeIs ?_)
 show wpAny _ _ (pure (s.heap.objs.size, [Value.ref L])) _ _ _
 refine wpAny_pure ?_
 show wpAny _ _ (Builtin.Dict.updateFrom "dict.__init__" s.heap.objs.size (.ref L) [] .none) _ _ _
 unfold Builtin.Dict.updateFrom
 refine wpAny_bind (wpAny_typeOf (T := "list") ⟨o, hx1, hc⟩ ?_)
 rw [if_pos (by decide)]
 refine wpAny_bind (w8 hx1 hc hdat hdn (show A.in1.in1.handled = none from hh) fun h' tk kp => ?_)
 rw [if_pos (by rfl)]
 have hL' : h'.IsList L items := ⟨o, kp _ _ hx1, hc, k, hdat⟩
 refine wpAny_bind (wpAny_rule (wpAny_bind (wpAny_pyIter_list hL' ?_)))
 have Dget : ∃ od, h'.get? s.heap.objs.size = some od := ⟨_, kp _ _ (Heap.get?_push_size _ rfl)⟩
 have Dlt : s.heap.objs.size < h'.objs.size := let ⟨_, e⟩ := Dget; Heap.lt_size e
 refine wpAny_pure ⟨plainId_quiet zT _, ?_⟩
 have it0 : (h'.push { cls := .type "list_iterator", data := .fields #[.ref L, .int 0 0] }).IsListIter h'.objs.size L 0 := ⟨_, Heap.get?_push_size _ rfl, rfl, rfl⟩
 have hd' : (h'.push { cls := .type "list_iterator", data := .fields #[.ref L, .int 0 0] }).DictOf (zE prog w) s.heap.objs.size [] := by
  obtain ⟨od, es, ep, e, r⟩ := hnew
  exact ⟨od, es, ep, Heap.get?_push_of_some _ (kp _ _ e), r⟩
 refine upd_loop (A := A.in1) (show A.in1.handled = none from hh) s.heap.objs.size L h'.objs.size items (Nat.ne_of_gt Llt) (Nat.ne_of_lt Dlt) (Nat.ne_of_lt (Nat.lt_trans Llt Dlt)) ps hlen hsz items.size 0 { s with heap := h'.push { cls := .type "list_iterator", data := .fields #[.ref L, .int 0 0] }, toks := tk } [] rfl (Nat.le_refl _) it0 ⟨o, Heap.get?_push_of_some _ (kp _ _ hx1), hc, k, hdat⟩ hd' (fun j p v a b => ?_) fun h2 tk2 hd2 hk2 => ?_
 ·obtain ⟨bb, key, e1, ⟨ot, e2, r⟩, e3⟩ := hp j p v a b
  exact ⟨bb, key, e1, ⟨ot, Heap.get?_push_of_some _ (kp _ _ (Heap.get?_push_of_some _ e2)), r⟩, e3⟩
 ·refine ⟨rfl, h h2 tk2 ?_ fun b ob e => hk2 b ob (Nat.ne_of_lt (Heap.lt_size e)) (Nat.ne_of_lt (Nat.lt_trans (Heap.lt_size e) Dlt)) (Heap.get?_push_of_some _ (kp _ _ (Heap.get?_push_of_some _ e)))⟩
  rw [List.drop_zero] at hd2
  exact hd2
end
def Prs (H : Hp) : List V -> List (Key × V) -> Prop := Paired fun x p => ∃ b, x = .ref b /\ H b = some (.tup [kV p.1, p.2])
theorem prs_at {P : Program} {w : World} {H : Hp} {h : Heap} (ok : HOk P w H h) {xs : List V} {ps : List (Key × V)} (r : Prs H xs ps) : ∀ {us : List Value}, qo xs us -> ∃ rs : List (Key × Value), KV ps rs /\ ∀ (j : Nat) (p : Key × Value) (v : Value), rs[j]? = some p -> us[j]? = some v -> QU P w h v p.1 p.2 := by
 unfold Prs at r
 induction r with
 | nil =>
  intro us rv
  exact ⟨[], .nil, fun j p v e => by simp at e⟩
 | @cons x p xs ps hx t ih =>
  intro us rv
  cases rv with
  | @cons _ u _ us hu rv =>
   obtain ⟨rs, r1, r2⟩ := ih rv
   obtain ⟨b, rfl, hb⟩ := hx
   obtain ⟨_, its, ri, o, e1, e2, ⟨n, e3⟩, _⟩ := (show qu P w H h b (.tup [kV p.1, p.2]) from ok b _ hb)
   cases ri with
   | @cons _ ku _ _ hk ri =>
    cases ri with
    | @cons _ vu _ _ hv ri =>
     cases ri
     refine ⟨(p.1, vu) :: rs, .cons ⟨rfl, hv⟩ r1, fun j q v ej ev => ?_⟩
     cases j with
     | zero =>
      cases (Option.some.inj ej)
      cases (Option.some.inj ev)
      obtain rfl : u = Value.ref b := hu
      exact ⟨b, ku, rfl, ⟨o, e1, e2, n, e3⟩, w4 hk⟩
     | succ j => exact r2 j q v ej ev
theorem put_all {ps : List (Key × V)} {rs : List (Key × Value)} (r : KV ps rs) : ∀ {acc : List (Key × V)} {bcc : List (Key × Value)}, KV acc bcc -> KV (putAll acc ps) (rs.foldl (fun (acc : List (Key × Value)) (p : Key × Value) => stored acc p.1 p.2) bcc) := by
 unfold KV at r
 induction r with
 | nil => exact fun q => q
 | @cons p q ps qs h t ih =>
  intro acc bcc ra
  obtain ⟨h1, h2⟩ := h
  show KV (putAll (j9 acc p.1 p.2) ps) _
  rw [List.foldl_cons, <- h1]
  exact ih (KV.put ra p.1 h2)
theorem Z1 : ∀ (ps acc : List (Key × V)), (putAll acc ps).length <= acc.length + ps.length
 | [], acc => Nat.le_refl _
 | p :: ps, acc => by
  have h1 := Z1 ps (j9 acc p.1 p.2)
  have h2 := j5 acc p.1 p.2
  show (putAll (j9 acc p.1 p.2) ps).length <= _
  rw [List.length_cons]; omega
theorem Qk : bootBuiltins "dict" = some (.type "dict") := by decide +kernel
section
variable {X : Cx}
def tDictP (K : PySem.W.Frag) (ta : TA) : TE := fun σ H Q => ta σ H fun vs H1 => ∃ p xs ps, vs = [.ref p] /\ H1 p = some (.lst xs) /\ Prs H1 xs ps /\ ∀ D, H1 D = none -> Q (.ref D) (upd H1 D (.dK (putAll [] ps)))
theorem pe_dictP (K : PySem.W.Frag) {a : Expr} {ta : TA} {p pos : Pos} (hg : Gl X "dict") (hm : X.mg "dict" = none) (ha : PA X [a] ta) (hs : starEach [a] X.env = [(false, eval a X.env)] := by rfl) (hc : X.calm = true := by rfl) (hK : X.K = K := by rfl) :
  PE X (.Call (.Name "dict" p) [a] [] pos) (tDictP K ta) := by
 subst hK
 intro pins s σ H Q I h
 refine Call_ (ZR I hg hm Qk (PyProof.Rows.callWith_type1 (thn (ha pos pins s σ H _ I h) fun us s1 ⟨vs, H1, I1, r1, q1⟩ => ?_) hs rfl))
 obtain ⟨p1, xs, ps, e, hq, hps, q⟩ := q1
 subst e
 obtain ⟨u1, rfl, r2⟩ := vals1 r1
 cases r2
 obtain ⟨hz, its, n, rv, eo⟩ := (show qu X.prog X.w H1 s1.heap p1 (.lst xs) from I1.hok p1 _ hq)
 obtain ⟨rs, rk, hpa⟩ := prs_at I1.hok hps rv
 have l1 : rs.length = its.toArray.size := by
  have a1 := rk.length
  have a2 := Paired.length hps
  have a3 := rv.length
  simp; omega
 have l2 : ps.length <= sizeLine := by
  have a2 := Paired.length hps
  omega
 refine QV (ps := rs) (I1.ok.hd hc) eo rfl rfl rfl l1 (by have := rk.length; omega) (fun j p v a b => hpa j p v a (by simpa using b)) fun h' tk hd' kp => ?_
 have hb : (s1.heap.objs.size == sysModules) = false := beq_eq_false_iff_ne.mpr (Ne.symm (Nat.ne_of_lt I1.big))
 have hl : (putAll [] ps).length <= sizeLine := by
  have := Z1 ps []
  simp at this; omega
 exact ⟨.ref s1.heap.objs.size, _, I1.laid (a := s1.heap.objs.size) (o := .dK (putAll [] ps)) (t' := tk) kp (Nat.le_refl _) ⟨hl, hb, _, put_all rk .nil, hd'⟩, rfl, q _ (I1.hok.fresh (Nat.le_refl _))⟩
def tKGet (td ty : TE) : TE := fun σ H Q => td σ H fun x H1 => ty σ H1 fun y H2 => ∃ a kvs k v, x = .ref a /\ H2 a = some (.dK kvs) /\ y = kV k /\ jE kvs k = some v /\ Q v H2
theorem WI {o i : Expr} {pos : Pos} {td ty : TE} (ho : PE X o td) (hi : PE X i ty) (hs : NoSl i) : PE X (.Subscript o i pos) (tKGet td ty) := by
 intro pins s σ H Q I h
 refine xk PySem.F.slot_dict_getitem.lookup hs (thn (ho pins s σ H _ I h) fun u s1 ⟨x, H1, I1, rx, q1⟩ => thn (hi pins s1 σ H1 _ I1 q1) fun iv s2 ⟨y, H2, I2, ry, a, kvs, k, v, ex, ea, ey, l, q2⟩ => ?_)
 subst ex ey
 obtain rfl : u = Value.ref a := rx
 obtain ⟨z, hd, vs, rel, dd⟩ := xg I2.hok ea
 obtain ⟨w', hw, rw'⟩ := ya.some_of (v := v) (o := valueAt vs k) (by rw [<- l]; exact rel.val k)
 exact ⟨dd.typeIs, wpAny_getItem_of (w4 ry) dd.mapOf hw ⟨v, H2, I2.tok _, rw', q2⟩⟩
end
end L2
namespace L2
open PySem PySem.Spec PyProof.Rows L4
theorem Prs.tk {H H' : Hp} (s : Tk H H') {xs : List V} {ps : List (Key × V)} (h : Prs H xs ps) : Prs H' xs ps := by
 unfold Prs at h ⊢
 induction h with
 | nil => exact .nil
 | cons r _ ih =>
  obtain ⟨b, e, hb⟩ := r
  exact .cons ⟨b, e, s _ _ hb⟩ ih
theorem Prs.snoc {H : Hp} {xs : List V} {ps : List (Key × V)} {p : Key × V} {b : Addr} (h : Prs H xs ps) (hb : H b = some (.tup [kV p.1, p.2])) : Prs H (xs ++ [.ref b]) (ps ++ [p]) := by
 unfold Prs at h ⊢
 induction h with
 | nil => exact .cons ⟨b, rfl, hb⟩ .nil
 | cons r _ ih => exact .cons r ih
end L2
namespace L2
open PySem PySem.Spec PyProof.Rows
theorem pairs_at {prog : Program} {w : World} {K : Type} [DecidableEq K] {knd : KeyKind prog w K} {es : List DictEntry} {kvs : List (K × Value)} (h : Pairs knd es kvs) : ∀ (i : Nat) (e : DictEntry), es[i]? = some e -> ∃ kv, kvs[i]? = some kv /\ knd.is kv.1 e.key = true /\ e.val = kv.2 := by
 induction h with
 | nil => intro i e he; simp at he
 | @cons e' kv es kvs h1 h2 _ ih =>
  intro i e he
  cases i with
  | zero =>
   obtain rfl : e' = e := by simpa using he
   exact ⟨kv, rfl, h1, h2⟩
  | succ i => exact ih i e (by simpa using he)
theorem JE {K : Type} [DecidableEq K] : ∀ (kvs : List (K × Value)), (kvs.map (·.1)).Nodup -> ∀ (i : Nat) (kv : K × Value), kvs[i]? = some kv -> (kvs.findIdx? fun z => decide (z.1 = kv.1)) = some i
 | [], _, i, kv, h => by simp at h
 | z :: kvs, hn, 0, kv, h => by
  obtain rfl : z = kv := by simpa using h
  simp [List.findIdx?_cons]
 | z :: kvs, hn, i + 1, kv, h => by
  rw [List.map_cons, List.nodup_cons] at hn
  have h' : kvs[i]? = some kv := by simpa using h
  have hne : ¬ z.1 = kv.1 := fun e => hn.1 (e ▸ List.mem_map.mpr ⟨kv, List.mem_of_getElem? h', rfl⟩)
  rw [List.findIdx?_cons, decide_eq_false hne, JE kvs hn.2 i kv h']
  rfl
section
variable {prog : Program} {w : World} {K : Type} [DecidableEq K] {knd : KeyKind prog w K} {A : Around} {E : Value -> Shared -> Prop} {s : Shared}
end
section
variable {X : Cx}
theorem Ql : jf X (.type "dict") (fun xs H Q => ∃ g kvs, xs = [.ref g] /\ H g = some (.dK kvs) /\ ∀ p, H p = none -> Q (.ref p) (upd H p (.dK kvs))) := by
 intro pins s σ H xs us Q I rv h
 obtain ⟨g, kvs, rfl, hg, q⟩ := h
 obtain ⟨u1, rfl, r2⟩ := vals1 rv
 cases r2
 exact d_copyOf I (.inl hg) fun p s' hp I' => ⟨.ref p, _, I', rfl, q p hp⟩
end
end L2
namespace L2
open PySem PySem.Spec PyProof.Rows
theorem QW : Manifest.owners.lookup (String.ofList ['d', 'e', 's', 'r', 'e', 'v', 'e', 'r'].reverse) = some Manifest.sig_reversed := by kernel_rfl
theorem qT : Slot "reversed" "__next__" "reversed.__next__" :=
 .of (owner := "reversed") (n := "__next__") (by rw [typeLookup_type, builtinLookup_eq_fast]; kernel_rfl) (by decide +kernel) (by decide +kernel) (by decide +kernel)
  (by first | exact .inl (by decide +kernel) | exact .inr (by decide +kernel)) (by rw [isSubtype_type]; kernel_rfl)
theorem ZC : entryFor table "reversed.__next__" = some Builtin.«reversed.__next__» := entryFor_of_tree (by kernel_rfl)
theorem Zh (a : Value) : argsOk "reversed.__next__" ⟨[a], []⟩ := by
 unfold argsOk; rw [signature?_of (id := "reversed.__next__") (n := ['_', '_', 't', 'x', 'e', 'n', '_', '_']) (o := ['d', 'e', 's', 'r', 'e', 'v', 'e', 'r']) (by kernel_rfl) QW]; kernel_rfl
theorem j6 : Slot "reversed" "__length_hint__" "reversed.__length_hint__" :=
 .of (owner := "reversed") (n := "__length_hint__") (by rw [typeLookup_type, builtinLookup_eq_fast]; kernel_rfl) (by decide +kernel) (by decide +kernel) (by decide +kernel)
  (by first | exact .inl (by decide +kernel) | exact .inr (by decide +kernel)) (by rw [isSubtype_type]; kernel_rfl)
theorem Jl : entryFor table "reversed.__length_hint__" = some Builtin.«reversed.__length_hint__» := entryFor_of_tree (by kernel_rfl)
theorem QX (a : Value) : argsOk "reversed.__length_hint__" ⟨[a], []⟩ := by
 unfold argsOk; rw [signature?_of (id := "reversed.__length_hint__") (n := ['_', '_', 't', 'n', 'i', 'h', '_', 'h', 't', 'g', 'n', 'e', 'l', '_', '_']) (o := ['d', 'e', 's', 'r', 'e', 'v', 'e', 'r']) (by kernel_rfl) QW]; kernel_rfl
theorem Z2 : Slot "reversed" "__iter__" "reversed.__iter__" :=
 .of (owner := "reversed") (n := "__iter__") (by rw [typeLookup_type, builtinLookup_eq_fast]; kernel_rfl) (by decide +kernel) (by decide +kernel) (by decide +kernel)
  (by first | exact .inl (by decide +kernel) | exact .inr (by decide +kernel)) (by rw [isSubtype_type]; kernel_rfl)
theorem QY (a : Value) : argsOk "reversed.__iter__" ⟨[a], []⟩ := by
 unfold argsOk; rw [signature?_of (id := "reversed.__iter__") (n := ['_', '_', 'r', 'e', 't', 'i', '_', '_']) (o := ['d', 'e', 's', 'r', 'e', 'v', 'e', 'r']) (by kernel_rfl) QW]; kernel_rfl
theorem Jm : entryFor table "reversed.__iter__" = some Builtin.«dict_keyiterator.__iter__» :=
 entryFor_alias (id' := "dict_keyiterator.__iter__") (by kernel_rfl) (by first | rfl | decide +kernel | (unfold String.splitOn; simp +decide [String.splitOnAux])) (by decide +kernel) (by kernel_rfl)
theorem yZ : typeLookup (.type "tuple") "__reversed__" = pure none := am_miss_of_fast (by decide +kernel)
theorem y4 : typeLookup (.type "reversed") "__len__" = pure none := am_miss_of_fast (by decide +kernel)
theorem J4 : Slot "reversed" "__init__" "object.__init__" :=
 .of (owner := "object") (n := "__init__") (by rw [typeLookup_type, builtinLookup_eq_fast]; kernel_rfl) (by decide +kernel) (by decide +kernel) (by decide +kernel)
  (by first | exact .inl (by decide +kernel) | exact .inr (by decide +kernel)) (by rw [isSubtype_type]; kernel_rfl)
theorem y8 : TypeCalled "reversed" "reversed.__new__" "object.__init__" :=
 ⟨by decide +kernel, by decide +kernel, ⟨_, _, PySem.F.mro_reversed⟩, PySem.F.made_reversed, by decide +kernel, by rw [isSubtype_type]; kernel_rfl, J4⟩
theorem w9 : isSubtype (.type "tuple") (.type "dict") = pure false := by rw [isSubtype_type]; kernel_rfl
theorem seq_nat' {v n : Nat} (h : v < n) : seqIndex? (v : Int) n = some v := by
 unfold seqIndex?
 have h1 : ¬ ((v : Int) < 0) := by omega
 simp only [h1, if_false]
 rw [if_pos (by simp; omega)]
 rfl
def revO (t : Addr) (i : Int) : Obj := { cls := .type "reversed", data := .fields #[.ref t, rawInt i] }
def ZL (h : Heap) (a t : Addr) (i : Int) : Prop := ∃ o, h.get? a = some o /\ o.cls = .type "reversed" /\ o.data = .fields #[.ref t, rawInt i]
theorem ZL.typeIs {s : Shared} {a t : Addr} {i : Int} (x : ZL s.heap a t i) : s.TypeIs (.ref a) "reversed" := let ⟨o, ho, hc, _⟩ := x; ⟨o, ho, hc⟩
theorem ZL.at {h h' : Heap} {a t : Addr} {i : Int} (x : ZL h a t i) (e : ∀ o, h.get? a = some o -> h'.get? a = some o) : ZL h' a t i := let ⟨o, ho, r⟩ := x; ⟨o, e _ ho, r⟩
theorem J5 (t : Addr) (items : Array Value) (hz : (items.size : Int) < 2 ^ 63) :
  Meets (Builtin.«reversed.__new__» ⟨[.type "reversed", .ref t], []⟩) (fun _ R s => IsTup s.heap t items /\ ∀ tk, R (.ok (.ret (.ref s.heap.objs.size))) { s with heap := s.heap.push (revO t ((items.size : Int) - 1)), toks := tk }) :=
 .of_wp fun prog w A R s h => by
  obtain ⟨ht, h⟩ := h
  have hT : s.TypeIs (.ref t) "tuple" := ht.typeIs
  unfold Builtin.«reversed.__new__»
  refine wpAny_bind (wpAny_of_eq (newClass_reversed _) ?_)
  try dsimp only
  refine wpAny_bind (wpAny_of_eq (a := ()) (by first | rfl | kernel_rfl) ?_)
  refine wpAny_bind (wpAny_of_eq (a := ()) (by first | rfl | kernel_rfl) ?_)
  try dsimp only
  refine wpAny_bind (wpAny_specialOf hT yZ ?_)
  try dsimp only
  refine wpAny_bind ?_
  refine wpAny_bind (m := isInstance (.ref t) (.type "dict")) (wpAny_isInstance (T := "tuple") (b := false) hT w9 ?_)
  rw [if_neg Bool.false_ne_true]
  refine wpAny_bind (m := specialOf (.ref t) "__getitem__") (wpAny_specialOf hT PySem.F.slot_tuple_getitem.lookup ?_)
  refine wpAny_of_eq (a := true) (by first | rfl | kernel_rfl) ?_
  show wpAny _ _ (call (.builtin "len") [.ref t] >>= _) _ _ _
  refine wpAny_bind (len_tuple ht hz ?_)
  show wpAny _ _ (asInt? (.int items.size (s.toks + 1)) >>= _) _ _ _
  refine wpAny_bind (wpAny_of_eq (a := some (items.size : Int)) rfl ?_)
  show wpAny _ _ (newObj (.type "reversed") (.fields #[.ref t, rawInt ((items.size : Int) - 1)]) >>= _) _ _ _
  refine wpAny_bind (wpAny_newObj_type (wpAny_pure ?_) (by size_fits))
  exact ⟨_, rfl, h _⟩
section
variable {prog : Program} {w : World} {A : Around} {E : Value -> Shared -> Prop} {s : Shared}
theorem ZM {t : Addr} {items : Array Value} {Q : Value -> Shared -> Prop} (ht : IsTup s.heap t items) (hz : (items.size : Int) < 2 ^ 63)
  (h : ∀ tk, Q (.ref s.heap.objs.size) { s with heap := s.heap.push (revO t ((items.size : Int) - 1)), toks := tk }) : wpAny (model prog w) A (call (.type "reversed") [.ref t]) Q E s := by
 refine callType_new y8 (by decide) (PySem.F.typeCall_reversed_1 _) (PySem.F.newCall_reversed_1 _) (fun obj => PySem.F.args_object_init_2 obj _) PySem.F.entry_reversed_new (J5 t items hz) ⟨ht, fun tk => ?_⟩
 exact ⟨⟨_, Heap.get?_push_size _ rfl, rfl⟩, h tk⟩
theorem J6 {it t : Addr} {i : Nat} {items : Array Value} {x : Value} {Q : Option Value -> Shared -> Prop} (hit : ZL s.heap it t (i : Int)) (ht : IsTup s.heap t items) (hx : items[i]? = some x) (hz : (items.size : Int) < 2 ^ 63)
  (hQ : ∀ h' tk, ZL h' it t ((i : Int) - 1) -> Heap.SameBut it s.heap h' -> Q (some x) { s with heap := h', toks := tk }) : wpAny (model prog w) A (pyNext (.ref it)) Q E s := by
 obtain ⟨o, ho, hc, hd⟩ := id hit
 have hi : i < items.size := by
  rcases Nat.lt_or_ge i items.size with z | z
  ·exact z
  ·rw [Array.getElem?_eq_none z] at hx; cases hx
 unfold pyNext
 refine wpAny_bind (wpAny_attempt (wpAny_callSpecial?_slot (name := Str.ofString "__next__") hit.typeIs qT
  (wpAny_call_entry qT hit.typeIs ZC ?_ (Zh _))))
 unfold Builtin.«reversed.__next__»
 refine wpAny_bind (wpAny_of_eq (a := (Value.ref it, [])) rfl ?_)
 try dsimp only
 refine wpAny_bind (wpAny_field ho hd (x := .ref t) rfl ?_)
 refine wpAny_bind (wpAny_field ho hd (x := rawInt (i : Int)) rfl ?_)
 show wpAny _ _ (if (i : Int) < 0 then _ else _) _ _ s
 rw [if_neg (by omega)]
 show wpAny _ _ (specialOf (.ref t) "__getitem__" >>= _) _ _ s
 refine wpAny_bind (wpAny_specialOf ht.typeIs PySem.F.slot_tuple_getitem.lookup ?_)
 show wpAny _ _ (mkInt (i : Int) >>= _) _ _ _
 refine wpAny_bind (wpAny_mkInt ?_)
 refine wpAny_bind (wpAny_attempt (getItem_tuple (s := { s with toks := s.toks + 1 }) ht (by omega) (by omega) (j := i) (seq_nat' hi) hx ?_))
 show wpAny _ _ (field (.ref it) 1 >>= _) _ _ _
 refine wpAny_bind (wpAny_field ho hd (x := rawInt (i : Int)) rfl ?_)
 show wpAny _ _ (setField (.ref it) 1 (rawInt ((i : Int) - 1)) >>= _) _ _ _
 refine wpAny_bind (wpAny_setField ho hd (by simp) (wpAny_pure ⟨x, rfl, wpAny_pure (hQ _ _ ?_ (Heap.SameBut.update ..))⟩))
 exact ⟨_, Heap.get?_update_self _ ho (Obj.isFreed_of_fields (Obj.data_mapFields hd _)), (Obj.cls_mapFields ..).trans hc, by
  rw [Obj.data_mapFields hd]; simp⟩
theorem Wa {it t : Addr} {Q : Option Value -> Shared -> Prop} (hh : A.handled = none) (hit : ZL s.heap it t (-1))
  (hQ : ∀ h', Heap.ExtBut it s.heap h' -> Q none { s with heap := h' }) : wpAny (model prog w) A (pyNext (.ref it)) Q E s := by
 obtain ⟨o, ho, hc, hd⟩ := id hit
 unfold pyNext
 refine wpAny_bind (wpAny_attempt (wpAny_callSpecial?_slot (name := Str.ofString "__next__") hit.typeIs qT
  (wpAny_call_entry qT hit.typeIs ZC ?_ (Zh _))))
 unfold Builtin.«reversed.__next__»
 refine wpAny_bind (wpAny_of_eq (a := (Value.ref it, [])) rfl ?_)
 try dsimp only
 refine wpAny_bind (wpAny_field ho hd (x := .ref t) rfl ?_)
 refine wpAny_bind (wpAny_field ho hd (x := rawInt (-1)) rfl ?_)
 show wpAny _ _ (if (-1 : Int) < 0 then _ else _) _ _ s
 rw [if_pos (by decide)]
 refine wpAny_bind (wpAny_rule ?_)
 refine wpAny_bind ?_
 refine wpAny_bind (m := setField (.ref it) 1 (rawInt (-1))) (wpAny_setField ho hd (by simp) ?_)
 have ho2 := Heap.get?_update_self (Obj.mapFields fun vs => vs.set! 1 (rawInt (-1))) ho (Obj.isFreed_of_fields (Obj.data_mapFields hd _))
 have hd2 := Obj.data_mapFields hd (fun vs => vs.set! 1 (rawInt (-1)))
 refine wpAny_setField ho2 hd2 (by simp) ?_
 refine wpAny_bind ?_
 show wpAny _ _ (newExc (.type "StopIteration") [] >>= _) _ _ _
 refine wpAny_bind ?_
 simp only [newExc, newTuple]
 refine wpAny_bind (wpAny_newObj_type ?_ (by size_fits))
 refine wpAny_bind (m := firstArgMember _ _) (wpAny_of_eq (a := Value.none) (by first | rfl | (simp only [firstArgMember]; rfl)) ?_)
 refine wpAny_newObj_type ?_ (by size_fits)
 simp only [raiseNew]
 refine wpAny_bind (wpAny_handled ?_)
 first | rw [show A.in1.handled = none from hh] | rw [hh]
 refine wpAny_bind (wpAny_pure (wpAny_throw ?_))
 refine wpAny_bind (wpAny_isInstance (T := "StopIteration") (b := true) ⟨_, Heap.get?_push_size _ rfl, rfl⟩ isSubtype_stop ?_)
 refine wpAny_pure (hQ _ ?_)
 intro b o' hb e
 exact Heap.get?_push_of_some _ (Heap.get?_push_of_some _ ((Heap.get?_update_other _ _ (Ne.symm hb)).trans ((Heap.get?_update_other _ _ (Ne.symm hb)).trans e)))
theorem JF {it t : Addr} {i : Int} {Q : Value -> Shared -> Prop} (hit : ZL s.heap it t i) (h : Q (.ref it) s) : wpAny (model prog w) A (pyIter (.ref it)) Q E s := by
 refine wpAny_pyIter_slot hit.typeIs Z2 (wpAny_call_entry Z2 hit.typeIs Jm ?_ (QY _))
 show wpAny _ _ (ret (.ref it)) _ _ s
 exact wpAny_pure ⟨_, rfl, "reversed", _, hit.typeIs, qT.lookup, h⟩
theorem hint_rev {it t : Addr} {i : Nat} {items : Array Value} {Q : Bool -> Shared -> Prop} (hit : ZL s.heap it t ((i : Int) - 1)) (ht : IsTup s.heap t items) (hi : i <= items.size) (hz : items.size <= 1000)
  (h : ∀ b tk, Q b { s with toks := tk }) : wpAny (model prog w) A (Builtin.List.listLengthHint (.ref it)) Q E s := by
 obtain ⟨o, ho, hc, hd⟩ := id hit
 unfold Builtin.List.listLengthHint
 refine wpAny_bind (wpAny_specialOf hit.typeIs y4 ?_)
 show wpAny _ _ (specialOf (Value.ref it) (Str.ofString "__length_hint__") >>= _) _ _ _
 refine wpAny_bind (wpAny_specialOf hit.typeIs j6.lookup ?_)
 generalize hid : ("reversed.__length_hint__" : String) = id0
 wp_delta
 rw [show splitId id0 = some ("reversed", "__length_hint__") from by subst hid; decide +kernel]
 subst hid
 refine wpAny_bind (wpAny_isInstance (T := "reversed") (b := true) hit.typeIs PySem.F.sub_reversed_self ?_)
 refine wpAny_ite_split (fun hab => absurd hab (by decide)) (fun _ => ?_)
 refine wpAny_ite_split (fun hab => absurd hab (by decide +kernel)) (fun _ => ?_)
 refine wpAny_bind (wpAny_rule ?_)
 refine wpAny_bind (wpAny_of_eq (j6.bind _) ?_)
 have htl : Builtin.List.listTooLong ((i : Int).toNat) = false := by simp [Builtin.List.listTooLong, sizeLine]; omega
 have hfi : Builtin.List.listFitsIndex (i : Int) = true := by simp [Builtin.List.listFitsIndex]; omega
 refine wpAny_bind (wpAny_attempt (wpAny_call_entry j6 hit.typeIs Jl ?_ (QX _)))
 unfold Builtin.«reversed.__length_hint__»
 refine wpAny_bind (wpAny_of_eq (a := Value.ref it) rfl ?_)
 refine wpAny_bind (wpAny_field ho hd (x := .ref t) rfl ?_)
 show wpAny _ _ (if (Value.ref t == Value.none) = true then _ else call (.builtin "len") [.ref t] >>= _) _ _ s
 rw [if_neg (show ¬ ((Value.ref t == Value.none) = true) from Bool.false_ne_true)]
 refine wpAny_bind (len_tuple ht (by omega) ?_)
 show wpAny _ _ (asInt? (.int items.size (s.toks + 1)) >>= _) _ _ _
 refine wpAny_bind (wpAny_of_eq (a := some (items.size : Int)) rfl ?_)
 refine wpAny_bind (wpAny_field ho hd (x := rawInt ((i : Int) - 1)) rfl ?_)
 show wpAny _ _ (if ((items.size : Nat) : Int) < ((i : Int) - 1) + 1 then _ else _) _ _ _
 rw [if_neg (by omega)]
 rw [show (i : Int) - 1 + 1 = (i : Int) by omega]
 show wpAny _ _ (mkInt (i : Int) >>= fun v => ret v) _ _ _
 refine wpAny_bind (wpAny_mkInt (wpAny_pure ⟨_, rfl, ?_⟩))
 have h0 : ¬ ((i : Int) < 0) := by omega
 dsimp only
 generalize (i : Int) = k at *
 refine wpAny_bind (m := asInt? (Value.int k _)) (wpAny_pure ?_)
 refine wpAny_ite_split (fun hab => absurd hab (by rw [hfi]; decide)) (fun _ => ?_)
 refine wpAny_ite_split (fun hab => absurd hab h0) (fun _ => ?_)
 exact wpAny_ite_split (fun hab => absurd hab (by rw [htl]; decide)) (fun _ => wpAny_pure (h _ _))
end
theorem Walks.rev {prog : Program} {w : World} {A : Around} (hh : A.handled = none) (I l : Addr) (hne : l ≠ I) (items : Array Value) (hz : (items.size : Int) < 2 ^ 63) :
  Walks prog w A I [I, l] [I] items.size (fun i v => items[items.size - 1 - i]? = some v) (fun i h => i <= items.size /\ ZL h I l ((items.size : Int) - 1 - (i : Int)) /\ IsTup h l items) where
 sub := fun b hb => by simp at hb; simp [hb]
 frame := fun _ _ _ x hk => ⟨x.1, x.2.1.at fun o e => hk I (by simp) o e, let ⟨o, e, r⟩ := x.2.2; ⟨o, hk l (by simp) o e, r⟩⟩
 item := fun i s Q E hi x hQ => by
  have e : (items.size : Int) - 1 - (i : Int) = ((items.size - 1 - i : Nat) : Int) := by omega
  have hit := x.2.1
  rw [e] at hit
  have hx : items[items.size - 1 - i]? = some (items[items.size - 1 - i]'(by omega)) := Array.getElem?_eq_getElem (by omega)
  refine J6 hit x.2.2 hx hz fun h' tk hit' hs' => ?_
  have e2 : ((items.size - 1 - i : Nat) : Int) - 1 = (items.size : Int) - 1 - ((i + 1 : Nat) : Int) := by omega
  rw [e2] at hit'
  exact hQ _ h' tk hx ⟨hi, hit', let ⟨o, e, r⟩ := x.2.2; ⟨o, (hs'.2 l hne).trans e, r⟩⟩ fun b o hb eo => hs'.extBut b o (fun h => hb (by simp [h])) eo
 done := fun s Q E x hQ => by
  have e : (items.size : Int) - 1 - (items.size : Int) = -1 := by omega
  have hit := x.2.1
  rw [e] at hit
  exact Wa hh hit fun h' he' => hQ h' s.toks fun b o hb eo => he' b o (fun h => hb (by simp [h])) eo
 self := fun _ _ _ _ x hQ => JF x.2.1 hQ
section
variable {prog : Program} {w : World} {A : Around} {s : Shared}
theorem y9 {R : Result -> Shared -> Prop} {it t : Addr} {items : Array Value} (hh : A.handled = none) (hit : ZL s.heap it t ((items.size : Int) - 1)) (ht : IsTup s.heap t items) (hne : t ≠ it) (hz : items.size <= 1000)
  (S : Addr) (res : Value) (c₀ : Nat) (hS : s.heap.get? S = some { cls := .type "list", data := .seq #[] c₀ })
  (hR : ∀ h' tk acc' c', (∀ b o, b ≠ S -> b ≠ it -> s.heap.get? b = some o -> h'.get? b = some o) -> h'.get? S = some { cls := .type "list", dict := none, data := .seq acc' c', slots := #[] } ->
   ItemsOf (fun i v => items[items.size - 1 - i]? = some v) acc' items.size -> R (.ok (.ret res)) { s with heap := h', toks := tk }) :
  wpAny (model prog w) A.in1 (Builtin.List.listExtendWith (.ref S) (.ref it) res)
   (fun fin s' => match fin with | .done f => R (.ok f) s' | .again c' => c'.quiet = true /\ codeAny (model prog w) A c' R s') (fun e s' => R (.error e) s') s := by
 have hSit : S ≠ it := fun e => by
  obtain ⟨o, ho, hc, _⟩ := hit
  rw [e, ho] at hS
  have := Option.some.inj hS
  rw [this] at hc
  exact absurd hc (show ¬ (Value.type "list" = Value.type _) by decide)
 have hSt : S ≠ t := fun e => by
  obtain ⟨o, ho, hc, _⟩ := ht
  rw [e, ho] at hS
  have := Option.some.inj hS
  rw [this] at hc
  exact absurd hc (show ¬ (Value.type "list" = Value.type _) by decide)
 have hSf : S ∉ [it, t] := fun hm => by
  rcases List.mem_cons.mp hm with h | h
  ·exact hSit h
  ·exact hSt (List.mem_singleton.mp h)
 have W := (Walks.rev (prog := prog) (w := w) (A := A.in1) hh it t hne items (by omega)).toS
 have key : ∀ (h : Heap) (c₁ tk : Nat), ZL h it t ((items.size : Int) - 1) -> IsTup h t items -> (∀ b o, b ≠ S -> s.heap.get? b = some o -> h.get? b = some o) ->
   h.get? S = some { cls := .type "list", data := .seq #[] c₁ } -> codeAny (model prog w) A (.builtin "list.extend.loop" ⟨[.ref S, .ref it, res], []⟩) R { s with heap := h, toks := tk } := by
  intro h c₁ tk hit' ht' hk hS₁
  refine codeAny_extend_loopS W (by rw [sizeLine_eq]; omega) S hSf res items.size 0 _ #[] c₁ rfl (Nat.zero_le _) ⟨Nat.zero_le _, by simpa using hit', ht'⟩ hS₁ (ItemsOf.nil _) fun s' acc' c' hm hS' hacc => ?_
  rw [Moved.eq_with hm]
  refine hR s'.heap s'.toks acc' c' (fun b o hb hi e => hm.heap b o (fun hmem => ?_) (hk b o hb e)) hS' hacc
  rcases List.mem_cons.mp hmem with e' | hmem
  ·exact hb e'
  ·exact hi (List.mem_singleton.mp hmem)
 unfold Builtin.List.listExtendWith
 refine wpAny_bind (wpAny_typeOf (T := "reversed") hit.typeIs ?_)
 have h1 : Builtin.List.listSameRef (.ref S) (.ref it) = false := by simp [Builtin.List.listSameRef, hSit]
 have h2 : (Value.type "reversed" == Value.type "list") = false := by decide
 have h3 : (Value.type "reversed" == Value.type "tuple") = false := by decide
 simp only [h1, h2, h3, Bool.or_false, Bool.false_eq_true, if_false]
 refine wpAny_bind (JF hit ?_)
 refine wpAny_bind (wpAny_holding (hint_rev (i := items.size) hit ht (Nat.le_refl _) hz fun b tk => ?_))
 refine wpAny_ite_split (fun _ => ?_) (fun _ => wpAny_pure ⟨plainId_quiet PySem.F.plain_extend_loop _, key _ c₀ _ hit ht (fun b o _ e => e) hS⟩)
 refine wpAny_bind (wpAny_rule ?_)
 refine wpAny_bind ?_
 show wpAny _ _ (updateSeq S (·.push .none) >>= fun _ => updateSeq S (·.pop)) _ _ _
 refine wpAny_bind (wpAny_updateSeq hS rfl ?_)
 have hS₂ := Heap.get?_update_self (Obj.mapSeq (·.push Value.none)) hS rfl
 refine wpAny_updateSeq (hz := by seq_fits) hS₂ rfl ?_
 have hS₃ := Heap.get?_update_self (Obj.mapSeq (·.pop)) hS₂ rfl
 have oth : ∀ b o, b ≠ S -> s.heap.get? b = some o -> ((s.heap.update S (Obj.mapSeq (·.push Value.none))).update S (Obj.mapSeq (·.pop))).get? b = some o := fun b o hb e => (Heap.get?_update_other _ _ (Ne.symm hb)).trans ((Heap.get?_update_other _ _ (Ne.symm hb)).trans e)
 refine wpAny_pure ⟨plainId_quiet PySem.F.plain_extend_loop _, key _ _ _ (hit.at fun o e => oth it o (Ne.symm hSit) e) (let ⟨o, e, r⟩ := ht; ⟨o, oth t o (Ne.symm hSt) e, r⟩) oth hS₃⟩
theorem init_rev {R : Result -> Shared -> Prop} {it t : Addr} {items : Array Value} (hh : A.handled = none) (hit : ZL s.heap it t ((items.size : Int) - 1)) (ht : IsTup s.heap t items) (hne : t ≠ it) (hz : items.size <= 1000) (S : Addr) (hS : s.heap.get? S = some { cls := .type "list", data := .seq #[] })
  (hSt : S ≠ t) (hSi : S ≠ it) (hR : ∀ h' tk acc' c', (∀ b o, b ≠ S -> b ≠ it -> s.heap.get? b = some o -> h'.get? b = some o) -> h'.get? S = some { cls := .type "list", dict := none, data := .seq acc' c', slots := #[] } ->
   ItemsOf (fun i v => items[items.size - 1 - i]? = some v) acc' items.size -> R (.ok (.ret .none)) { s with heap := h', toks := tk }) :
  wpAny (model prog w) A.in1 (Builtin.«list.__init__» ⟨[.ref S, .ref it], []⟩)
   (fun fin s' => match fin with | .done f => R (.ok f) s' | .again c' => c'.quiet = true /\ codeAny (model prog w) A c' R s') (fun e s' => R (.error e) s') s := by
 show wpAny _ _ (do let old <- Builtin.List.listItems (.ref S); Builtin.List.listUpdate (.ref S) (fun _ => #[]); letGo old.toList.reverse; Builtin.List.listExtendWith (.ref S) (.ref it) .none) _ _ s
 refine wpAny_bind ?_
 unfold Builtin.List.listItems
 refine wpAny_bind (wpAny_seqItems hS rfl (wpAny_pure ?_))
 show wpAny _ _ (updateSeq S (fun _ => #[]) >>= fun _ => letGo (#[] : Array Value).toList.reverse >>= fun _ => Builtin.List.listExtendWith (.ref S) (.ref it) .none) _ _ s
 refine wpAny_bind (wpAny_updateSeq hS rfl ?_)
 have hS₂ := Heap.get?_update_self (Obj.mapSeq (fun _ => (#[] : Array Value))) hS rfl
 have oth : ∀ b o, b ≠ S -> s.heap.get? b = some o -> (s.heap.update S (Obj.mapSeq (fun _ => (#[] : Array Value)))).get? b = some o :=
  fun b o hb e => (Heap.get?_update_other _ _ (Ne.symm hb)).trans e
 refine wpAny_bind (wpAny_letGo ?_)
 refine y9 hh (hit.at fun o e => oth it o (Ne.symm hSi) e) (let ⟨o, e, r⟩ := ht; ⟨o, oth t o (Ne.symm hSt) e, r⟩) hne hz S .none _ hS₂ fun h' tk acc' c' hk hS' hacc => ?_
 exact hR h' tk acc' c' (fun b o hb hi e => hk b o hb hi (oth b o hb e)) hS' hacc
theorem J7 {E : Value -> Shared -> Prop} {Q : Value -> Shared -> Prop} {it t : Addr} {items : Array Value} (hh : A.handled = none) (hit : ZL s.heap it t ((items.size : Int) - 1)) (ht : IsTup s.heap t items) (hne : t ≠ it) (hz : items.size <= 1000)
  (hQ : ∀ h' tk acc' c', (∀ b o, b ≠ it -> s.heap.get? b = some o -> h'.get? b = some o) ->
   h'.get? s.heap.objs.size = some { cls := .type "list", dict := none, data := .seq acc' c', slots := #[] } -> ItemsOf (fun i v => items[items.size - 1 - i]? = some v) acc' items.size -> Q (.ref s.heap.objs.size) { s with heap := h', toks := tk }) :
  wpAny (model prog w) A (call (.type "list") [.ref it]) Q E s := by
 refine callType_codes (Q₁ := fun obj s₁ => obj = .ref s.heap.objs.size /\ s₁ = { s with heap := s.heap.push { cls := .type "list", data := .seq #[] } }) PySem.F.called_list (PySem.F.typeCall_list_1 _) PySem.F.entry_list_init
  (code_list_new _ ⟨rfl, rfl⟩) fun obj s₁ h₁ => ?_
 obtain ⟨rfl, rfl⟩ := h₁
 have hS : (s.heap.push { cls := .type "list", data := .seq #[] }).get? s.heap.objs.size = some { cls := .type "list", data := .seq #[] } := Heap.get?_push_size _ rfl
 have lt1 : it < s.heap.objs.size := let ⟨_, e, _⟩ := hit; Heap.lt_size e
 have lt2 : t < s.heap.objs.size := let ⟨_, e, _⟩ := ht; Heap.lt_size e
 refine ⟨⟨_, hS, rfl⟩, PySem.F.args_list_init_2 _ _, init_rev (A := A.in1) hh (hit.at fun o e => Heap.get?_push_of_some _ e) (let ⟨o, e, r⟩ := ht; ⟨o, Heap.get?_push_of_some _ e, r⟩) hne hz _ hS (Nat.ne_of_gt lt2) (Nat.ne_of_gt lt1) fun h' tk acc' c' hk hS' hacc => ?_⟩
 exact ⟨rfl, hQ h' tk acc' c' (fun b o hi e => hk b o (Nat.ne_of_lt (Heap.lt_size e)) hi (Heap.get?_push_of_some _ e)) hS' hacc⟩
end
end L2
namespace L2
open PySem PySem.Spec PyProof.Rows
theorem WJ : bootBuiltins "reversed" = some (.type "reversed") := by decide +kernel
theorem vals_rev {xs : List V} {its : List Value} {acc : Array Value} (r : qo xs its) (h : ItemsOf (fun i v => its.toArray[its.toArray.size - 1 - i]? = some v) acc its.toArray.size) : qo xs.reverse acc.toList := by
 have l := r.length
 refine J1 (by rw [List.length_reverse]; have := h.1; simp at this ⊢; omega) fun i x u hx hu => ?_
 have hi : i < xs.length := by
  have := (List.getElem?_eq_some_iff.mp hx).1
  rw [List.length_reverse] at this
  exact this
 rw [List.getElem?_reverse hi] at hx
 obtain ⟨u', hu', ru⟩ := r.get hx
 have e := h.2 i u (by simpa using hu)
 have e2 : its[its.length - 1 - i]? = some u := by simpa using e
 rw [<- l, hu'] at e2
 rw [<- Option.some.inj e2]
 exact ru
section
variable {X : Cx}
def tListRev (K : PySem.W.Frag) (ta : TA) : TE := fun σ H Q => ta σ H fun vs H1 => ∃ p xs, vs = [.ref p] /\ SqT K H1 p xs /\ xs.length <= 1000 /\ ∀ l, H1 l = none -> Q (.ref l) (upd H1 l (.lst xs.reverse))
theorem Ya (K : PySem.W.Frag) {a : Expr} {ta : TA} {p p2 pos pos2 : Pos} (hg : Gl X "list") (hm : X.mg "list" = none) (hg2 : Gl X "reversed") (hm2 : X.mg "reversed" = none) (ha : PA X [a] ta) (hs : starEach [a] X.env = [(false, eval a X.env)] := by rfl) (hs2 : starEach [.Call (.Name "reversed" p2) [a] [] pos2] X.env = [(false, eval (.Call (.Name "reversed" p2) [a] [] pos2) X.env)] := by rfl) (hc : X.calm = true := by rfl) (hK : X.K = K := by rfl) :
  PE X (.Call (.Name "list" p) [.Call (.Name "reversed" p2) [a] [] pos2] [] pos) (tListRev K ta) := by
 subst hK
 intro pins s σ H Q I h
 refine Call_ (ZR I hg hm Zd (PyProof.Rows.callWith_type1 ?_ hs2 rfl))
 rw [hs2]
 show wpAny _ _ (spliced [(false, eval (.Call (.Name "reversed" p2) [a] [] pos2) X.env)]) _ _ s
 refine Calls.spliced_cons ?_
 refine Call_ (ZR I hg2 hm2 WJ (PyProof.Rows.callWith_type1 (thn (ha pos2 pins s σ H _ I h) fun us s1 ⟨vs, H1, I1, r1, q1⟩ => ?_) hs rfl))
 obtain ⟨p1, xs, e, hq, hz, q⟩ := q1
 subst e
 obtain ⟨u1, rfl, r2⟩ := vals1 r1
 cases r2
 obtain ⟨its, rv, pl, _⟩ := I1.tuple hq
 have lv := rv.length
 have plt : p1 < s1.heap.objs.size := PyProof.Rows.IsTup.lt pl
 have sz : its.toArray.size <= 1000 := by simp; omega
 refine ZM pl (by omega) fun tk => ?_
 refine Calls.spliced_nil ?_
 have I2 : Inv X pins σ H1 { s1 with heap := s1.heap.push (revO p1 ((its.toArray.size : Int) - 1)), toks := tk } := I1.kept (t' := tk) fun _ _ e => Heap.get?_push_of_some _ e
 have hsz : (s1.heap.push (revO p1 ((its.toArray.size : Int) - 1))).objs.size = s1.heap.objs.size + 1 := Heap.size_push ..
 refine J7 (s := { s1 with heap := s1.heap.push (revO p1 ((its.toArray.size : Int) - 1)), toks := tk }) (I1.ok.hd hc) (it := s1.heap.objs.size) (t := p1) (items := its.toArray) ⟨_, Heap.get?_push_size _ rfl, rfl, rfl⟩ (let ⟨o, e, r⟩ := pl; ⟨o, Heap.get?_push_of_some _ e, r⟩) (Nat.ne_of_lt plt) sz fun h' tk2 acc c' kp he hacc => ?_
 have he' : h'.get? (s1.heap.objs.size + 1) = some { cls := .type "list", dict := none, data := .seq acc c', slots := #[] } := by
  have : ({ s1 with heap := s1.heap.push (revO p1 ((its.toArray.size : Int) - 1)), toks := tk } : Shared).heap.objs.size = s1.heap.objs.size + 1 := hsz
  rw [this] at he
  exact he
 have I3 : Inv X pins σ H1 { s1 with heap := h', toks := tk2 } := by
  refine I1.changed (t' := tk2) (ch := []) (fun b hb => by cases hb) fun c o _ e => kp c o (Nat.ne_of_lt (Heap.lt_size e)) (Heap.get?_push_of_some _ e)
 have Hn : H1 (s1.heap.objs.size + 1) = none := I1.hok.fresh (Nat.le_succ _)
 have I4 : Inv X pins σ (upd H1 (s1.heap.objs.size + 1) (.lst xs.reverse)) { s1 with heap := h', toks := tk2 } := by
  refine I3.adopt Hn (Heap.get?_none_of_le (Nat.le_succ_of_le I1.sz)) (Nat.ne_of_gt (Nat.lt_succ_of_lt I1.lt)) (fun xx cc e zz => ?_) (fun p hp zz => ?_) ⟨by rw [List.length_reverse]; exact Nat.le_of_lt (zr (by omega)), acc.toList, c', vals_rev rv hacc, by simpa using he'⟩
  ·obtain ⟨_, q⟩ := I1.cell xx cc e
   exact absurd q.lt (by rw [zz]; exact Nat.not_lt.mpr (Nat.le_succ _))
  ·exact absurd (Heap.lt_size (I1.pin p hp).1) (by rw [zz]; exact Nat.not_lt.mpr (Nat.le_succ _))
 rw [hsz]
 exact ⟨.ref (s1.heap.objs.size + 1), _, I4, rfl, q _ Hn⟩
open Classical in
def sKPut (td ty tv : TE) : TS := fun D σ H => tv σ H fun v H1 => td σ H1 fun x H2 => ty σ H2 fun y H3 => ∃ a kvs k, x = .ref a /\ y = kV k /\ H3 a = some (.dK kvs) /\ kvs.length < sizeLine /\ D.nx σ (upd H3 a (.dK (j9 kvs k v)))
theorem J8 {o i value : Expr} {pos pos' : Pos} {td ty tv : TE} {j : Nat} (hr : ZS j X.A) (ho : PE X o td) (hi : PE X i ty) (hv : PE X value tv) (hs : swapsWith value (some (.Subscript o i pos')) pos.line X.env = pure false) :
  PS X (.Assign [.Subscript o i pos'] value pos) (sKPut td ty tv) := by
 intro pins s σ H D I h
 have hu : X.A.units + 64 < cLine := hr.units
 refine wpAny_Assign_Subscript (thn (hv pins s σ H _ I h) fun r s1 ⟨v, H1, I1, rv, q1⟩ => thn (ho pins s1 σ H1 _ I1 q1) fun u s2 ⟨x, H2, I2, rx, q2⟩ => thn (hi pins s2 σ H2 _ I2 q2) fun iv s3 ⟨y, H3, I3, ry, a, kvs, k, ex, ey, e, l, q3⟩ => ?_) hs
 subst ex ey
 obtain rfl : u = Value.ref a := rx
 exact xj (by omega) I3 (DPut.k e l) ry rv fun s4 I4 => ⟨σ, _, I4, q3⟩
end
end L2
namespace L2
open PySem PySem.Spec PyProof.Rows
section
variable {X : Cx}
end
end L2
namespace L4
open PySem L2
end L4
namespace L2
open PySem PySem.Spec PyProof.Rows
section
variable {prog : Program} {w : World} {A : Around} {R : Result -> Shared -> Prop}
abbrev TK (prog : Program) (w : World) : HeapKind prog w (List Key) := tupleKind (zE prog w)
theorem Wb {h h' : Heap} {ks : List Key} {a b0 : Addr} (x : (TK prog w).is h ks a) (hs : ∀ b o, b ≠ b0 -> h.get? b = some o -> h'.get? b = some o) (hn : ∀ o, h.get? b0 = some o -> o.cls ≠ .type "tuple") : (TK prog w).is h' ks a := by
 obtain ⟨o, items, n, e, c, r⟩ := x
 exact ⟨o, items, n, hs a o (fun z => by subst z; exact hn o e c) e, c, r⟩
theorem JG {h h' : Heap} {d b0 : Addr} {xs : List (List Key × Addr × Value)} (m : h.DictOfH (TK prog w) d xs) (hd : d ≠ b0) (hs : ∀ b o, b ≠ b0 -> h.get? b = some o -> h'.get? b = some o) (hn : ∀ o, h.get? b0 = some o -> o.cls ≠ .type "tuple") : h'.DictOfH (TK prog w) d xs := by
 obtain ⟨o, es, ep, ho, hc, hd', he, his, hn'⟩ := m
 exact ⟨o, es, ep, hs d o hd ho, hc, hd', he, fun x hx => Wb (his x hx) hs hn, hn'⟩
def ZN (prog : Program) (w : World) (h : Heap) (v : Value) (p : List Key × Addr × Value) : Prop := ∃ b, v = .ref b /\ h.IsTuple b #[.ref p.2.1, p.2.2] /\ (TK prog w).is h p.1 p.2.1
theorem ZN.keep {h h' : Heap} {v : Value} {p : List Key × Addr × Value} {b0 : Addr} (x : ZN prog w h v p) (hs : ∀ b o, b ≠ b0 -> h.get? b = some o -> h'.get? b = some o) (hn : ∀ o, h.get? b0 = some o -> o.cls ≠ .type "tuple") : ZN prog w h' v p := by
 obtain ⟨b, rfl, ⟨o, e, c, r⟩, hk⟩ := x
 exact ⟨b, rfl, ⟨o, hs b o (fun z => by subst z; exact hn o e c) e, c, r⟩, Wb hk hs hn⟩
def xl (acc ps : List (List Key × Addr × Value)) : List (List Key × Addr × Value) := ps.foldl (fun acc p => storedH acc p.1 p.2.1 p.2.2) acc
theorem WK (acc : List (List Key × Addr × Value)) (k : List Key) (a : Addr) (v : Value) : (storedH acc k a v).length <= acc.length + 1 := by
 unfold storedH
 split
 ·rw [List.length_map]; omega
 ·rw [List.length_append]; simp
theorem xm (hh : A.handled = none) (hu : A.units + 1 < cLine) (D L it : Addr) (items : Array Value) (hDL : D ≠ L) (hDi : D ≠ it) (hLi : L ≠ it) (ps : List (List Key × Addr × Value)) (hlen : ps.length = items.size) (hsz : ps.length <= sizeLine) :
  ∀ (n i : Nat) (s : Shared) (acc : List (List Key × Addr × Value)), n + i = items.size -> acc.length <= i -> s.heap.IsListIter it L i -> s.heap.IsList L items -> s.heap.DictOfH (TK prog w) D acc ->
  (∀ (j : Nat) (p : List Key × Addr × Value) (v : Value), ps[j]? = some p -> items[j]? = some v -> ZN prog w s.heap v p) ->
  (∀ h' tk, h'.DictOfH (TK prog w) D (xl acc (ps.drop i)) -> (∀ b o, b ≠ D -> b ≠ it -> s.heap.get? b = some o -> h'.get? b = some o) -> R (.ok (.ret .none)) { s with heap := h', toks := tk }) ->
  codeAny (model prog w) A (.builtin "dict.update.loop" ⟨[.ref D, .ref it, rawInt i, .none], []⟩) R s := by
 intro n
 induction n with
 | zero =>
  intro i s acc hn hacc hit hl hd hp hR
  obtain ⟨oi, hoi, hci, _⟩ := id hit
  refine codeAny_builtin jc ?_
  rw [Around.under_plainId zT _]
  show wpAny _ A.in1 (pyNext (.ref it) >>= _) _ _ s
  refine wpAny_bind (wpAny_pyNext_list_end (show A.in1.handled = none from hh) hit hl (by simp; omega) fun h' eb => ?_)
  show wpAny _ _ (Builtin.Dict.addKeywords D [] >>= _) _ _ _
  refine wpAny_bind (wpAny_pure (wpAny_pure (hR h' s.toks ?_ fun b o _ h2 e => eb b o h2 e)))
  rw [List.drop_eq_nil_of_le (by omega)]
  exact JG hd hDi (fun b o hb e => eb b o hb e) fun o e => by rw [hoi] at e; cases e; rw [hci]; decide
 | succ n ih =>
  intro i s acc hn hacc hit hl hd hp hR
  have hi : i < items.size := by omega
  obtain ⟨v, hv⟩ : ∃ v, items[i]? = some v := ⟨items[i], by simp [hi]⟩
  obtain ⟨p, hpi⟩ : ∃ p, ps[i]? = some p := ⟨ps[i]'(by omega), by rw [List.getElem?_eq_getElem (by omega)]⟩
  refine codeAny_builtin jc ?_
  rw [Around.under_plainId zT _]
  show wpAny _ A.in1 (pyNext (.ref it) >>= _) _ _ s
  refine wpAny_bind (wpAny_pyNext_list_item hit hl hv fun h1 hit1 hs1 => ?_)
  obtain ⟨oi, hoi, hci, _⟩ := hit
  have nti : ∀ o, s.heap.get? it = some o -> o.cls ≠ .type "tuple" := fun o e => by rw [hoi] at e; cases e; rw [hci]; decide
  have hp1 : ∀ (j : Nat) (p : List Key × Addr × Value) (v : Value), ps[j]? = some p -> items[j]? = some v -> ZN prog w h1 v p := fun j p v a b => (hp j p v a b).keep (b0 := it) (fun b o hb e => hs1.extBut b o hb e) nti
  obtain ⟨b, rfl, hb, hk⟩ := hp1 i p v hpi hv
  obtain ⟨ot, e1, e2, nt, e3⟩ := id hb
  have hd1 := JG hd hDi (fun b o hb e => hs1.extBut b o hb e) nti
  refine wpAny_bind (wpAny_holding (wpAny_bind (wpAny_tryCatch ?_)))
  unfold Builtin.Dict.pairItems
  refine wpAny_bind (wpAny_typeOf (T := "tuple") ⟨ot, e1, e2⟩ ?_)
  rw [if_pos (by decide)]
  refine wpAny_bind (wpAny_seqItems e1 e3 (wpAny_pure ?_))
  show wpAny _ _ (holding [.ref p.2.1, p.2.2] (dictSet D (.ref p.2.1) p.2.2)) _ _ _
  refine wpAny_holding (wpAny_dictSet_heap (s := { s with heap := h1 }) (hsz := by omega) (tupleKind_room_in1 hu) hk hd1 fun h2 hd2 hs2 => ?_)
  refine wpAny_pure ⟨plainId_quiet zT _, ?_⟩
  have hl1 : h1.IsList L items := hl.extBut hs1.extBut hLi
  have hle : (storedH acc p.1 p.2.1 p.2.2).length <= i + 1 := Nat.le_trans (WK ..) (by omega)
  obtain ⟨oD, _, _, hoD, hcD, _⟩ := id hd1
  have := ih (i + 1) { s with heap := h2, toks := s.toks + (TK prog w).draws p.1 } (storedH acc p.1 p.2.1 p.2.2) (by omega) hle (hit1.extBut hs2.extBut (Ne.symm hDi)) (hl1.extBut hs2.extBut (Ne.symm hDL)) hd2 (fun j p v a b => (hp1 j p v a b).keep (b0 := D) (fun b o hb e => hs2.extBut b o hb e) fun o e => by
    rw [hoD] at e; cases e; rw [hcD.1]; decide) fun h' tk hd' hk' => ?_
  ·simpa using this
  ·refine hR h' tk ?_ fun b o h1 h2 e => hk' b o h1 h2 (hs2.extBut b o h1 (hs1.extBut b o h2 e))
   have e4 : ps.drop i = p :: ps.drop (i + 1) := by
    rw [List.getElem?_eq_some_iff] at hpi
    obtain ⟨h5, h6⟩ := hpi
    rw [<- h6]
    exact List.drop_eq_getElem_cons h5
   unfold xl
   rw [e4, List.foldl_cons]
   exact hd'
theorem Qz {E : Value -> Shared -> Prop} {Q : Value -> Shared -> Prop} {s : Shared} {L : Addr} {o : Obj} {items : Array Value} {k : Nat} {ps : List (List Key × Addr × Value)} (hh : A.handled = none) (hu : A.units + 2 < cLine) (hx : s.heap.get? L = some o) (hc : o.cls = .type "list") (hdat : o.data = .seq items k) (hdn : o.dict = none)
  (hlen : ps.length = items.size) (hsz : ps.length <= sizeLine) (hp : ∀ (j : Nat) (p : List Key × Addr × Value) (v : Value), ps[j]? = some p -> items[j]? = some v -> ZN prog w s.heap v p)
  (h : ∀ h' tk, h'.DictOfH (TK prog w) s.heap.objs.size (xl [] ps) -> (∀ b o, s.heap.get? b = some o -> h'.get? b = some o) -> Q (.ref s.heap.objs.size) { s with heap := h', toks := tk }) :
  wpAny (model prog w) A (call (.type "dict") [.ref L]) Q E s := by
 refine callType_codes (Q₁ := fun obj s₁ => obj = .ref s.heap.objs.size /\ s₁ = { s with heap := s.heap.push { cls := .type "dict", data := .dict #[] } }) PySem.F.kt_called_dict (PySem.F.kt_typeCall_dict_1 _) PySem.F.entry_dict_init (kt_code_dict_new _ ⟨rfl, rfl⟩) ?_
 rintro obj s₁ ⟨rfl, rfl⟩
 have hnew : (s.heap.push { cls := .type "dict", data := .dict #[] }).DictOf (zE prog w) s.heap.objs.size [] := Heap.DictOf.new s.heap
 have hnewH : (s.heap.push { cls := .type "dict", data := .dict #[] }).DictOfH (TK prog w) s.heap.objs.size [] := ⟨_, #[], 0, Heap.get?_push_size _ rfl, ⟨rfl, rfl, rfl⟩, rfl, rfl, fun x hx => (by cases hx), .nil⟩
 have hx1 := Heap.get?_push_of_some { cls := .type "dict", data := .dict #[] } hx
 have Llt : L < s.heap.objs.size := Heap.lt_size hx
 refine ⟨hnew.typeIs, PySem.F.args_dict_init_2 _ _, ?_⟩
 unfold Builtin.«dict.__init__»
 refine wpAny_bind ?_
 unfold Builtin.Dict.selfAndRest
 refine wpAny_bind (wpAny_notOrdered_dict hnew.typeIs ?_)
 show wpAny _ _ (pure (s.heap.objs.size, [Value.ref L])) _ _ _
 refine wpAny_pure ?_
 show wpAny _ _ (Builtin.Dict.updateFrom "dict.__init__" s.heap.objs.size (.ref L) [] .none) _ _ _
 unfold Builtin.Dict.updateFrom
 refine wpAny_bind (wpAny_typeOf (T := "list") ⟨o, hx1, hc⟩ ?_)
 rw [if_pos (by decide)]
 refine wpAny_bind (w8 hx1 hc hdat hdn (show A.in1.in1.handled = none from hh) fun h' tk kp => ?_)
 rw [if_pos (by rfl)]
 have hL' : h'.IsList L items := ⟨o, kp _ _ hx1, hc, k, hdat⟩
 refine wpAny_bind (wpAny_rule (wpAny_bind (wpAny_pyIter_list hL' ?_)))
 have Dget : ∃ od, h'.get? s.heap.objs.size = some od := ⟨_, kp _ _ (Heap.get?_push_size _ rfl)⟩
 have Dlt : s.heap.objs.size < h'.objs.size := let ⟨_, e⟩ := Dget; Heap.lt_size e
 refine wpAny_pure ⟨plainId_quiet zT _, ?_⟩
 have it0 : (h'.push { cls := .type "list_iterator", data := .fields #[.ref L, .int 0 0] }).IsListIter h'.objs.size L 0 := ⟨_, Heap.get?_push_size _ rfl, rfl, rfl⟩
 have hd' : (h'.push { cls := .type "list_iterator", data := .fields #[.ref L, .int 0 0] }).DictOfH (TK prog w) s.heap.objs.size [] := by
  obtain ⟨od, es, ep, e, h1, h2, h3, _, h5⟩ := hnewH
  exact ⟨od, es, ep, Heap.get?_push_of_some _ (kp _ _ e), h1, h2, h3, (fun x hx => by cases hx), h5⟩
 refine xm (A := A.in1) (show A.in1.handled = none from hh) (show A.units + 1 + 1 < cLine from hu) s.heap.objs.size L h'.objs.size items (Nat.ne_of_gt Llt) (Nat.ne_of_lt Dlt) (Nat.ne_of_lt (Nat.lt_trans Llt Dlt)) ps hlen hsz items.size 0 { s with heap := h'.push { cls := .type "list_iterator", data := .fields #[.ref L, .int 0 0] }, toks := tk } [] rfl (Nat.le_refl _) it0 (hL'.push _) hd' (fun j p v a b => ?_) fun h2 tk2 hd2 hk2 => ?_
 ·obtain ⟨bb, e1, ⟨ot, e2, r⟩, ⟨o3, i3, n3, e3, r3⟩⟩ := hp j p v a b
  exact ⟨bb, e1, ⟨ot, Heap.get?_push_of_some _ (kp _ _ (Heap.get?_push_of_some _ e2)), r⟩, ⟨o3, i3, n3, Heap.get?_push_of_some _ (kp _ _ (Heap.get?_push_of_some _ e3)), r3⟩⟩
 ·refine ⟨rfl, h h2 tk2 ?_ fun b ob e => hk2 b ob (Nat.ne_of_lt (Heap.lt_size e)) (Nat.ne_of_lt (Nat.lt_trans (Heap.lt_size e) Dlt)) (Heap.get?_push_of_some _ (kp _ _ (Heap.get?_push_of_some _ e)))⟩
  rw [List.drop_zero] at hd2
  exact hd2
end
def WL (H : Hp) : List V -> List (List Key × V) -> Prop := Paired fun x p => ∃ b kb, x = .ref b /\ H b = some (.tup [.ref kb, p.2]) /\ H kb = some (.tup (p.1.map kV))
def putAllT (kvs ps : List (List Key × V)) : List (List Key × V) := ps.foldl (fun acc p => j9 acc p.1 p.2) kvs
theorem prsT_at {P : Program} {w : World} {H : Hp} {h : Heap} (ok : HOk P w H h) {xs : List V} {ps : List (List Key × V)} (r : WL H xs ps) : ∀ {us : List Value}, qo xs us -> ∃ rs : List (List Key × Addr × Value), KT H ps rs /\ ∀ (j : Nat) (p : List Key × Addr × Value) (v : Value), rs[j]? = some p -> us[j]? = some v -> ZN P w h v p := by
 unfold WL at r
 induction r with
 | nil =>
  intro us rv
  exact ⟨[], .nil, fun j p v e => by simp at e⟩
 | @cons x p xs ps hx t ih =>
  intro us rv
  cases rv with
  | @cons _ u _ us hu rv =>
   obtain ⟨rs, r1, r2⟩ := ih rv
   obtain ⟨b, kb, rfl, hb, hkb⟩ := hx
   obtain ⟨_, its, ri, o, e1, e2, ⟨n, e3⟩, _⟩ := (show qu P w H h b (.tup [.ref kb, p.2]) from ok b _ hb)
   cases ri with
   | @cons _ ku _ _ hk ri =>
    cases ri with
    | @cons _ vu _ _ hv ri =>
     cases ri
     obtain rfl : ku = Value.ref kb := hk
     refine ⟨(p.1, kb, vu) :: rs, .cons ⟨rfl, hkb, hv⟩ r1, fun j q v ej ev => ?_⟩
     cases j with
     | zero =>
      cases (Option.some.inj ej)
      cases (Option.some.inj ev)
      obtain rfl : u = Value.ref b := hu
      exact ⟨b, rfl, ⟨o, e1, e2, n, e3⟩, QT ok hkb⟩
     | succ j => exact r2 j q v ej ev
theorem put_allT {H : Hp} {ps : List (List Key × V)} {rs : List (List Key × Addr × Value)} (r : KT H ps rs) : ∀ {acc : List (List Key × V)} {bcc : List (List Key × Addr × Value)}, KT H acc bcc -> KT H (putAllT acc ps) (xl bcc rs) := by
 unfold KT at r
 induction r with
 | nil => exact fun q => q
 | @cons p q ps qs h t ih =>
  intro acc bcc ra
  obtain ⟨h1, h2, h3⟩ := h
  show KT H (putAllT (j9 acc p.1 p.2) ps) (xl (storedH bcc q.1 q.2.1 q.2.2) qs)
  rw [<- h1]
  exact ih (KT.put ra p.1 h2 h3)
theorem ZD : ∀ (ps acc : List (List Key × V)), (putAllT acc ps).length <= acc.length + ps.length
 | [], acc => Nat.le_refl _
 | p :: ps, acc => by
  have h1 := ZD ps (j9 acc p.1 p.2)
  have h2 := j5 acc p.1 p.2
  show (putAllT (j9 acc p.1 p.2) ps).length <= _
  rw [List.length_cons]; omega
section
variable {X : Cx}
def tDictPT (ta : TA) : TE := fun σ H Q => ta σ H fun vs H1 => ∃ p xs ps, vs = [.ref p] /\ H1 p = some (.lst xs) /\ WL H1 xs ps /\ ∀ D, H1 D = none -> Q (.ref D) (upd H1 D (.dT (putAllT [] ps)))
theorem xn {k : Nat} (hr : ZS k X.A) {a : Expr} {ta : TA} {p pos : Pos} (hg : Gl X "dict") (hm : X.mg "dict" = none) (ha : PA X [a] ta) (hs : starEach [a] X.env = [(false, eval a X.env)] := by rfl) (hc : X.calm = true := by rfl) :
  PE X (.Call (.Name "dict" p) [a] [] pos) (tDictPT ta) := by
 intro pins s σ H Q I h
 have hu : X.A.units + 64 < cLine := hr.units
 refine Call_ (ZR I hg hm Qk (PyProof.Rows.callWith_type1 (thn (ha pos pins s σ H _ I h) fun us s1 ⟨vs, H1, I1, r1, q1⟩ => ?_) hs rfl))
 obtain ⟨p1, xs, ps, e, hq, hps, q⟩ := q1
 subst e
 obtain ⟨u1, rfl, r2⟩ := vals1 r1
 cases r2
 obtain ⟨hz, its, n, rv, eo⟩ := (show qu X.prog X.w H1 s1.heap p1 (.lst xs) from I1.hok p1 _ hq)
 obtain ⟨rs, rk, hpa⟩ := prsT_at I1.hok hps rv
 have a1 : ps.length = rs.length := Paired.length rk
 have a2 := Paired.length hps
 have l1 : rs.length = its.toArray.size := by
  have a3 := rv.length
  simp; omega
 refine Qz (ps := rs) (I1.ok.hd hc) (by omega) eo rfl rfl rfl l1 (by omega) (fun j p v a b => hpa j p v a (by simpa using b)) fun h' tk hd' kp => ?_
 have hb : (s1.heap.objs.size == sysModules) = false := beq_eq_false_iff_ne.mpr (Ne.symm (Nat.ne_of_lt I1.big))
 have hl : (putAllT [] ps).length <= sizeLine := by
  have := ZD ps []
  simp at this; omega
 have Hn : H1 s1.heap.objs.size = none := I1.hok.fresh (Nat.le_refl _)
 obtain ⟨od, es, ep, f1, f2, f3, f4, _, f6⟩ := hd'
 exact ⟨.ref s1.heap.objs.size, _, I1.laid (a := s1.heap.objs.size) (o := .dT (putAllT [] ps)) (t' := tk) kp (Nat.le_refl _) ⟨hl, hb, _, (put_allT rk .nil).keeps fun b ys e => by rw [zn (zx e Hn)]; exact e, od, es, ep, f1, f2, f3, f4, f6⟩, rfl, q _ Hn⟩
theorem hu1 {k : Nat} {A : Around} (hr : ZS k A) : A.units + 1 < cLine := by
 have : A.units + 64 < cLine := hr.units
 omega
def rTNotIn : R2 := fun y x H Q => ∃ a b kvs k, x = .ref a /\ y = .ref b /\ H a = some (.dT kvs) /\ H b = some (.tup (k.map kV)) /\ Q (.bl (!(jE kvs k).isSome)) H
theorem xo {j : Nat} (hr : ZS j X.A) : OpR X (compareOp .NotIn) rTNotIn := by
 intro pins s σ H x y v u Q I rx ry h
 obtain ⟨a, b, kvs, k, rfl, rfl, ha, hb, q⟩ := h
 have hu : X.A.units + 64 < cLine := hr.units
 obtain rfl : u = Value.ref a := ry
 exact d_notIn (by omega) I (WA.t ha hb) rx fun s' I' => ⟨.bl _, H, I', rfl, q⟩
end
end L2
namespace L2
open PySem
abbrev Rs (xs : Array Nat) : Prop := xs.toList.Pairwise (· < ·)
def JH (xs : List Nat) (j : Nat) : Nat := (xs.filter fun x => decide (x < j)).length
theorem yr (xs : List Nat) (j : Nat) : JH xs j <= xs.length := List.length_filter_le _ _
theorem j7 : ∀ (xs : List Nat) (j i : Nat) (x : Nat), xs.Pairwise (· < ·) -> xs[i]? = some x -> (x < j ↔ i < JH xs j)
 | [], j, i, x, _, h => by simp at h
 | y :: xs, j, 0, x, hp, h => by
  obtain rfl : y = x := by simpa using h
  unfold JH
  rw [List.filter_cons]
  by_cases hy : y < j
  ·simp [hy]
  ·have : xs.filter (fun x => decide (x < j)) = [] := by
    rw [List.filter_eq_nil_iff]
    intro z hz
    have := (List.pairwise_cons.mp hp).1 z hz
    simp
    omega
   simp [hy, this]
 | y :: xs, j, i + 1, x, hp, h => by
  have h' : xs[i]? = some x := by simpa using h
  have ih := j7 xs j i x (List.pairwise_cons.mp hp).2 h'
  have hyx := (List.pairwise_cons.mp hp).1 x (List.mem_of_getElem? h')
  unfold JH at ih ⊢
  rw [List.filter_cons]
  by_cases hy : y < j
  ·simp only [hy, decide_true, if_true, List.length_cons]
   rw [ih]
   omega
  ·simp only [hy, decide_false, Bool.false_eq_true, if_false]
   constructor
   ·intro hx
    omega
   ·intro hi
    have := ih.mpr (by omega)
    omega
theorem J9 {xs : Array Nat} {j : Nat} (hr : Rs xs) : ∀ (fuel lo hi : Nat), hi - lo <= fuel -> lo <= JH xs.toList j -> JH xs.toList j <= hi -> hi <= xs.size -> SetTable.below.go xs j fuel lo hi = JH xs.toList j
 | 0, lo, hi, h1, h2, h3, h4 => by
  unfold SetTable.below.go
  omega
 | fuel + 1, lo, hi, h1, h2, h3, h4 => by
  unfold SetTable.below.go
  by_cases hlt : lo < hi
  ·rw [if_pos hlt]
   have hm : (lo + hi) / 2 < xs.size := by omega
   have hx : xs.toList[(lo + hi) / 2]? = some xs[(lo + hi) / 2] := by simp [hm]
   have hc := j7 xs.toList j _ _ hr hx
   have eg : xs.getD ((lo + hi) / 2) j = xs[(lo + hi) / 2] := by simp [Array.getD, hm]
   dsimp only
   rw [eg]
   by_cases hy : xs[(lo + hi) / 2] < j
   ·rw [if_pos hy]
    have := hc.mp hy
    exact J9 hr fuel _ _ (by omega) (by omega) h3 h4
   ·rw [if_neg hy]
    have : ¬ (lo + hi) / 2 < JH xs.toList j := fun z => hy (hc.mpr z)
    exact J9 hr fuel _ _ (by omega) h2 (by omega) (by omega)
  ·rw [if_neg hlt]
   omega
theorem Z3 {xs : Array Nat} (hr : Rs xs) (j : Nat) : SetTable.below xs j = JH xs.toList j := by
 unfold SetTable.below
 have := yr xs.toList j
 exact J9 hr _ _ _ (by omega) (Nat.zero_le _) (by simpa using this) (Nat.le_refl _)
theorem at_below {xs : Array Nat} (hr : Rs xs) {j : Nat} : xs[SetTable.below xs j]? = some j ↔ j ∈ xs.toList := by
 rw [Z3 hr]
 constructor
 ·intro h
  have : xs.toList[JH xs.toList j]? = some j := by simpa using h
  exact List.mem_of_getElem? this
 ·intro h
  obtain ⟨i, hi⟩ := List.mem_iff_getElem?.mp h
  have h1 : ¬ i < JH xs.toList j := fun z => Nat.lt_irrefl _ ((j7 _ _ _ _ hr hi).mpr z)
  have hil := (List.getElem?_eq_some_iff.mp hi).1
  have hcl : JH xs.toList j <= i := by omega
  have hc : JH xs.toList j < xs.toList.length := by omega
  have hx : xs.toList[JH xs.toList j]? = some xs.toList[JH xs.toList j] := List.getElem?_eq_getElem hc
  have h2 : ¬ xs.toList[JH xs.toList j] < j := fun z => Nat.lt_irrefl _ ((j7 _ _ _ _ hr hx).mp z)
  have e : JH xs.toList j = i := by
   rcases Nat.lt_or_eq_of_le hcl with h3 | h3
   ·exfalso
    have := List.pairwise_iff_getElem.mp hr (JH xs.toList j) i hc hil h3
    have ei : xs.toList[i] = j := (List.getElem?_eq_some_iff.mp hi).2
    omega
   ·exact h3
  rw [e]
  simpa using hi
theorem JI {xs : Array Nat} (hr : Rs xs) {i x : Nat} (h : xs[i]? = some x) : SetTable.below xs (x + 1) = i + 1 := by
 rw [Z3 hr]
 have hx : xs.toList[i]? = some x := by simpa using h
 have h1 := (j7 _ (x + 1) _ _ hr hx).mp (Nat.lt_succ_self _)
 by_cases h2 : i + 1 < xs.toList.length
 ·have hy : xs.toList[i + 1]? = some xs.toList[i + 1] := List.getElem?_eq_getElem h2
  have h3 : ¬ xs.toList[i + 1] < x + 1 := by
   have hil := (List.getElem?_eq_some_iff.mp hx).1
   have := List.pairwise_iff_getElem.mp hr i (i + 1) hil h2 (Nat.lt_succ_self _)
   have ei : xs.toList[i] = x := (List.getElem?_eq_some_iff.mp hx).2
   omega
  have hn : ¬ i + 1 < JH xs.toList (x + 1) := fun z => h3 ((j7 _ (x + 1) _ _ hr hy).mpr z)
  omega
 ·have := yr xs.toList (x + 1)
  omega
theorem Z4 {α : Type} (xs : Array α) (p : Nat) (x : α) : (SetTable.insertAt xs p x).toList = xs.toList.take p ++ x :: xs.toList.drop p := by
 unfold SetTable.insertAt
 simp
 exact List.take_of_length_le (by simp)
theorem JJ {xs : Array Nat} (hr : Rs xs) {j : Nat} (hj : j ∉ xs.toList) : Rs (SetTable.insertAt xs (SetTable.below xs j) j) := by
 unfold Rs
 rw [Z4, Z3 hr]
 have hle := yr xs.toList j
 rw [List.pairwise_append]
 refine ⟨hr.sublist (List.take_sublist _ _), ?_, ?_⟩
 ·rw [List.pairwise_cons]
  refine ⟨fun y hy => ?_, hr.sublist (List.drop_sublist _ _)⟩
  obtain ⟨i, hi⟩ := List.mem_iff_getElem?.mp hy
  rw [List.getElem?_drop] at hi
  have h1 : ¬ y < j := fun z => by
   have := (j7 _ j _ _ hr hi).mp z
   omega
  have h2 : y ≠ j := fun z => hj (z ▸ List.mem_of_getElem? hi)
  omega
 ·intro a ha b hb
  obtain ⟨i, hi⟩ := List.mem_iff_getElem?.mp ha
  have hil := (List.getElem?_eq_some_iff.mp hi).1
  rw [List.length_take] at hil
  rw [List.getElem?_take_of_lt (by omega)] at hi
  have haj : a < j := (j7 _ j _ _ hr hi).mpr (by omega)
  rcases List.mem_cons.mp hb with rfl | hb
  ·exact haj
  ·obtain ⟨i', hi'⟩ := List.mem_iff_getElem?.mp hb
   rw [List.getElem?_drop] at hi'
   have h1 : ¬ b < j := fun z => by
    have := (j7 _ j _ _ hr hi').mp z
    omega
   omega
end L2
namespace L2
open PySem
structure ZE (t : SetTable) (b : Bool) : Prop where
 dum : t.dummies = #[]
 rs : Rs t.place
 led : t.led = b
theorem ZE.plainOff {t : SetTable} {b : Bool} (h : ZE t b) : ZE { t with plain := false } b := ⟨h.dum, h.rs, h.led⟩
theorem rs_range (n : Nat) : Rs (Array.range n) := by
 unfold Rs
 rw [Array.toList_range]
 exact List.pairwise_lt_range
theorem ZE.standIn {t : SetTable} {b : Bool} (h : ZE t b) (n : Nat) : ZE (t.standIn n) b := ⟨rfl, rs_range n, h.led⟩
theorem ZE.fresh (b : Bool) : ZE (.fresh 0 0 b) b := ⟨rfl, List.Pairwise.nil, rfl⟩
theorem WM (j : Nat) : SetTable.has #[] j = false := by
 unfold SetTable.has
 simp
theorem Yb {t : SetTable} {b : Bool} (h : ZE t b) {j : Nat} (e : t.slot j = .empty) : j ∉ t.place.toList := fun hm => by
 unfold SetTable.slot at e
 have := (at_below h.rs).mpr hm
 dsimp only at e
 rw [this] at e
 simp at e
theorem WN {t : SetTable} {b : Bool} (h : ZE t b) {j : Nat} : t.slot j ≠ .dummy := fun e => by
 unfold SetTable.slot at e
 rw [h.dum, WM] at e
 dsimp only at e
 split at e
 ·cases e
 ·simp at e
theorem xp (t : SetTable) (p : SetTable.Probe) : (t.advance p).dummy = p.dummy := by
 unfold SetTable.advance
 split <;> rfl
theorem JK {t : SetTable} {b : Bool} (h : ZE t b) {f : Nat -> Int} {x : Int} : ∀ (fuel : Nat) (p : SetTable.Probe) (j : Nat) (d : Option Nat), p.dummy = none -> SetTable.probe.go t f x fuel p = some (.empty j d) -> d = none /\ t.slot j = .empty
 | 0, p, j, d, _, e => by
  unfold SetTable.probe.go at e
  cases e
 | fuel + 1, p, j, d, hp, e => by
  unfold SetTable.probe.go at e
  cases hs : t.slot p.j with
  | empty =>
   rw [hs] at e
   dsimp only at e
   injection e with e
   injection e with e1 e2
   rw [<- e1, <- e2]
   exact ⟨hp, hs⟩
  | dummy => exact absurd hs (WN h)
  | live i =>
   rw [hs] at e
   dsimp only at e
   split at e
   ·cases e
   ·exact JK h fuel _ j d (by rw [xp]; exact hp) e
theorem xq {t : SetTable} {b : Bool} (h : ZE t b) {x : Int} {sl : Nat} {wd : Bool} (e : t.freeSlot x = some (sl, wd)) : wd = false /\ sl ∉ t.place.toList := by
 unfold SetTable.freeSlot SetTable.probe at e
 split at e
 ·rename_i j d hg
  obtain ⟨rfl, hs⟩ := JK h _ _ j d rfl hg
  injection e with e
  injection e with e1 e2
  rw [<- e1, <- e2]
  exact ⟨rfl, Yb h hs⟩
 ·cases e
theorem ZE.put {t : SetTable} {b : Bool} (h : ZE t b) {sl : Nat} (hs : sl ∉ t.place.toList) : ZE (t.put sl).1 b := by
 unfold SetTable.put
 refine ⟨?_, JJ h.rs hs, h.led⟩
 dsimp only
 rw [h.dum, WM]
 rfl
theorem ZE.orStandIn {t : SetTable} {b : Bool} (h : ZE t b) (n : Nat) : ZE (t.orStandIn n) b := by
 unfold SetTable.orStandIn
 split
 ·exact h
 ·exact h.standIn n
theorem xr {t : SetTable} {b : Bool} (h : ZE t b) (es : Array (Int × Value)) (x : Int) (v : Value) : ZE (layNew t es x v).2.1 b := by
 unfold layNew
 split
 ·rename_i sl wd hf
  exact (h.put (xq h hf).2).orStandIn _
 ·exact h.standIn _
theorem Wc {f : Nat -> Option Nat} : ∀ (n : Nat), (((List.range n).filterMap fun j => (f j).map (j, ·)).map (·.1)).Pairwise (· < ·) := by
 intro n
 have e : (((List.range n).filterMap fun j => (f j).map (j, ·)).map (·.1)) = (List.range n).filter fun j => (f j).isSome := by
  induction List.range n with
  | nil => rfl
  | cons a l ih =>
   rw [List.filterMap_cons, List.filter_cons]
   cases hf : f a with
   | none => simpa using ih
   | some k => simpa using ih
 rw [e]
 exact List.Pairwise.filter _ List.pairwise_lt_range
theorem WO {t : SetTable} {b : Bool} (h : ZE t b) (es : Array (Int × Value)) (w : Nat) : ZE (relayAll t es w).2.1 b := by
 unfold relayAll
 split
 ·rename_i t' order hr
  dsimp only
  split
  ·unfold SetTable.relaid SetTable.laid at hr
   cases ho : SetTable.layClean (SetTable.sizeAbove w - 1) (es.map (·.1)) with
   | none =>
    rw [ho] at hr
    cases hr
   | some owner =>
    rw [ho] at hr
    have hr' := Option.some.inj hr
    have e1 : _ = t' := congrArg Prod.fst hr'
    rw [<- e1]
    exact ⟨rfl, Wc (f := fun j => owner.getD j none) _, h.led⟩
  ·exact h.standIn _
 ·exact h.standIn _
section
variable {prog : Program} {w : World} {K : Type} [DecidableEq K] {knd : KeyKind prog w K} {A : Around} {E : Value -> Shared -> Prop} {s : Shared}
def SetT (knd : KeyKind prog w K) (h : Heap) (a : Addr) (S : K -> Bool) (n : Nat) (b : Bool) : Prop :=
 ∃ o es ep t, h.get? a = some o /\ o.ExactSet /\ o.data = .set es ep t /\ ElemsOf knd es.toList /\ (∀ k, S k = true ↔ ∃ e ∈ es.toList, knd.is k e.2 = true) /\ es.size < scanBound /\ t.fits es.size = true /\ es.size = n /\ ZE t b
theorem JL {h : Heap} {a : Addr} {o : Obj} {es : Array (Int × Value)} {ep : Nat} {t : SetTable} {b : Bool} (ho : h.get? a = some o) (hex : o.ExactSet) (hd : o.data = .set es ep t)
  {es' : Array (Int × Value)} {t' : SetTable} {S' : K -> Bool} (hel : ElemsOf knd es'.toList) (hmem : ∀ k, S' k = true ↔ ∃ e ∈ es'.toList, knd.is k e.2 = true) (hb : es'.size < scanBound) (hf : t'.fits es'.size = true) (ht : ZE t' b) :
  (h.update a (Obj.putSet es' t')).get? a = some { o with data := .set es' (ep + 1) t' } /\ SetT knd (h.update a (Obj.putSet es' t')) a S' es'.size b := by
 have hg : (h.update a (Obj.putSet es' t')).get? a = some { o with data := .set es' (ep + 1) t' } := by
  have := Heap.get?_update_self (Obj.putSet es' t') ho (by rw [putSet_of es' t' hd]; rfl)
  rw [putSet_of es' t' hd] at this; exact this
 exact ⟨hg, _, es', ep + 1, t', hg, hex, rfl, hel, hmem, hb, hf, rfl, ht⟩
theorem yt {g : Bool -> Sem Unit} (hg : ∀ (b : Bool) (s₁ : Shared) (Q' : Unit -> Shared -> Prop), Q' () s₁ -> wpAny (model prog w) A (g b) Q' E s₁)
  {a : Addr} {o : Obj} {es : Array (Int × Value)} {ep : Nat} {t : SetTable} (ho : s.heap.get? a = some o) (hex : o.ExactSet) (hd : o.data = .set es ep t)
  {es1 : Array (Int × Value)} {t2 : SetTable} {S' : K -> Bool} {bb : Bool} (hel1 : ElemsOf knd es1.toList) (hmem1 : ∀ k', S' k' = true ↔ ∃ e ∈ es1.toList, knd.is k' e.2 = true)
  (hb1 : es1.size < scanBound) (hf2 : t2.fits es1.size = true) (ht2 : ZE t2 bb) {wasDummy : Bool} {R : Option Bool -> Shared -> Prop}
  (h : ∀ h', Heap.SameBut a s.heap h' -> SetT knd h' a S' es1.size bb -> R (some true) { s with heap := h' }) :
  wpAny (model prog w) A (do
    storeSet a es1 t2
    if (!wasDummy && t2.tooFull) = true then do
      g (relayAll t2 es1 (SetTable.grown es1.size)).2.2
      storeSet a (relayAll t2 es1 (SetTable.grown es1.size)).1 (relayAll t2 es1 (SetTable.grown es1.size)).2.1
      pure (some true)
     else pure (some true)) R E s := by
 refine wpAny_bind (wpAny_storeSet_of ho hd ?_ (fits_of_scanBound hb1))
 obtain ⟨ho1, hS1⟩ := JL (knd := knd) ho hex hd hel1 hmem1 hb1 hf2 ht2
 have hsb1 := Heap.SameBut.update s.heap a (Obj.putSet es1 t2)
 split
 ·have hp := relayAll_perm t2 es1 (SetTable.grown es1.size)
  have hfr := relayAll_fits t2 es1 (SetTable.grown es1.size)
  have htr := WO ht2 es1 (SetTable.grown es1.size)
  generalize hRl : relayAll t2 es1 (SetTable.grown es1.size) = Rl at hp hfr htr ⊢
  obtain ⟨es2, t3, gave2⟩ := Rl
  dsimp only at hp hfr htr ⊢
  have hel2 : ElemsOf knd es2.toList := hel1.perm hp
  have hmem2 : ∀ k', S' k' = true ↔ ∃ e ∈ es2.toList, knd.is k' e.2 = true := fun k' => (hmem1 k').trans ⟨fun ⟨e, he, q⟩ => ⟨e, hp.mem_iff.mpr he, q⟩, fun ⟨e, he, q⟩ => ⟨e, hp.mem_iff.mp he, q⟩⟩
  have hsz : es2.size = es1.size := by rw [<- Array.length_toList, hp.length_eq, Array.length_toList]
  have hb2 : es2.size < scanBound := by rw [hsz]; exact hb1
  refine wpAny_bind (hg _ _ _ ?_)
  refine wpAny_bind (wpAny_storeSet_of ho1 rfl ?_ (fits_of_scanBound hb2))
  obtain ⟨_, hS2⟩ := JL (knd := knd) ho1 hex rfl hel2 hmem2 hb2 hfr htr
  rw [hsz] at hS2
  exact wpAny_pure (h _ (hsb1.trans (Heap.SameBut.update _ a _)) hS2)
 ·exact wpAny_pure (h _ hsb1 hS1)
theorem setAddT {a : Addr} {S : K -> Bool} {n : Nat} {bb : Bool} {k : K} {x : Value} {Q : Bool -> Shared -> Prop} (hkey : knd.is k x = true) (hsc : x.scannable = true) (hS : SetT knd s.heap a S n bb)
  (hroom : n + 1 < scanBound)
  (h : ∀ h', Heap.SameBut a s.heap h' -> SetT knd h' a (fun k' => S k' || decide (k' = k)) (if S k then n else n + 1) bb -> Q (!S k) { s with heap := h' }) :
  wpAny (model prog w) A (setAddHashed a x (knd.hash k)) Q E s := by
 obtain ⟨o, es, ep, t, ho, hex, hd, hel, hmem, hb, hf, hn, ht⟩ := hS
 have hb1 : es.size + 1 < scanBound := by rw [hn]; exact hroom
 unfold setAddHashed setAddHashedIn
 refine wpAny_holding (wpAny_bind (wpAny_setState_of ho hd hf ?_))
 dsimp only
 rw [byScan_of hsc hb hel]
 simp only [↓reduceIte]
 unfold setAddByScan
 refine wpAny_bind ?_
 refine wpAny_bind (wpAny_rule ?_)
 refine wpAny_bind (wpAny_setScan_of hkey ho hd hf hel ?_)
 cases hr : List.findIdx? (fun e => knd.is k e.2) es.toList with
 | some j =>
  dsimp only
  obtain ⟨hj, hpj, _⟩ := List.findIdx?_eq_some_iff_getElem.mp hr
  have hSk : S k = true := (hmem k).mpr ⟨es.toList[j], List.getElem_mem hj, hpj⟩
  refine wpAny_pure (wpAny_pure ?_)
  have e : s = { s with heap := s.heap } := by cases s; rfl
  have := h s.heap (Heap.SameBut.refl a s.heap) ⟨o, es, ep, t, ho, hex, hd, hel, fun k' => by
   rw [Bool.or_eq_true, decide_eq_true_eq, <- hmem k']
   exact ⟨fun hk => hk.elim id (fun e => e ▸ hSk), .inl⟩, hb, hf, by rw [hSk]; exact hn, ht⟩
  rw [hSk] at this; rw [e]; exact this
 | none =>
  dsimp only
  have hSk : S k = false := by
   cases hk : S k with
   | false => rfl
   | true => obtain ⟨e, he, hp⟩ := (hmem k).mp hk; have := List.findIdx?_eq_none_iff.mp hr e he; rw [hp] at this; exact Bool.noConfusion this
  have hgw : ∀ (b : Bool) {s₁ : Shared} {Q' : Unit -> Shared -> Prop}, Q' () s₁ -> wpAny (model prog w) A (match b with | true => rule "set.scan.the-table-gave-way" | false => pure ()) Q' E s₁ :=
   fun b s₁ Q' hq => by cases b <;> first | exact wpAny_pure hq | exact wpAny_rule hq
  have hperm := layNew_perm t es (knd.hash k) x
  have hfits := layNew_fits t es (knd.hash k) x
  have hti := xr ht es (knd.hash k) x
  generalize hL : layNew t es (knd.hash k) x = L at hperm hfits hti ⊢
  obtain ⟨es1, t1, wasDummy, gave⟩ := L
  dsimp only at hperm hfits hti ⊢
  rw [Array.toList_push] at hperm
  have hel1 : ElemsOf knd es1.toList := (hel.push hkey hsc).perm hperm
  have hmem1 : ∀ k', (S k' || decide (k' = k)) = true ↔ ∃ e ∈ es1.toList, knd.is k' e.2 = true := mem_push_iff hkey hmem hperm
  have hb1' : es1.size < scanBound := by rw [<- Array.length_toList, hperm.length_eq, List.length_append, Array.length_toList]; simpa using hb1
  refine wpAny_bind (hgw _ ?_)
  have hsz1 : es1.size = n + 1 := by rw [<- Array.length_toList, hperm.length_eq, List.length_append, Array.length_toList, hn]; rfl
  have hend : ∀ h', Heap.SameBut a s.heap h' -> SetT knd h' a (fun k' => S k' || decide (k' = k)) es1.size bb -> Q true { s with heap := h' } := by
   intro h' hsb hS'; have := h h' hsb; rw [hSk] at this; rw [hsz1] at hS'; exact this hS'
  split
  ·refine wpAny_bind ?_
   rw [hashByValue_scannable 8 hsc]
   refine wpAny_pure ?_
   refine yt (bb := bb) ?_ ho hex hd hel1 hmem1 hb1' ?_ ?_ ?_
   ·intro b s₁ Q' hq; cases b <;> first | exact wpAny_pure hq | exact wpAny_rule hq
   ·split
    ·exact hfits
    ·exact SetTable.fits_plain_off hfits
   ·split
    ·exact hti
    ·exact hti.plainOff
   ·intro h' hsb hS'; dsimp only; exact wpAny_pure (hend h' hsb hS')
  ·refine wpAny_bind (wpAny_pure ?_)
   simp only [↓reduceIte]
   refine yt (bb := bb) ?_ ho hex hd hel1 hmem1 hb1' hfits hti ?_
   ·intro b s₁ Q' hq; cases b <;> first | exact wpAny_pure hq | exact wpAny_rule hq
   ·intro h' hsb hS'; dsimp only; exact wpAny_pure (hend h' hsb hS')
end
end L2
namespace L2
open PySem
def tt0 (mask : Nat) (P : List Nat) : SetTable := { mask := mask, place := P.toArray, dummies := #[], finger := 0, led := true, moves := 0, plain := true }
def Yc : Nat -> Nat -> List (List Nat)
 | 0, _ => [[]]
 | hi + 1, n => Yc hi n ++ (if n = 0 then [] else (Yc hi (n - 1)).map (· ++ [hi]))
theorem wb : ∀ (hi n : Nat), [] ∈ Yc hi n
 | 0, n => List.mem_singleton.mpr rfl
 | hi + 1, n => List.mem_append_left _ (wb hi n)
theorem QF : ∀ (hi n : Nat) (P : List Nat), P.Pairwise (· < ·) -> (∀ p ∈ P, p < hi) -> P.length <= n -> P ∈ Yc hi n
 | 0, n, P, _, hl, _ => by
  cases P with
  | nil => exact wb 0 n
  | cons p P => exact absurd (hl p (List.mem_cons_self ..)) (Nat.not_lt_zero _)
 | hi + 1, n, P, hp, hl, hn => by
  rcases List.eq_nil_or_concat P with rfl | ⟨Q, q, rfl⟩
  ·exact wb _ _
  ·rw [List.concat_eq_append] at *
   rw [List.pairwise_append] at hp
   obtain ⟨h1, _, h3⟩ := hp
   have hq := hl q (by simp)
   rw [List.length_append] at hn
   have hn' : Q.length + 1 <= n := hn
   by_cases e : q = hi
   ·refine List.mem_append_right _ ?_
    rw [if_neg (by omega), e]
    exact List.mem_map.mpr ⟨Q, QF hi (n - 1) Q h1 (fun p hp => by have := h3 p hp q (by simp); omega) (by omega), rfl⟩
   ·refine List.mem_append_left _ (QF hi n _ ?_ (fun p hp => ?_) (by rw [List.length_append]; exact hn))
    ·rw [List.pairwise_append]
     exact ⟨h1, List.pairwise_singleton _ _, h3⟩
    ·rcases List.mem_append.mp hp with h | h
     ·have := h3 p h q (by simp)
      omega
     ·rw [List.mem_singleton.mp h]
      omega
theorem free7' : ((Yc 8 4).all fun P => (List.range 9).all fun d => match (tt0 7 P).freeSlot (d : Int) with
  | some (sl, _) => decide (sl < 8)
  | none => false) = true := by decide +kernel
theorem free31' : ((Yc 9 9).all fun P => (List.range 9).all fun d => P.contains d || (tt0 31 P).freeSlot (d : Int) == some (d, false)) = true := by decide +kernel
theorem xt (t : SetTable) (hd : t.dummies = #[]) (h : Int) : t.freeSlot h = (tt0 t.mask t.place.toList).freeSlot h := by
 obtain ⟨mask, place, dummies, finger, led, moves, plain⟩ := t
 dsimp only at hd
 subst hd
 obtain ⟨pl⟩ := place
 unfold SetTable.freeSlot SetTable.probe
 have slot_as : ∀ j, SetTable.slot ⟨mask, ⟨pl⟩, #[], finger, led, moves, plain⟩ j = SetTable.slot (tt0 mask pl) j := fun j => rfl
 have adv_as : ∀ p, SetTable.advance ⟨mask, ⟨pl⟩, #[], finger, led, moves, plain⟩ p = SetTable.advance (tt0 mask pl) p := fun p => rfl
 have go_as : ∀ (f : Nat -> Int) (x : Int) (fuel : Nat) (p : SetTable.Probe), SetTable.probe.go ⟨mask, ⟨pl⟩, #[], finger, led, moves, plain⟩ f x fuel p = SetTable.probe.go (tt0 mask pl) f x fuel p := by
  intro f x fuel
  induction fuel with
  | zero => intro p; rfl
  | succ fuel ih =>
   intro p
   unfold SetTable.probe.go
   rw [slot_as]
   cases SetTable.slot (tt0 mask pl) p.j with
   | empty => rfl
   | dummy =>
    dsimp only
    rw [adv_as]
    exact ih _
   | live i =>
    dsimp only
    rw [adv_as, ih]
 rw [go_as]
 rfl
structure Dg (es : Array (Int × Value)) (t : SetTable) (b : Bool) : Prop where
 ti : ZE t b
 plain : t.plain = true
 len : t.place.size = es.size
 form : (t.mask = 7 /\ es.size <= 4 /\ ∀ p ∈ t.place.toList, p < 8) \/ (t.mask = 31 /\ es.size <= 9 /\ es.toList.map (·.1) = t.place.toList.map (fun (p : Nat) => (p : Int)) /\ ∀ p ∈ t.place.toList, p < 9)
theorem dg_fresh (b : Bool) : Dg #[] (.fresh 0 0 b) b := ⟨ZE.fresh b, rfl, rfl, .inl ⟨rfl, Nat.zero_le _, fun p hp => by cases hp⟩⟩
theorem QG {α : Type} (xs : Array α) (p : Nat) (x : α) (hp : p <= xs.size) : (SetTable.insertAt xs p x).size = xs.size + 1 := by
 rw [<- Array.length_toList, Z4, List.length_append, List.length_cons, List.length_take, List.length_drop, Array.length_toList]
 omega
theorem yu {xs : Array Nat} (hr : Rs xs) (j : Nat) : SetTable.below xs j <= xs.size := by
 rw [Z3 hr]
 simpa using yr xs.toList j
theorem lay7 {es : Array (Int × Value)} {t : SetTable} {b : Bool} (h : Dg es t b) (h7 : t.mask = 7) (h4 : es.size <= 4) (h8 : ∀ p ∈ t.place.toList, p < 8) {d : Nat} (hd : d < 9) (v : Value) :
  ∃ sl, sl < 8 /\ sl ∉ t.place.toList /\ t.freeSlot (d : Int) = some (sl, false) := by
 have hm := QF 8 4 t.place.toList h.ti.rs h8 (by have := h.len; simp; omega)
 have hc := List.all_eq_true.mp (List.all_eq_true.mp free7' _ hm) d (List.mem_range.mpr hd)
 have e := xt t h.ti.dum (d : Int)
 rw [h7] at e
 rw [<- e] at hc
 cases hf : t.freeSlot (d : Int) with
 | none => rw [hf] at hc; cases hc
 | some z =>
  obtain ⟨sl, wd⟩ := z
  rw [hf] at hc
  obtain ⟨h1, h2⟩ := xq h.ti hf
  exact ⟨sl, of_decide_eq_true hc, h2, by rw [h1]⟩
theorem lay31 {es : Array (Int × Value)} {t : SetTable} {b : Bool} (h : Dg es t b) (h31 : t.mask = 31) (h9 : ∀ p ∈ t.place.toList, p < 9) (hs : es.size <= 9) {d : Nat} (hd : d < 9) (hn : d ∉ t.place.toList) : t.freeSlot (d : Int) = some (d, false) := by
 have hm := QF 9 9 t.place.toList h.ti.rs h9 (by have := h.len; simp; omega)
 have hc := List.all_eq_true.mp (List.all_eq_true.mp free31' _ hm) d (List.mem_range.mpr hd)
 have e := xt t h.ti.dum (d : Int)
 rw [h31] at e
 rw [<- e] at hc
 rcases (Bool.or_eq_true _ _).mp hc with hc | hc
 ·exact absurd (by simpa using hc) hn
 ·exact eq_of_beq hc
end L2
namespace L2
open PySem
structure Own (ds : List Nat) (owner : Array (Option Nat)) (k : Nat) : Prop where
 size : owner.size = 32
 own : ∀ j i, owner.getD j none = some i ↔ (i < k /\ ds[i]? = some j)
theorem bits_dig {d : Nat} (hd : d < 9) : SetTable.bits (d : Int) % (31 + 1) = d := by
 unfold SetTable.bits
 have e : ((d : Int) % (2 ^ 64 : Int)) = (d : Int) := Int.emod_eq_of_lt (by omega) (by rw [show (2 ^ 64 : Int) = 18446744073709551616 from by decide]; omega)
 rw [e, Int.toNat_natCast]
 omega
theorem free_own {ds : List Nat} {owner : Array (Option Nat)} {k d : Nat} (h : Own ds owner k) (hd : d < 9) (hn : ∀ i, i < k -> ds[i]? ≠ some d) (p : Nat) : SetTable.layClean.free 31 owner (SetTable.turns 31) d p = some d := by
 show SetTable.layClean.free 31 owner 46 d p = some d
 unfold SetTable.layClean.free
 have hr : SetTable.runEnd 31 d + 1 - d = 10 := by
  unfold SetTable.runEnd
  rw [if_pos (by omega)]
  omega
 rw [hr]
 have h0 : (owner.getD (d + 0) (some 0)).isNone = true := by
  have h1 : owner.getD d none = none := by
   cases e : owner.getD d none with
   | none => rfl
   | some i =>
    obtain ⟨a, b⟩ := (h.own d i).mp e
    exact absurd b (hn i a)
  have hs : d < owner.size := by rw [h.size]; omega
  rw [Nat.add_zero]
  simp [Array.getD, hs] at h1 ⊢
  exact h1
 rw [show List.range 10 = 0 :: [1, 2, 3, 4, 5, 6, 7, 8, 9] from rfl, List.find?_cons_of_pos (p := fun k => (owner.getD (d + k) (some 0)).isNone) h0]
 rfl
theorem own_step {ds : List Nat} {owner : Array (Option Nat)} {k d : Nat} (h : Own ds owner k) (hd : d < 9) (hk : ds[k]? = some d) (hn : ∀ i, i < k -> ds[i]? ≠ some d) : Own ds (owner.setIfInBounds d (some k)) (k + 1) := by
 refine ⟨by simp [h.size], fun j i => ?_⟩
 have hs : d < owner.size := by rw [h.size]; omega
 by_cases e : j = d
 ·subst e
  have e1 : (owner.setIfInBounds j (some k)).getD j none = some k := by simp [Array.getD, hs]
  rw [e1]
  constructor
  ·intro z
   cases z
   exact ⟨Nat.lt_succ_self _, hk⟩
  ·rintro ⟨a, b⟩
   rcases Nat.lt_succ_iff_lt_or_eq.mp a with a | a
   ·exact absurd b (hn i a)
   ·rw [a]
 ·have e1 : (owner.setIfInBounds d (some k)).getD j none = owner.getD j none := by
   simp only [Array.getD_eq_getD_getElem?, Array.getElem?_setIfInBounds]
   rw [if_neg (fun z => e z.symm)]
  rw [e1, h.own]
  constructor
  ·rintro ⟨a, b⟩
   exact ⟨Nat.lt_succ_of_lt a, b⟩
  ·rintro ⟨a, b⟩
   rcases Nat.lt_succ_iff_lt_or_eq.mp a with a | a
   ·exact ⟨a, b⟩
   ·subst a
    rw [hk] at b
    exact absurd (Option.some.inj b).symm e
theorem xu {ds : List Nat} (hd : ∀ d ∈ ds, d < 9) (nd : ds.Nodup) : ∃ owner, SetTable.layClean 31 (ds.map fun (d : Nat) => (d : Int)).toArray = some owner /\ Own ds owner ds.length := by
 unfold SetTable.layClean
 rw [<- Array.foldl_toList]
 have key : ∀ (r : List Nat) (pre : List Nat) (owner : Array (Option Nat)), ds = pre ++ r -> Own ds owner pre.length ->
   ∃ owner', (r.map fun (d : Nat) => (d : Int)).foldl (fun (acc : Option (Array (Option Nat) × Nat)) h => do
    let (owner, k) <- acc
    let j <- SetTable.layClean.free 31 owner (SetTable.turns 31) (SetTable.bits h % (31 + 1)) (SetTable.bits h)
    pure (owner.setIfInBounds j (some k), k + 1)) (some (owner, pre.length)) = some (owner', ds.length) /\ Own ds owner' ds.length := by
  intro r
  induction r with
  | nil =>
   intro pre owner e ho
   rw [List.append_nil] at e
   rw [e] at ho ⊢
   exact ⟨owner, rfl, ho⟩
  | cons d r ih =>
   intro pre owner e ho
   have hk : ds[pre.length]? = some d := by rw [e]; simp
   have hdd : d < 9 := hd d (by rw [e]; simp)
   have hn : ∀ i, i < pre.length -> ds[i]? ≠ some d := fun i hi z => by
    have hk2 := hk
    have := (List.getElem?_inj (List.getElem?_eq_some_iff.mp z).1 nd).mp (z.trans hk2.symm)
    omega
   have hs := own_step ho hdd hk hn
   have hf := free_own ho hdd hn (SetTable.bits (d : Int))
   rw [List.map_cons, List.foldl_cons]
   have e2 : (do
    let (owner, k) <- some (owner, pre.length)
    let j <- SetTable.layClean.free 31 owner (SetTable.turns 31) (SetTable.bits (d : Int) % (31 + 1)) (SetTable.bits (d : Int))
    pure (owner.setIfInBounds j (some k), k + 1)) = some (owner.setIfInBounds d (some pre.length), pre.length + 1) := by
    show (SetTable.layClean.free 31 owner (SetTable.turns 31) (SetTable.bits (d : Int) % (31 + 1)) (SetTable.bits (d : Int)) >>= fun j => some (owner.setIfInBounds j (some pre.length), pre.length + 1)) = _
    rw [bits_dig hdd, hf]
    rfl
   rw [e2]
   have := ih (pre ++ [d]) (owner.setIfInBounds d (some pre.length)) (by rw [e]; simp) (by rw [List.length_append]; exact hs)
   rw [List.length_append] at this
   exact this
 obtain ⟨owner, e, ho⟩ := key ds [] (Array.replicate 32 none) rfl ⟨by simp, fun j i => by
  constructor
  ·intro z
   exfalso
   by_cases hj : j < 32
   ·simp [Array.getD, hj] at z
   ·simp [Array.getD, hj] at z
  ·rintro ⟨a, _⟩
   exact absurd a (Nat.not_lt_zero _)⟩
 refine ⟨owner, ?_, ho⟩
 rw [show ((ds.map fun (d : Nat) => (d : Int)).toArray).toList = ds.map fun (d : Nat) => (d : Int) from rfl]
 exact congrArg (Option.map (·.1)) e
end L2
namespace L2
open PySem
def qV (owner : Array (Option Nat)) : List (Nat × Nat) := (List.range 32).filterMap fun j => (owner.getD j none).map (j, ·)
theorem Zv {ds : List Nat} {owner : Array (Option Nat)} (h : Own ds owner ds.length) (hd : ∀ d ∈ ds, d < 9) {z : Nat × Nat} : z ∈ qV owner ↔ ds[z.2]? = some z.1 := by
 unfold qV
 rw [List.mem_filterMap]
 constructor
 ·rintro ⟨j, hj, e⟩
  obtain ⟨i, e1, rfl⟩ := Option.map_eq_some_iff.mp e
  exact ((h.own j i).mp e1).2
 ·intro e
  have hi := (List.getElem?_eq_some_iff.mp e).1
  have h9 := hd _ (List.mem_of_getElem? e)
  refine ⟨z.1, List.mem_range.mpr (by omega), ?_⟩
  rw [(h.own z.1 z.2).mpr ⟨hi, e⟩]
  rfl
theorem xw (owner : Array (Option Nat)) : ((qV owner).map (·.1)).Pairwise (· < ·) := Wc (f := fun j => owner.getD j none) 32
theorem xy {ds : List Nat} {owner : Array (Option Nat)} (h : Own ds owner ds.length) (hd : ∀ d ∈ ds, d < 9) : List.Perm ((qV owner).map (·.2)) (List.range ds.length) := by
 have rs := xw owner
 rw [List.pairwise_map] at rs
 refine (List.perm_ext_iff_of_nodup ?_ List.nodup_range).mpr fun i => ?_
 ·unfold List.Nodup
  rw [List.pairwise_map]
  refine List.Pairwise.imp_of_mem (fun {a b} ha hb hab e => ?_) rs
  have h1 := (Zv h hd).mp ha
  have h2 := (Zv h hd).mp hb
  rw [e, h2] at h1
  have := Option.some.inj h1
  omega
 ·rw [List.mem_map, List.mem_range]
  constructor
  ·rintro ⟨z, hz, rfl⟩
   exact (List.getElem?_eq_some_iff.mp ((Zv h hd).mp hz)).1
  ·intro hi
   exact ⟨(ds[i], i), (Zv h hd).mpr (List.getElem?_eq_getElem hi), rfl⟩
theorem xz {es : Array (Int × Value)} : ∀ (L : List Nat), (∀ i ∈ L, i < es.size) -> L.filterMap (es[·]?) = L.map fun i => es.getD i (0, .none)
 | [], _ => rfl
 | i :: L, h => by
  have hi := h i (List.mem_cons_self ..)
  rw [List.filterMap_cons, List.map_cons, xz L fun k hk => h k (List.mem_cons_of_mem _ hk)]
  simp [hi, Array.getD]
theorem xA {es : Array (Int × Value)} {t : SetTable} {b : Bool} {ds : List Nat} (ti : ZE t b) (hp : t.plain = true) (he : es.toList.map (·.1) = ds.map fun (d : Nat) => (d : Int)) (hd : ∀ d ∈ ds, d < 9) (nd : ds.Nodup) (h9 : ds.length <= 9) {w : Nat} (hw : SetTable.sizeAbove w = 32) :
  Dg (relayAll t es w).1 (relayAll t es w).2.1 b /\ List.Perm (relayAll t es w).1.toList es.toList := by
 have hl : es.size = ds.length := by
  have := congrArg List.length he
  simpa using this
 obtain ⟨owner, eo, ho⟩ := xu hd nd
 have eh : es.map (·.1) = (ds.map fun (d : Nat) => (d : Int)).toArray := by
  apply Array.toList_inj.mp
  rw [Array.toList_map]
  exact he
 have er : t.relaid (es.map (·.1)) w = some ({ mask := 31, place := ((qV owner).map (·.1)).toArray, dummies := #[], finger := t.finger, led := t.led, moves := t.movedTo 31, plain := t.plain }, ((qV owner).map (·.2)).toArray) := by
  unfold SetTable.relaid SetTable.laid
  rw [hw, eh, eo]
  rfl
 have perm := xy ho hd
 have ll : (qV owner).length = ds.length := by
  have := perm.length_eq
  rwa [List.length_map, List.length_range] at this
 have hin : ∀ i ∈ (qV owner).map (·.2), i < es.size := fun i hi => by
  rw [hl]
  exact List.mem_range.mp (perm.mem_iff.mp hi)
 have efm : (((qV owner).map (·.2)).toArray.filterMap (es[·]?)).toList = ((qV owner).map (·.2)).map fun i => es.getD i (0, .none) := by
  rw [Array.toList_filterMap]
  exact xz _ hin
 have esz : (((qV owner).map (·.2)).toArray.filterMap (es[·]?)).size = ds.length := by
  rw [<- Array.length_toList, efm, List.length_map, List.length_map, ll]
 have cov : coversAll ((qV owner).map (·.2)).toArray es.size = true := by
  unfold coversAll
  rw [List.isPerm_iff, hl]
  exact perm
 have ra : relayAll t es w = (((qV owner).map (·.2)).toArray.filterMap (es[·]?), { mask := 31, place := ((qV owner).map (·.1)).toArray, dummies := #[], finger := t.finger, led := t.led, moves := t.movedTo 31, plain := t.plain }, false) := by
  unfold relayAll
  rw [er]
  dsimp only
  rw [cov, esz]
  rw [if_pos]
  simp only [SetTable.fits, SetTable.fill, Bool.true_and, List.size_toArray, List.length_map, ll, Array.size_empty, Bool.and_eq_true, beq_iff_eq, decide_eq_true_eq]
  refine ⟨trivial, ?_⟩
  show _ + 0 <= 31
  omega
 have pm := relayAll_perm t es w
 rw [ra] at pm ⊢
 refine ⟨⟨⟨rfl, xw owner, ti.led⟩, hp, ?_, .inr ⟨rfl, by rw [esz]; exact h9, ?_, fun p hp' => ?_⟩⟩, pm⟩
 ·show ((qV owner).map (·.1)).toArray.size = _
  rw [esz, List.size_toArray, List.length_map, ll]
 ·show (((qV owner).map (·.2)).toArray.filterMap (es[·]?)).toList.map (·.1) = ((qV owner).map (·.1)).map fun (p : Nat) => (p : Int)
  rw [efm, List.map_map, List.map_map, List.map_map]
  refine List.map_congr_left fun z hz => ?_
  have hz' := (Zv ho hd).mp hz
  have hi := (List.getElem?_eq_some_iff.mp hz').1
  have : (es.toList.map (·.1))[z.2]? = some ((z.1 : Nat) : Int) := by rw [he, List.getElem?_map, hz']; rfl
  rw [List.getElem?_map] at this
  obtain ⟨y, hy, ey⟩ := Option.map_eq_some_iff.mp this
  have hes : z.2 < es.size := by omega
  show (es.getD z.2 (0, .none)).1 = ((z.1 : Nat) : Int)
  rw [<- ey]
  have : es[z.2]? = some y := by simpa using hy
  simp [Array.getD, hes] at this ⊢
  rw [this]
 ·have hp'' : p ∈ (qV owner).map (·.1) := by simpa using hp'
  obtain ⟨z, hz, rfl⟩ := List.mem_map.mp hp''
  exact hd _ (List.mem_of_getElem? ((Zv ho hd).mp hz))
end L2
namespace L2
open PySem
structure DgE (es : Array (Int × Value)) (t : SetTable) (b : Bool) (ds : List Nat) : Prop where
 dg : Dg es t b
 he : es.toList.map (·.1) = ds.map fun (d : Nat) => (d : Int)
 hd : ∀ d ∈ ds, d < 9
 nd : ds.Nodup
theorem DgE.len {es : Array (Int × Value)} {t : SetTable} {b : Bool} {ds : List Nat} (h : DgE es t b ds) : es.size = ds.length := by
 have := congrArg List.length h.he
 simpa using this
theorem xB (b : Bool) : DgE #[] (.fresh 0 0 b) b [] := ⟨dg_fresh b, rfl, (fun d h => by cases h), .nil⟩
theorem nine : ∀ (m : Nat) (xs : List Nat), xs.Nodup -> (∀ x ∈ xs, x < m) -> xs.length <= m
 | 0, xs, _, h => by
  cases xs with
  | nil => exact Nat.le_refl _
  | cons x xs => exact absurd (h x (List.mem_cons_self ..)) (Nat.not_lt_zero _)
 | m + 1, xs, nd, h => by
  have h1 := nine m (xs.erase m) (nd.erase m) fun x hx => by
   have h2 := h x (List.mem_of_mem_erase hx)
   have h3 : x ≠ m := fun e => by
    rw [e] at hx
    exact (List.Nodup.not_mem_erase nd) hx
   omega
  have h2 : xs.length - 1 <= (xs.erase m).length := by
   rw [List.length_erase]
   split <;> omega
  omega
def addE (t : SetTable) (es : Array (Int × Value)) (x : Int) (v : Value) : Array (Int × Value) × SetTable :=
 if (layNew t es x v).2.1.tooFull = true then ((relayAll (layNew t es x v).2.1 (layNew t es x v).1 (SetTable.grown (layNew t es x v).1.size)).1, (relayAll (layNew t es x v).2.1 (layNew t es x v).1 (SetTable.grown (layNew t es x v).1.size)).2.1) else ((layNew t es x v).1, (layNew t es x v).2.1)
theorem xC {t : SetTable} {es : Array (Int × Value)} {x : Int} {v : Value} {sl : Nat} {b : Bool} (h : ZE t b) (hl : t.place.size = es.size) (hf : t.freeSlot x = some (sl, false)) (hm : es.size + 1 <= t.mask) :
  layNew t es x v = (SetTable.insertAt es (SetTable.below t.place sl) (x, v), { t with place := SetTable.insertAt t.place (SetTable.below t.place sl) sl }, false, false) := by
 have hp : (t.put sl) = ({ t with place := SetTable.insertAt t.place (SetTable.below t.place sl) sl }, SetTable.below t.place sl) := by
  unfold SetTable.put
  rw [h.dum, WM]
  obtain ⟨mask, place, dummies, finger, led, moves, plain⟩ := t
  have := h.dum
  dsimp only at this
  subst this
  rfl
 have bl := yu h.rs sl
 have s1 : (SetTable.insertAt es (SetTable.below t.place sl) (x, v)).size = es.size + 1 := QG _ _ _ (by omega)
 have s2 : (SetTable.insertAt t.place (SetTable.below t.place sl) sl).size = es.size + 1 := by rw [QG _ _ _ bl, hl]
 have fit : ({ t with place := SetTable.insertAt t.place (SetTable.below t.place sl) sl } : SetTable).fits (es.size + 1) = true := by
  unfold SetTable.fits SetTable.fill
  dsimp only
  rw [s2, h.dum]
  simp
  omega
 unfold layNew
 rw [hf]
 dsimp only
 rw [hp]
 dsimp only
 rw [s1]
 unfold SetTable.orStandIn
 rw [if_pos fit, fit]
 rfl
theorem ins_map {α β : Type} (f : α -> β) (xs : Array α) (p : Nat) (x : α) : (SetTable.insertAt xs p x).toList.map f = (xs.toList.map f).take p ++ f x :: (xs.toList.map f).drop p := by
 rw [Z4, List.map_append, List.map_cons, List.map_take, List.map_drop]
theorem xD {xs ys : List Nat} (h : List.Perm (xs.map fun (d : Nat) => (d : Int)) (ys.map fun (d : Nat) => (d : Int))) : List.Perm xs ys := by
 have := h.map Int.toNat
 simpa [List.map_map, Function.comp_def] using this
theorem dig_add {es : Array (Int × Value)} {t : SetTable} {b : Bool} {ds : List Nat} (h : DgE es t b ds) {d : Nat} (hd9 : d < 9) (hn : d ∉ ds) (v : Value) :
  (layNew t es (d : Int) v).2.2.1 = false /\ (layNew t es (d : Int) v).2.1.plain = true /\ ∃ ds', DgE (addE t es (d : Int) v).1 (addE t es (d : Int) v).2 b ds' /\ List.Perm ds' (d :: ds) := by
 have hl := h.dg.len
 have el := h.len
 have n9 : ds.length + 1 <= 9 := nine 9 (d :: ds) (List.nodup_cons.mpr ⟨hn, h.nd⟩) (fun x hx => by
  rcases List.mem_cons.mp hx with rfl | hx
  ·exact hd9
  ·exact h.hd x hx)
 have perm : ∀ p, List.Perm (ds.take p ++ d :: ds.drop p) (d :: ds) := fun p => by
  refine List.perm_middle.trans ?_
  rw [List.take_append_drop]
 have good : ∀ p, (∀ x ∈ ds.take p ++ d :: ds.drop p, x < 9) /\ (ds.take p ++ d :: ds.drop p).Nodup := fun p => by
  refine ⟨fun x hx => ?_, ?_⟩
  ·rcases List.mem_cons.mp ((perm p).mem_iff.mp hx) with rfl | hx
   ·exact hd9
   ·exact h.hd x hx
  ·exact (perm p).nodup_iff.mpr (List.nodup_cons.mpr ⟨hn, h.nd⟩)
 have main : ∀ sl, t.freeSlot (d : Int) = some (sl, false) -> es.size + 1 <= t.mask -> sl ∉ t.place.toList ->
   ZE { t with place := SetTable.insertAt t.place (SetTable.below t.place sl) sl } b /\ (SetTable.insertAt es (SetTable.below t.place sl) ((d : Int), v)).toList.map (·.1) = (ds.take (SetTable.below t.place sl) ++ d :: ds.drop (SetTable.below t.place sl)).map (fun (d : Nat) => (d : Int)) /\ (SetTable.insertAt es (SetTable.below t.place sl) ((d : Int), v)).size = es.size + 1 /\ (SetTable.insertAt t.place (SetTable.below t.place sl) sl).size = es.size + 1 := fun sl hf hm hs => by
  have bl := yu h.dg.ti.rs sl
  refine ⟨⟨h.dg.ti.dum, JJ h.dg.ti.rs hs, h.dg.ti.led⟩, ?_, QG _ _ _ (by omega), by rw [QG _ _ _ bl, hl]⟩
  rw [ins_map, h.he, List.map_append, List.map_cons, List.map_take, List.map_drop]
 rcases h.dg.form with ⟨f7, f4, f8⟩ | ⟨f31, f9, fe, f99⟩
 ·obtain ⟨sl, s8, hs, hf⟩ := lay7 h.dg f7 f4 f8 hd9 v
  have hm : es.size + 1 <= t.mask := by omega
  have eL := xC (v := v) h.dg.ti hl hf hm
  obtain ⟨ti', he', s1, s2⟩ := main sl hf hm hs
  obtain ⟨g1, g2⟩ := good (SetTable.below t.place sl)
  have pp := perm (SetTable.below t.place sl)
  generalize ds.take (SetTable.below t.place sl) ++ d :: ds.drop (SetTable.below t.place sl) = ds' at he' g1 g2 pp
  refine ⟨by rw [eL], by rw [eL]; exact h.dg.plain, ?_⟩
  unfold addE
  rw [eL]
  dsimp only
  by_cases hfull : ({ t with place := SetTable.insertAt t.place (SetTable.below t.place sl) sl } : SetTable).tooFull = true
  ·rw [if_pos hfull]
   have h5 : es.size + 1 = 5 := by
    unfold SetTable.tooFull SetTable.fill at hfull
    dsimp only at hfull
    rw [s2, h.dg.ti.dum, f7] at hfull
    have := of_decide_eq_true hfull
    simp at this
    omega
   have hw : SetTable.sizeAbove (SetTable.grown (SetTable.insertAt es (SetTable.below t.place sl) ((d : Int), v)).size) = 32 := by
    rw [s1, h5]
    decide
   have r := xA (es := SetTable.insertAt es (SetTable.below t.place sl) ((d : Int), v)) (t := { t with place := SetTable.insertAt t.place (SetTable.below t.place sl) sl }) (b := b) ti' h.dg.plain he' g1 g2 (by rw [pp.length_eq]; exact n9) hw
   obtain ⟨r1, r2⟩ := r
   have rl := r2.length_eq
   rw [Array.length_toList, Array.length_toList] at rl
   replace rl := rl.trans s1
   rcases r1.form with ⟨_, q4, _⟩ | ⟨q1, q2, q3, q4⟩
   ·exfalso
    omega
   ·have pl := r2.map Prod.fst
    have he2 := he'
    rw [show (fun (x : Int × Value) => x.1) = Prod.fst from rfl] at q3 he2
    rw [q3, he2] at pl
    replace pl := xD pl
    refine ⟨_, ⟨r1, q3, q4, pl.nodup_iff.mpr g2⟩, pl.trans pp⟩
  ·rw [if_neg hfull]
   have h4 : es.size + 1 <= 4 := by
    unfold SetTable.tooFull SetTable.fill at hfull
    dsimp only at hfull
    rw [s2, h.dg.ti.dum, f7] at hfull
    simp at hfull
    omega
   refine ⟨ds', ⟨⟨ti', h.dg.plain, by dsimp only; rw [s1, s2], .inl ⟨f7, by dsimp only; rw [s1]; exact h4, fun p hp => ?_⟩⟩, he', g1, g2⟩, pp⟩
   have hp' : p ∈ (SetTable.insertAt t.place (SetTable.below t.place sl) sl).toList := hp
   rw [Z4] at hp'
   rcases List.mem_append.mp hp' with hp' | hp'
   ·exact f8 p (List.mem_of_mem_take hp')
   ·rcases List.mem_cons.mp hp' with rfl | hp'
    ·exact s8
    ·exact f8 p (List.mem_of_mem_drop hp')
 ·have eds : ds = t.place.toList := by
   have h1 := h.he.symm.trans fe
   exact List.map_inj_right (fun a b e => by omega) |>.mp h1
  have hs : d ∉ t.place.toList := eds ▸ hn
  have hf := lay31 h.dg f31 f99 f9 hd9 hs
  have hm : es.size + 1 <= t.mask := by omega
  have eL := xC (v := v) h.dg.ti hl hf hm
  obtain ⟨ti', he', s1, s2⟩ := main d hf hm hs
  obtain ⟨g1, g2⟩ := good (SetTable.below t.place d)
  have pp := perm (SetTable.below t.place d)
  have ed' : ds.take (SetTable.below t.place d) ++ d :: ds.drop (SetTable.below t.place d) = (SetTable.insertAt t.place (SetTable.below t.place d) d).toList := by rw [Z4, eds]
  rw [ed'] at he' g1 g2 pp
  refine ⟨by rw [eL], by rw [eL]; exact h.dg.plain, _, ?_, pp⟩
  unfold addE
  rw [eL]
  dsimp only
  have hfull : ¬ ({ t with place := SetTable.insertAt t.place (SetTable.below t.place d) d } : SetTable).tooFull = true := by
   unfold SetTable.tooFull SetTable.fill
   dsimp only
   rw [s2, h.dg.ti.dum, f31]
   simp
   omega
  rw [if_neg hfull]
  exact ⟨⟨ti', h.dg.plain, by dsimp only; rw [s1, s2], .inr ⟨f31, by dsimp only; rw [s1]; omega, he', g1⟩⟩, he', g1, g2⟩
end L2
namespace L2
open PySem
def DIs (b : Bool) (h : Heap) (a : Addr) (ds : List Nat) : Prop :=
 ∃ o es ep t, h.get? a = some o /\ o.ExactSet /\ o.data = .set es ep t /\ DgE es t b ds /\ ∀ e ∈ es.toList, ∃ tk, e.2 = Value.int e.1 tk
theorem DIs.keep {b : Bool} {h h' : Heap} {a : Addr} {ds : List Nat} (x : DIs b h a ds) (k : ∀ o, h.get? a = some o -> h'.get? a = some o) : DIs b h' a ds := by
 obtain ⟨o, es, ep, t, ho, r⟩ := x
 exact ⟨o, es, ep, t, k o ho, r⟩
theorem Dg.fits {es : Array (Int × Value)} {t : SetTable} {b : Bool} (h : Dg es t b) : t.fits es.size = true := by
 unfold SetTable.fits SetTable.fill
 rw [h.len, h.ti.dum]
 simp
 rcases h.form with ⟨h1, h2, _⟩ | ⟨h1, h2, _⟩ <;> omega
theorem Dg.small {es : Array (Int × Value)} {t : SetTable} {b : Bool} (h : Dg es t b) : es.size <= 9 := by
 rcases h.form with ⟨h1, h2, _⟩ | ⟨h1, h2, _⟩ <;> omega
theorem wc : ∀ d : Nat, d < 9 -> hashInt (d : Int) = (d : Int) := by decide
theorem DgE.mem {es : Array (Int × Value)} {t : SetTable} {b : Bool} {ds : List Nat} (h : DgE es t b ds) {e : Int × Value} (he : e ∈ es.toList) : ∃ d ∈ ds, e.1 = (d : Int) := by
 have := List.mem_map_of_mem (f := fun (x : Int × Value) => x.1) he
 rw [h.he] at this
 obtain ⟨d, hd, e'⟩ := List.mem_map.mp this
 exact ⟨d, hd, e'.symm⟩
theorem DgE.at {es : Array (Int × Value)} {t : SetTable} {b : Bool} {ds : List Nat} (h : DgE es t b ds) {d : Nat} (hd : d ∈ ds) : ∃ e ∈ es.toList, e.1 = (d : Int) := by
 have : (d : Int) ∈ ds.map fun (d : Nat) => (d : Int) := List.mem_map_of_mem hd
 rw [<- h.he] at this
 obtain ⟨e, he, e'⟩ := List.mem_map.mp this
 exact ⟨e, he, e'⟩
section
variable {prog : Program} {w : World} {A : Around} {E : Value -> Shared -> Prop} {s : Shared}
theorem xE {es : Array (Int × Value)} {t : SetTable} {b : Bool} {ds : List Nat} (h : DgE es t b ds) (hv : ∀ e ∈ es.toList, ∃ tk, e.2 = Value.int e.1 tk) : ElemsOf (intKind prog w) es.toList := fun e he => by
 obtain ⟨tk, ev⟩ := hv e he
 obtain ⟨d, hd, e1⟩ := h.mem he
 rw [ev]
 refine ⟨⟨e.1, by simp [intKind, Value.isInt], ?_⟩, rfl⟩
 show e.1 = hashInt e.1
 rw [e1, wc d (h.hd d hd)]
theorem Wd {h : Heap} {a : Addr} {o : Obj} {es es' : Array (Int × Value)} {ep : Nat} {t t' : SetTable} {b : Bool} {ds' : List Nat} (ho : h.get? a = some o) (hex : o.ExactSet) (hd : o.data = .set es ep t) (hg : DgE es' t' b ds') (hv : ∀ e ∈ es'.toList, ∃ tk, e.2 = Value.int e.1 tk) :
  DIs b (h.update a (Obj.putSet es' t')) a ds' := by
 have hgt : (h.update a (Obj.putSet es' t')).get? a = some { o with data := .set es' (ep + 1) t' } := by
  have := Heap.get?_update_self (Obj.putSet es' t') ho (by rw [putSet_of es' t' hd]; rfl)
  rw [putSet_of es' t' hd] at this; exact this
 exact ⟨_, es', ep + 1, t', hgt, hex, rfl, hg, hv⟩
theorem setAddD {a : Addr} {ds : List Nat} {b : Bool} {d : Nat} {tk : Tok} {Q : Bool -> Shared -> Prop} (hS : DIs b s.heap a ds) (hd9 : d < 9)
  (h : ∀ h' ds', Heap.SameBut a s.heap h' -> DIs b h' a ds' -> List.Perm ds' (if d ∈ ds then ds else d :: ds) -> Q (!decide (d ∈ ds)) { s with heap := h' }) :
  wpAny (model prog w) A (setAddHashed a (.int (d : Int) tk) (hashInt (d : Int))) Q E s := by
 obtain ⟨o, es, ep, t, ho, hex, hd, hg, hv⟩ := hS
 have hf := hg.dg.fits
 have hel := xE (prog := prog) (w := w) hg hv
 have hb : es.size < scanBound := by have := hg.dg.small; unfold scanBound; omega
 have hkey : (intKind prog w).is (d : Int) (.int (d : Int) tk) = true := by simp [intKind, Value.isInt]
 unfold setAddHashed setAddHashedIn
 refine wpAny_holding (wpAny_bind (wpAny_setState_of ho hd hf ?_))
 dsimp only
 rw [byScan_of (knd := intKind prog w) rfl hb hel]
 simp only [↓reduceIte]
 unfold setAddByScan
 refine wpAny_bind ?_
 refine wpAny_bind (wpAny_rule ?_)
 refine wpAny_bind (wpAny_setScan_of (knd := intKind prog w) hkey ho hd hf hel ?_)
 cases hr : List.findIdx? (fun e => (intKind prog w).is (d : Int) e.2) es.toList with
 | some j =>
  dsimp only
  obtain ⟨hj, hpj, _⟩ := List.findIdx?_eq_some_iff_getElem.mp hr
  have hm := List.getElem_mem hj
  have hin : d ∈ ds := by
   obtain ⟨tk', ev⟩ := hv _ hm
   obtain ⟨d', hd', e1⟩ := hg.mem hm
   rw [ev] at hpj
   have : es.toList[j].1 = (d : Int) := by
    simp [intKind, Value.isInt] at hpj
    exact hpj
   rw [e1] at this
   rwa [show d' = d by omega] at hd'
  refine wpAny_pure (wpAny_pure ?_)
  have e : s = { s with heap := s.heap } := by cases s; rfl
  have := h s.heap ds (Heap.SameBut.refl a s.heap) ⟨o, es, ep, t, ho, hex, hd, hg, hv⟩ (by rw [if_pos hin])
  rw [decide_eq_true hin] at this; rw [e]; exact this
 | none =>
  dsimp only
  have hin : d ∉ ds := fun hin => by
   obtain ⟨e, he, e1⟩ := hg.at hin
   obtain ⟨tk', ev⟩ := hv e he
   have := List.findIdx?_eq_none_iff.mp hr e he
   rw [ev, e1] at this
   simp [intKind, Value.isInt] at this
  have hgw : ∀ (b : Bool) {s₁ : Shared} {Q' : Unit -> Shared -> Prop}, Q' () s₁ -> wpAny (model prog w) A (match b with | true => rule "set.scan.the-table-gave-way" | false => pure ()) Q' E s₁ :=
   fun b s₁ Q' hq => by cases b <;> first | exact wpAny_pure hq | exact wpAny_rule hq
  have eh : (intKind prog w).hash (d : Int) = (d : Int) := wc d hd9
  have eh' : hashInt (d : Int) = (d : Int) := wc d hd9
  obtain ⟨a1, a2, ds', a3, a4⟩ := dig_add hg hd9 hin (.int (d : Int) tk)
  have hperm := layNew_perm t es (d : Int) (.int (d : Int) tk)
  unfold addE at a3
  rw [show (intKind prog w).hash (d : Int) = (d : Int) from eh] at *
  try rw [eh']
  generalize hL : layNew t es (d : Int) (.int (d : Int) tk) = L at a1 a2 a3 hperm ⊢
  obtain ⟨es1, t1, wasDummy, gave⟩ := L
  dsimp only at a1 a2 a3 hperm ⊢
  subst a1
  rw [Array.toList_push] at hperm
  have hv1 : ∀ e ∈ es1.toList, ∃ tk, e.2 = Value.int e.1 tk := fun e he => by
   rcases List.mem_append.mp (hperm.mem_iff.mp he) with he | he
   ·exact hv e he
   ·rw [List.mem_singleton.mp he]
    exact ⟨tk, rfl⟩
  have s1 : es1.size = es.size + 1 := by
   rw [<- Array.length_toList, hperm.length_eq, List.length_append, Array.length_toList]
   rfl
  have hsm := hg.dg.small
  have hb1 : es1.size < scanBound := by unfold scanBound; omega
  have pp : List.Perm ds' (if d ∈ ds then ds else d :: ds) := by rw [if_neg hin]; exact a4
  have fin : ∀ h', Heap.SameBut a s.heap h' -> DIs b h' a ds' -> Q true { s with heap := h' } := fun h' z1 z2 => by
   have := h h' ds' z1 z2 pp
   rw [decide_eq_false hin] at this
   exact this
  refine wpAny_bind (hgw _ ?_)
  rw [if_pos a2]
  refine wpAny_bind ?_
  rw [hashByValue_scannable 8 rfl]
  refine wpAny_pure ?_
  simp only [plainKind, ↓reduceIte, Bool.not_false, Bool.true_and]
  have hgt : (s.heap.update a (Obj.putSet es1 t1)).get? a = some { o with data := .set es1 (ep + 1) t1 } := by
   have := Heap.get?_update_self (Obj.putSet es1 t1) ho (by rw [putSet_of es1 t1 hd]; rfl)
   rw [putSet_of es1 t1 hd] at this; exact this
  have hsb1 := Heap.SameBut.update s.heap a (Obj.putSet es1 t1)
  refine wpAny_bind (wpAny_storeSet_of ho hd ?_ (fits_of_scanBound hb1))
  by_cases hfull : t1.tooFull = true
  ·rw [if_pos hfull] at a3 ⊢
   have hp := relayAll_perm t1 es1 (SetTable.grown es1.size)
   generalize hRl : relayAll t1 es1 (SetTable.grown es1.size) = Rl at hp a3 ⊢
   obtain ⟨es2, t3, gave2⟩ := Rl
   dsimp only at hp a3 ⊢
   refine wpAny_bind (hgw _ ?_)
   have hb2 : es2.size < scanBound := by have := a3.dg.small; unfold scanBound; omega
   refine wpAny_bind (wpAny_storeSet_of hgt rfl ?_ (fits_of_scanBound hb2))
   exact wpAny_pure (wpAny_pure (fin _ (hsb1.trans (Heap.SameBut.update _ a _)) (Wd hgt hex rfl a3 fun e he => hv1 e (hp.mem_iff.mp he))))
  ·rw [if_neg hfull] at a3 ⊢
   exact wpAny_pure (wpAny_pure (fin _ hsb1 (Wd ho hex hd a3 hv1)))
end
end L2
namespace L2
open PySem PySem.Spec PyProof.Rows
abbrev qi (w : World) : Bool := w.params.followText "set-order"
section
variable {prog : Program} {w : World} {A : Around} {E : Value -> Shared -> Prop} {s : Shared}
theorem Z5 (a : Value) {Q₁ : Value -> Shared -> Prop}
  (h : Q₁ (.ref s.heap.objs.size) { s with heap := s.heap.push { cls := .type "set", dict := none, data := .set #[] 0 (.fresh 0 0 (!qi w)) } }) :
  codeAny (model prog w) A (.call (.builtin "set.__new__") ⟨[.type "set", a], []⟩) (wants Q₁ E) s := by
 refine codeAny_of_tree ?_
 show wpAny _ A.in1 (do checkBuiltinCall "set.__new__" ⟨[.type "set", a], []⟩; again (.builtin "set.__new__" ⟨[.type "set", a], []⟩)) _ _ s
 refine wpAny_bind (wpAny_of_eq (PySem.F.newCall_set_1 a) (wpAny_pure ⟨plainId_quiet PySem.F.plain_set_new _, codeAny_builtin PySem.F.entry_set_new ?_⟩))
 rw [Around.under_plainId PySem.F.plain_set_new _]
 unfold Builtin.«set.__new__» Builtin.Frozenset.newClass
 have hsub := sub_set_self
 obtain ⟨hp, g, d, tk, os⟩ := s
 dsimp only
 wp_walk
 refine wpAny_askSetting (wpAny_pure ?_)
 dsimp only
 simp only [newObj]
 refine wpAny_bind (wpAny_alloc (wpAny_pure ?_))
 exact wpAny_pure h
theorem xF {R : Result -> Shared -> Prop} {J l a : Addr} {items : Array Value} {ys : List Nat} {bb : Bool} (hh : A.in1.handled = none) (hJ : l ≠ J) (aJ : a ≠ J) (al : a ≠ l) (hv : ∀ (i : Nat) (v : Value), items[i]? = some v -> ∃ t, v = .int ((ys.getD i 0 : Nat) : Int) t) (hn : items.size = ys.length) (hb : ∀ y ∈ ys, y < 9) :
  ∀ (k i : Nat) (s : Shared) (ds : List Nat), ys.length - i = k -> i <= ys.length -> s.heap.IsListIter J l i -> s.heap.IsList l items -> DIs bb s.heap a ds -> (∀ d, d ∈ ds ↔ d ∈ ys.take i) ->
   (∀ h' tk ds', (∀ b o, b ≠ a -> b ≠ J -> s.heap.get? b = some o -> h'.get? b = some o) -> DIs bb h' a ds' -> (∀ d, d ∈ ds' ↔ d ∈ ys) -> R (.ok (.ret .none)) { s with heap := h', toks := tk }) ->
   codeAny (model prog w) A (.builtin "set.update.loop" ⟨[.ref a, .ref J], []⟩) R s := by
 intro k
 induction k with
 | zero =>
  intro i s ds hk hi h1 h2 h3 hds hR
  have e : i = ys.length := by omega
  subst e
  refine codeAny_builtin PyProof.Rows.F.entry_set_update_loop ?_
  rw [Around.under_plainId PyProof.Rows.F.plain_set_update_loop _]
  show wpAny _ A.in1 (pyNext (.ref J) >>= _) _ _ s
  refine wpAny_bind (wpAny_pyNext_list_end hh h1 h2 (by first | omega | (simp; omega)) fun h' eb => ?_)
  show wpAny _ A.in1 (ret Value.none) _ _ _
  rw [List.take_length] at hds
  exact wpAny_pure (hR h' s.toks ds (fun b o _ nb e => eb b o nb e) (h3.keep fun o e => eb a o aJ e) hds)
 | succ k ih =>
  intro i s ds hk hi h1 h2 h3 hds hR
  have hlt : i < ys.length := by omega
  refine codeAny_builtin PyProof.Rows.F.entry_set_update_loop ?_
  rw [Around.under_plainId PyProof.Rows.F.plain_set_update_loop _]
  show wpAny _ A.in1 (pyNext (.ref J) >>= _) _ _ s
  have hi2 : items[i]? = some (items[i]'(by omega)) := by simp [show i < items.size by omega]
  refine wpAny_bind (wpAny_pyNext_list_item h1 h2 hi2 fun h' h1' sb => ?_)
  obtain ⟨t, et⟩ := hv i _ hi2
  rw [et]
  have h3' : DIs bb h' a ds := h3.keep fun o e => (sb.2 a aJ).trans e
  show wpAny _ A.in1 (holding [Value.int ((ys.getD i 0 : Nat) : Int) t] (setAdd a (.int ((ys.getD i 0 : Nat) : Int) t)) >>= _) _ _ _
  refine wpAny_bind (wpAny_holding ?_)
  unfold setAdd
  have is1 : (PySem.intKind prog w).is ((ys.getD i 0 : Nat) : Int) (.int ((ys.getD i 0 : Nat) : Int) t) = true := by
   simp [PySem.intKind, Value.isInt]
  refine wpAny_holding (wpAny_bind ((PySem.intKind prog w).pyHash (k := ((ys.getD i 0 : Nat) : Int)) is1 ?_))
  have ey : ys[i]? = some (ys.getD i 0) := by simp [List.getD, hlt]
  have e1 : ys.take (i + 1) = ys.take i ++ [ys.getD i 0] := by rw [List.take_add_one, ey]; rfl
  refine setAddD (s := { s with heap := h', toks := s.toks + 1 }) h3' (hb _ (List.mem_of_getElem? ey)) fun h'' ds' sb2 h4 pm => ?_
  have hds' : ∀ d, d ∈ ds' ↔ d ∈ ys.take (i + 1) := fun d => by
   rw [pm.mem_iff, e1, List.mem_append, List.mem_singleton, <- hds d]
   split
   ·rename_i hc
    constructor
    ·exact .inl
    ·rintro (z | rfl)
     ·exact z
     ·exact hc
   ·rw [List.mem_cons]
    exact Or.comm
  refine wpAny_pure ⟨plainId_quiet PyProof.Rows.F.plain_set_update_loop _, ih (i + 1) { s with heap := h'', toks := s.toks + 1 } ds' (by omega) hlt ?_ ?_ h4 hds' fun h6 tk ds6 k6 s6 m6 => hR h6 tk ds6 (fun b o na nJ e => k6 b o na nJ ((sb2.2 b na).trans ((sb.2 b nJ).trans e))) s6 m6⟩
  ·obtain ⟨o, q1, q2⟩ := h1'
   exact ⟨o, (sb2.2 J (Ne.symm aJ)).trans q1, q2⟩
  ·obtain ⟨o, q1, q2⟩ := h2
   exact ⟨o, (sb2.2 l (Ne.symm al)).trans ((sb.2 l hJ).trans q1), q2⟩
theorem xG {l : Addr} {items : Array Value} {ys : List Nat} {Q : Value -> Shared -> Prop} (hh : A.handled = none) (hl : s.heap.IsList l items) (hi : ∀ (i : Nat) (v : Value), items[i]? = some v -> ∃ t, v = .int ((ys.getD i 0 : Nat) : Int) t) (hn : items.size = ys.length) (hb : ∀ y ∈ ys, y < 9)
  (h : ∀ h' tk ds, DIs (!qi w) h' s.heap.objs.size ds -> (∀ d, d ∈ ds ↔ d ∈ ys) -> (∀ b o, b < s.heap.objs.size -> s.heap.get? b = some o -> h'.get? b = some o) -> Q (.ref s.heap.objs.size) { s with heap := h', toks := tk }) :
  wpAny (model prog w) A (call (.type "set") [.ref l]) Q E s := by
 obtain ⟨c0, tl0, hmro⟩ := PySem.F.called_set.mro
 have made := PySem.F.called_set.made; have subs := PySem.F.called_set.sub
 have nt := PySem.F.called_set.notType; have cc := PySem.F.called_set.canCreate; have tcall := PySem.F.typeCall_set_1 (.ref l)
 refine wpAny_call (codeAny_of_tree ?_)
 show wpAny _ _ (callAny (.type "set") ⟨[.ref l], []⟩) _ _ _
 refine wpAny_pure ⟨Code.quiet_builtin _ (by decide +kernel), codeAny_builtin PySem.F.entry_type_call ?_⟩
 rw [Around.under_plain (weight_type_call_type "set" [.ref l] []) rfl]
 repeat (any_goals (first | assumption | wp_step))
 refine codeAny_mono (Z5 (.ref l) (E := E) (Q₁ := fun v s1 => ∃ b : Bool, b = (!qi w) /\ v = .ref s.heap.objs.size /\ s1 = { s with heap := s.heap.push (qa b) }) ⟨_, rfl, rfl, rfl⟩) fun r s1 hr => ?_
 match r, hr with
 | .error e, hr => exact hr
 | .ok (.ret v), hr =>
  obtain ⟨b, eb, ev, es⟩ := hr
  subst ev es
  have at0 : (s.heap.push (qa b)).get? s.heap.objs.size = some (qa b) := Heap.get?_push_size _ rfl
  have ty0 : Shared.TypeIs { s with heap := s.heap.push (qa b) } (.ref s.heap.objs.size) "set" := ⟨_, at0, rfl⟩
  have il := PySem.F.called_set.init.lookup
  have ib := PySem.F.called_set.init.bind (.ref s.heap.objs.size)
  repeat (any_goals (first | assumption | wp_step))
  refine codeAny_mono (codeAny_call_builtin (R := wants (fun r s2 => r = .none /\ ∃ h' tk ds, s2 = { s with heap := h', toks := tk } /\ DIs (!qi w) h' s.heap.objs.size ds /\ (∀ d, d ∈ ds ↔ d ∈ ys) /\ ∀ b o, b < s.heap.objs.size -> s.heap.get? b = some o -> h'.get? b = some o) E) PySem.F.called_set.init.plain PySem.F.entry_set_init (check_set_init_1 ty0 ?_)) fun r2 s2 hr2 => ?_
  ·obtain ⟨⟨oc, od, odt, osl⟩, hol, hcl, nl, hdl⟩ := id hl
   have hcl' : oc = _ := hcl; have hdl' : odt = _ := hdl
   subst hcl' hdl'
   have hol1 : (s.heap.push (qa b)).get? l = some { cls := .type "list", dict := od, data := .seq items nl, slots := osl } := Heap.get?_push_of_some _ hol
   have n1 := PySem.F.sub_list_set; have n2 := PySem.F.sub_list_frozenset
   have n3 : (Value.type "list" == Value.type "dict") = false := by decide
   have hl1 : (s.heap.push (qa b)).IsList l items := ⟨_, hol1, rfl, nl, rfl⟩
   have lS : l < s.heap.objs.size := Heap.lt_size hol
   have jS : (s.heap.push (qa b)).objs.size = s.heap.objs.size + 1 := Heap.size_push ..
   unfold Builtin.«set.__init__» noKeywords Builtin.Frozenset.updateFrom
   generalize ePI : pyIter = PI
   wp_walk
   subst ePI
   refine wpAny_pyIter_list hl1 (wpAny_bind (wpAny_runValue ?_))
   refine xF (bb := !qi w) (J := (s.heap.push (qa b)).objs.size) (l := l) (a := s.heap.objs.size) (items := items) (ys := ys) (by simp [hh]) (Nat.ne_of_lt (by rw [jS]; exact Nat.lt_succ_of_lt lS)) (Nat.ne_of_lt (by rw [jS]; exact Nat.lt_succ_self _)) (Nat.ne_of_gt lS) hi hn hb (ys.length - 0) 0 _ [] rfl (Nat.zero_le _) ⟨_, Heap.get?_push_size _ rfl, rfl, rfl⟩ (hl1.push _) ?_ (fun d => by simp) fun h' tk ds hk hS hm => ?_
   ·exact ⟨_, #[], 0, .fresh 0 0 b, Heap.get?_push_of_some _ at0, ⟨rfl, rfl, rfl⟩, rfl, eb ▸ xB b, fun e he => by cases he⟩
   ·show wpAny _ _ _ _ _ _
    refine wpAny_pure ?_
    show wpAny _ _ (ret Value.none) _ _ _
    refine wpAny_pure ⟨rfl, h', tk, ds, rfl, hS, hm, fun c o hc e => hk c o (Nat.ne_of_lt hc) (Nat.ne_of_lt (by rw [jS]; exact Nat.lt_succ_of_lt hc)) (Heap.get?_push_of_some _ (Heap.get?_push_of_some _ e))⟩
  ·match r2, hr2 with
   | .error e, hr2 => exact hr2
   | .ok (.ret v), hr2 =>
    obtain ⟨ev, h', tk, ds, es, hS, hm, hk⟩ := hr2
    subst ev es
    repeat (any_goals (first | assumption | wp_step))
    exact h _ _ _ hS hm hk
   | .ok .next, hr2 => exact hr2.elim
   | .ok .brk, hr2 => exact hr2.elim
   | .ok .cont, hr2 => exact hr2.elim
 | .ok .next, hr => exact hr.elim
 | .ok .brk, hr => exact hr.elim
 | .ok .cont, hr => exact hr.elim
end
end L2
namespace L2
open PySem PySem.Spec PyProof.Rows
theorem xH {α : Type} (next : Nat -> Nat) : ∀ (fuel k : Nat) (left : List α) (out : Array α), left.length = fuel -> List.Perm (pickOrder.go next fuel k left out).toList (out.toList ++ left)
 | 0, k, left, out, h => by
  unfold pickOrder.go
  rw [List.length_eq_zero_iff.mp h, List.append_nil]
 | fuel + 1, k, left, out, h => by
  unfold pickOrder.go
  have hlt : next k % left.length < left.length := Nat.mod_lt _ (by omega)
  rw [List.getElem?_eq_getElem hlt]
  dsimp only
  refine (xH next fuel (k + 1) _ _ (by rw [List.length_eraseIdx, if_pos hlt, h]; rfl)).trans ?_
  rw [Array.toList_push, List.append_assoc]
  refine List.Perm.append_left _ ?_
  generalize next k % left.length = i at hlt
  rw [List.eraseIdx_eq_take_drop_succ]
  show List.Perm (left[i] :: (left.take i ++ left.drop (i + 1))) left
  refine List.perm_middle.symm.trans ?_
  rw [<- List.drop_eq_getElem_cons hlt, List.take_append_drop]
theorem xI {α : Type} (next : Nat -> Nat) (xs : Array α) : List.Perm (pickOrder next xs).toList xs.toList := by
 have := xH next xs.size 0 xs.toList #[] (by simp)
 simpa [pickOrder] using this
theorem zt : Slot "set_iterator" "__next__" "set_iterator.__next__" :=
 .of (owner := "set_iterator") (n := "__next__") (by rw [typeLookup_type, builtinLookup_eq_fast]; kernel_rfl) (by decide +kernel) (by decide +kernel) (by decide +kernel)
  (by first | exact .inl (by decide +kernel) | exact .inr (by decide +kernel)) (by rw [isSubtype_type]; kernel_rfl)
theorem qd : entryFor table "set_iterator.__next__" = some Builtin.«set_iterator.__next__» := entryFor_of_tree (by kernel_rfl)
theorem qp (a : Value) : argsOk "set_iterator.__next__" ⟨[a], []⟩ := by
 unfold argsOk; kernel_rfl
theorem je : Slot "set_iterator" "__iter__" "set_iterator.__iter__" :=
 .of (owner := "set_iterator") (n := "__iter__") (by rw [typeLookup_type, builtinLookup_eq_fast]; kernel_rfl) (by decide +kernel) (by decide +kernel) (by decide +kernel)
  (by first | exact .inl (by decide +kernel) | exact .inr (by decide +kernel)) (by rw [isSubtype_type]; kernel_rfl)
theorem Zi : entryFor table "set_iterator.__iter__" = some Builtin.«dict_keyiterator.__iter__» := entryFor_alias (id' := "dict_keyiterator.__iter__") (by kernel_rfl) rfl (by decide +kernel) (by kernel_rfl)
theorem ZF (a : Value) : argsOk "set_iterator.__iter__" ⟨[a], []⟩ := by
 unfold argsOk; kernel_rfl
theorem jA : entryFor table "set.__iter__" = some Builtin.«frozenset.__iter__» := entryFor_alias (id' := "frozenset.__iter__") (by kernel_rfl) rfl (by decide +kernel) (by kernel_rfl)
def QZ (w : World) (a : Addr) (es : Array (Int × Value)) (ep : Nat) : Array (Int × Value) := if qi w = true then pickOrder (w.params.setOrder a ep) es else es
theorem Q0 (w : World) (a : Addr) (es : Array (Int × Value)) (ep : Nat) : List.Perm (QZ w a es ep).toList es.toList := by
 unfold QZ
 split
 ·exact xI _ _
 ·exact .refl _
theorem ji (w : World) (a : Addr) (es : Array (Int × Value)) (ep : Nat) : (QZ w a es ep).size = es.size := by
 have := (Q0 w a es ep).length_eq
 simpa using this
def jW (w : World) (t : SetTable) : Nat -> Nat
 | 0 => 0
 | i + 1 => if qi w = true then 0 else t.place.getD i 0 + 1
theorem We {w : World} {t : SetTable} (h : qi w = true) : ∀ i, jW w t i = 0
 | 0 => rfl
 | i + 1 => if_pos h
theorem Z6 {w : World} {t : SetTable} (h : qi w = false) (i : Nat) : jW w t (i + 1) = t.place.getD i 0 + 1 := if_neg (by rw [h]; simp)
def Z7 (h : Heap) (I a : Addr) (sl i n ep : Nat) : Prop := ∃ o, h.get? I = some o /\ o.cls = .type "set_iterator" /\ o.data = .fields #[.int (sl : Nat) 0, .int (i : Nat) 0, .ref a, .int (n : Nat) 0, .int (ep : Nat) 0]
theorem Z7.typeIs {s : Shared} {I a : Addr} {sl i n ep : Nat} (x : Z7 s.heap I a sl i n ep) : s.TypeIs (.ref I) "set_iterator" := let ⟨o, ho, hc, _⟩ := x; ⟨o, ho, hc⟩
def DAt (b : Bool) (h : Heap) (a : Addr) (es : Array (Int × Value)) (ep : Nat) (t : SetTable) : Prop := ∃ o, h.get? a = some o /\ o.ExactSet /\ o.data = .set es ep t /\ Dg es t b
section
variable {prog : Program} {w : World} {A : Around} {E : Value -> Shared -> Prop} {s : Shared} {a I : Addr} {es : Array (Int × Value)} {ep : Nat} {t : SetTable}
theorem Qm {Q : Value -> Shared -> Prop} (hd : DAt (!qi w) s.heap a es ep t)
  (hQ : Q (.ref s.heap.objs.size) { s with heap := s.heap.push { cls := .type "set_iterator", data := .fields #[.int (0 : Nat) 0, .int (0 : Nat) 0, .ref a, .int (es.size : Nat) 0, .int (ep : Nat) 0] } }) :
  wpAny (model prog w) A (pyIter (.ref a)) Q E s := by
 obtain ⟨o, ho, hx, hdat, hg⟩ := hd
 have hf := hg.fits
 have hT : s.TypeIs (.ref a) "set" := ⟨o, ho, hx.1⟩
 refine wpAny_pyIter_slot hT PySem.F.slot_set_iter (wpAny_call_entry PySem.F.slot_set_iter hT jA ?_ (PySem.F.args_set_iter_1 _))
 unfold Builtin.«frozenset.__iter__» Builtin.Frozenset.slot0
 refine wpAny_bind (wpAny_bind (wpAny_pure ?_))
 refine wpAny_pure ?_
 unfold Builtin.Frozenset.sizeOf setEntries
 refine wpAny_bind (wpAny_bind (wpAny_bind (wpAny_setState_of ho hdat hf (wpAny_pure (wpAny_pure ?_)))))
 unfold setDrawn setsByText
 refine wpAny_bind (wpAny_bind (wpAny_setState_of ho hdat hf ?_))
 refine wpAny_bind (wpAny_bind (wpAny_askSetting (wpAny_pure (wpAny_pure ?_))))
 refine wpAny_ite_split (fun hab => absurd (show (!(qi w) && (!t.plain && decide (es.size > 1))) = true from hab) (by rw [hg.plain]; simp)) (fun _ => wpAny_bind (wpAny_pure ?_))
 refine wpAny_bind (wpAny_setEpoch_of ho hdat hf ?_)
 refine wpAny_bind (wpAny_newObj_type ?_)
 exact wpAny_pure ⟨_, rfl, "set_iterator", _, ⟨_, Heap.get?_push_size _ rfl, rfl⟩, zt.lookup, hQ⟩
theorem JM {xs : Array Nat} (hr : Rs xs) : SetTable.below xs 0 = 0 := by
 rw [Z3 hr]
 unfold JH
 rw [List.filter_eq_nil_iff.mpr fun x _ => by simp]
 rfl
theorem Yd {b : Bool} (hg : Dg es t b) (ht : qi w = false) : ∀ (i : Nat), i <= t.place.size -> SetTable.below t.place (jW w t i) = i
 | 0, _ => JM hg.ti.rs
 | i + 1, hi => by
  rw [Z6 ht]
  exact JI hg.ti.rs (by simp [Array.getD, show i < t.place.size by omega])
theorem yv {Q : Option (Value × Nat) -> Shared -> Prop} {i : Nat} (hi : i <= es.size) (hd : DAt (!qi w) s.heap a es ep t)
  (hQ : Q ((QZ w a es ep)[i]?.map fun e => (e.2, jW w t (i + 1))) s) :
  wpAny (model prog w) A (setNext a (jW w t i) i ep) Q E s := by
 obtain ⟨o, ho, hx, hdat, hg⟩ := id hd
 have hf := hg.fits
 unfold setNext setsByText
 refine wpAny_bind (wpAny_setState_of ho hdat hf ?_)
 refine wpAny_bind (wpAny_bind (wpAny_askSetting (wpAny_pure ?_)))
 refine wpAny_ite_split (fun hab => ?_) (fun hab => ?_)
 ·have ht : qi w = true := hab
  rw [if_neg (by simp)]
  unfold setWalk setsByText
  refine wpAny_bind (wpAny_bind (wpAny_setState_of ho hdat hf ?_))
  refine wpAny_bind (wpAny_bind (wpAny_askSetting (wpAny_pure ?_)))
  refine wpAny_ite_split (fun _ => ?_) (fun hn => absurd hab hn)
  refine wpAny_bind (wpAny_askSetting (wpAny_pure (wpAny_pure ?_)))
  rw [We ht] at hQ ⊢
  unfold QZ at hQ
  rw [if_pos ht] at hQ
  exact hQ
 ·have ht : qi w = false := Bool.eq_false_iff.mpr hab
  refine wpAny_ite_split (fun hdr => absurd (show (!t.plain && decide (es.size > 1)) = true from hdr) (by rw [hg.plain]; simp)) (fun _ => ?_)
  have hled : t.led = true := by rw [hg.ti.led, ht]; rfl
  show wpAny _ _ (_ >>= _) _ _ _
  refine wpAny_bind (wpAny_of_eq (a := ()) (show (if (!t.led && !es.isEmpty) = true then (unsupported "set:maker-not-led" : Sem Unit) else pure ()) = pure () by rw [hled]; rfl) ?_)
  refine wpAny_pure ?_
  rw [Yd hg ht i (by rw [hg.len]; exact hi)]
  unfold QZ at hQ
  rw [if_neg (by rw [ht]; simp), Z6 ht] at hQ
  by_cases hlt : i < es.size
  ·have e1 : es[i]? = some es[i] := by simp [hlt]
   have hlt' : i < t.place.size := by rw [hg.len]; exact hlt
   have e2 : t.place[i]? = some (t.place.getD i 0) := by simp [Array.getD, hlt']
   rw [e1] at hQ ⊢
   rw [e2]
   exact hQ
  ·have e1 : es[i]? = none := Array.getElem?_eq_none (by omega)
   rw [e1] at hQ ⊢
   exact hQ
theorem QA {Q : Option Value -> Shared -> Prop} {i : Nat} {e : Int × Value} (hit : Z7 s.heap I a (jW w t i) i es.size ep) (hd : DAt (!qi w) s.heap a es ep t) (he : (QZ w a es ep)[i]? = some e)
  (hQ : ∀ h', Z7 h' I a (jW w t (i + 1)) (i + 1) es.size ep -> Heap.SameBut I s.heap h' -> Q (some e.2) { s with heap := h' }) :
  wpAny (model prog w) A (pyNext (.ref I)) Q E s := by
 obtain ⟨oI, hoI, hcI, hdI⟩ := id hit
 obtain ⟨o, ho, hx, hdat, hg⟩ := id hd
 have hf := hg.fits
 unfold pyNext
 refine wpAny_bind (wpAny_attempt (wpAny_callSpecial?_slot (name := Str.ofString "__next__") hit.typeIs zt
  (wpAny_call_entry zt hit.typeIs qd ?_ (qp _))))
 unfold Builtin.«set_iterator.__next__»
 refine wpAny_bind (wpAny_pure ?_)
 refine wpAny_bind (wpAny_fieldsOf hoI hdI ?_)
 dsimp only
 unfold setEntries
 refine wpAny_bind (wpAny_bind (wpAny_setState_of ho hdat hf (wpAny_pure ?_)))
 rw [if_neg (by simp)]
 have hi : i < es.size := by
  have := (Array.getElem?_eq_some_iff.mp he).1
  rwa [ji] at this
 simp only [Int.toNat_natCast]
 refine wpAny_bind (yv (Nat.le_of_lt hi) hd ?_)
 rw [he]
 dsimp only [Option.map_some]
 refine wpAny_bind (wpAny_setField hoI hdI (by simp) ?_)
 have h1 := Heap.get?_update_self (Obj.mapFields (·.setIfInBounds 0 (rawInt ((jW w t (i + 1) : Nat) : Int)))) hoI (Obj.isFreed_of_fields (Obj.data_mapFields hdI _))
 have d1 := Obj.data_mapFields hdI (·.setIfInBounds 0 (rawInt ((jW w t (i + 1) : Nat) : Int)))
 refine wpAny_bind (wpAny_setField h1 d1 (by simp) ?_)
 refine wpAny_pure ⟨_, rfl, wpAny_pure (hQ _ ⟨_, Heap.get?_update_self _ h1 (Obj.isFreed_of_fields (Obj.data_mapFields d1 _)), ?_, ?_⟩ ((Heap.SameBut.update ..).trans (Heap.SameBut.update ..)))⟩
 ·rw [Obj.cls_mapFields, Obj.cls_mapFields]
  exact hcI
 ·rw [Obj.data_mapFields d1]
  simp [rawInt]
theorem Q1 {Q : Option Value -> Shared -> Prop} (hh : A.handled = none) (hit : Z7 s.heap I a (jW w t es.size) es.size es.size ep) (hd : DAt (!qi w) s.heap a es ep t)
  (hQ : ∀ h', Heap.ExtBut I s.heap h' -> Q none { s with heap := h' }) :
  wpAny (model prog w) A (pyNext (.ref I)) Q E s := by
 obtain ⟨oI, hoI, hcI, hdI⟩ := id hit
 obtain ⟨o, ho, hx, hdat, hg⟩ := id hd
 have hf := hg.fits
 unfold pyNext
 refine wpAny_bind (wpAny_attempt (wpAny_callSpecial?_slot (name := Str.ofString "__next__") hit.typeIs zt
  (wpAny_call_entry zt hit.typeIs qd ?_ (qp _))))
 unfold Builtin.«set_iterator.__next__»
 refine wpAny_bind (wpAny_pure ?_)
 refine wpAny_bind (wpAny_fieldsOf hoI hdI ?_)
 dsimp only
 unfold setEntries
 refine wpAny_bind (wpAny_bind (wpAny_setState_of ho hdat hf (wpAny_pure ?_)))
 rw [if_neg (by simp)]
 simp only [Int.toNat_natCast]
 refine wpAny_bind (yv (Nat.le_refl _) hd ?_)
 rw [Array.getElem?_eq_none (by rw [ji]; exact Nat.le_refl _)]
 dsimp only [Option.map_none]
 refine wpAny_bind (wpAny_setField hoI hdI (by simp) ?_)
 show wpAny _ _ (newExc (.type "StopIteration") [] >>= _) _ _ _
 refine wpAny_bind ?_
 simp only [newExc, newTuple]
 refine wpAny_bind (wpAny_newObj_type ?_ (by size_fits))
 refine wpAny_bind (m := firstArgMember _ _) (wpAny_of_eq (a := Value.none) (by first | rfl | (simp only [firstArgMember]; rfl)) ?_)
 refine wpAny_newObj_type ?_ (by size_fits)
 simp only [raiseNew]
 refine wpAny_bind (wpAny_handled ?_)
 rw [show A.in1.handled = none from hh]
 refine wpAny_bind (wpAny_pure (wpAny_throw ?_))
 refine wpAny_bind (wpAny_isInstance (T := "StopIteration") (b := true) ⟨_, Heap.get?_push_size _ rfl, rfl⟩ isSubtype_stop ?_)
 exact wpAny_pure (hQ _ (((Heap.SameBut.update ..).extBut.push _).push _))
end
end L2
namespace L2
open PySem PySem.Spec PyProof.Rows PySem.W
section
variable {prog : Program} {w : World} {A : Around} {E : Value -> Shared -> Prop} {s : Shared} {a : Addr} {es : Array (Int × Value)} {ep : Nat} {t : SetTable}
theorem Q2 {Q : Bool -> Shared -> Prop} (hT : s.TypeIs (.ref a) "set") (h : Q false s) : wpAny (model prog w) A (Builtin.List.listLengthHint (.ref a)) Q E s := by
 unfold Builtin.List.listLengthHint
 refine wpAny_bind (wpAny_specialOf hT PySem.F.slot_set_len.lookup ?_)
 generalize hid : ("set.__len__" : String) = id0
 wp_delta
 rw [show splitId id0 = some ("set", "__len__") from by subst hid; decide +kernel]
 subst hid
 refine wpAny_bind (wpAny_isInstance (T := "set") (b := true) hT (by rw [isSubtype_type]; kernel_rfl) ?_)
 refine wpAny_ite_split (fun hab => absurd hab (by decide)) (fun _ => ?_)
 refine wpAny_ite_split (fun _ => ?_) (fun hab => absurd (by decide +kernel) hab)
 refine wpAny_bind (wpAny_typeOf hT ?_)
 exact wpAny_pure h
theorem DAt.keep {b : Bool} {h h' : Heap} (x : DAt b h a es ep t) (k : ∀ o, h.get? a = some o -> h'.get? a = some o) : DAt b h' a es ep t := let ⟨o, ho, r⟩ := x; ⟨o, k o ho, r⟩
theorem Z7.keep {h h' : Heap} {I a : Addr} {sl i n ep : Nat} (x : Z7 h I a sl i n ep) (k : ∀ o, h.get? I = some o -> h'.get? I = some o) : Z7 h' I a sl i n ep := let ⟨o, ho, r⟩ := x; ⟨o, k o ho, r⟩
theorem Q3 {Q : Value -> Shared -> Prop} {I a : Addr} {sl i n ep : Nat} (hit : Z7 s.heap I a sl i n ep) (h : Q (.ref I) s) : wpAny (model prog w) A (pyIter (.ref I)) Q E s := by
 refine wpAny_pyIter_slot hit.typeIs je (wpAny_call_entry je hit.typeIs Zi ?_ (ZF _))
 show wpAny _ _ (ret (.ref I)) _ _ s
 exact wpAny_pure ⟨_, rfl, "set_iterator", _, hit.typeIs, zt.lookup, h⟩
theorem Ye (hh : A.handled = none) (I : Addr) (hne : a ≠ I) : Walks prog w A I [I, a] [I] es.size (fun i v => ∃ e, (QZ w a es ep)[i]? = some e /\ v = e.2) (fun i h => Z7 h I a (jW w t i) i es.size ep /\ DAt (!qi w) h a es ep t) where
 sub := fun b hb => by simp at hb; simp [hb]
 frame := fun _ _ _ st hk => ⟨st.1.keep fun o e => hk I (by simp) o e, st.2.keep fun o e => hk a (by simp) o e⟩
 item := fun i s Q E hi st hQ => by
  have hi' : i < (QZ w a es ep).size := by rw [ji]; exact hi
  have he : (QZ w a es ep)[i]? = some ((QZ w a es ep)[i]'hi') := Array.getElem?_eq_getElem hi'
  refine QA st.1 st.2 he fun h' hit' hs' => ?_
  exact hQ _ h' s.toks ⟨_, he, rfl⟩ ⟨hit', st.2.keep fun o e => hs'.extBut a o hne e⟩ fun b o hb e => hs'.extBut b o (fun h => hb (by simp [h])) e
 done := fun s Q E st hQ => Q1 hh st.1 st.2 fun h' he' => hQ h' s.toks fun b o hb e => he' b o (fun h => hb (by simp [h])) e
 self := fun _ _ _ _ st hQ => Q3 st.1 hQ
theorem kdl_setD : KdlSrc prog w "set" a a es.size (fun i v => ∃ e, (QZ w a es ep)[i]? = some e /\ v = e.2) (fun h => DAt (!qi w) h a es ep t) where
 type := fun _ hm => let ⟨o, ho, hx, _⟩ := hm; ⟨o, ho, hx.1⟩
 there := fun _ hm => let ⟨o, ho, _⟩ := hm; ⟨Heap.lt_size ho, Heap.lt_size ho⟩
 keep := fun _ _ hm hk => hm.keep fun o e => hk a (.inl rfl) o e
 notList := by decide
 notTuple := by decide
 hint := fun _ _ _ _ hm hq => Q2 (let ⟨o, ho, hx, _⟩ := hm; ⟨o, ho, hx.1⟩) hq
 iter := fun _ s hh hm => ⟨_, _, (fun _ _ hq => Qm hm hq), Ye hh _ (let ⟨o, ho, _⟩ := hm; Nat.ne_of_lt (Heap.lt_size ho)), ⟨⟨_, Heap.get?_push_size _ rfl, rfl, rfl⟩, hm.keep fun o e => Heap.get?_push_of_some _ e⟩⟩
theorem Yf {ns : List Int} {acc : Array Value} {W : Array (Int × Value)} (hi : ItemsOf (fun i v => ∃ e, W[i]? = some e /\ v = e.2) acc W.size) (hv : ∀ e ∈ W.toList, ∃ tk, e.2 = Value.int e.1 tk) : IntsAre acc.toList (W.toList.map Prod.fst) := by
 have key : ∀ (us : List Value) (es : List (Int × Value)), us.length = es.length -> (∀ (i : Nat) u, us[i]? = some u -> ∃ e, es[i]? = some e /\ u = e.2) -> (∀ e ∈ es, ∃ tk, e.2 = Value.int e.1 tk) -> IntsAre us (es.map Prod.fst) := by
  intro us
  induction us with
  | nil =>
   intro es hl _ _
   cases es with
   | nil => exact .nil
   | cons e es => cases hl
  | cons u us ih =>
   intro es hl hi hv
   cases es with
   | nil => cases hl
   | cons e es =>
    obtain ⟨e', h1, h2⟩ := hi 0 u rfl
    obtain rfl : e = e' := by simpa using h1
    obtain ⟨tk, h3⟩ := hv e (List.mem_cons_self ..)
    rw [h2, h3]
    exact .cons _ tk (ih es (by simpa using hl) (fun i u hu => hi (i + 1) u (by simpa using hu)) fun e he => hv e (List.mem_cons_of_mem _ he))
 refine key _ _ ?_ (fun i u hu => ?_) hv
 ·rw [Array.length_toList, Array.length_toList]
  exact hi.1
 ·obtain ⟨e, h1, h2⟩ := hi.2 i u (by rw [<- Array.getElem?_toList]; exact hu)
  exact ⟨e, by rw [Array.getElem?_toList]; exact h1, h2⟩
theorem WP {ds : List Nat} {Q : Value -> Shared -> Prop} (hh : A.handled = none) (hd : DIs (!qi w) s.heap a ds)
  (h : ∀ (h1 h' : Heap) (tk : Nat) (out : Array Value) (e : Nat) (ns' : List Int), (∀ b o, s.heap.get? b = some o -> h1.get? b = some o) -> (∀ b o, h1.get? b = some o -> h'.get? b = some o) -> h'.get? h1.objs.size = some (seqObj "list" out e) -> IntsAre out.toList ns' -> ns'.Perm (ds.map fun (d : Nat) => (d : Int)) -> ns'.Pairwise (· <= ·) -> Q (.ref h1.objs.size) { s with heap := h', toks := tk }) :
  wpAny (model prog w) A (call (.builtin "sorted") [.ref a]) Q E s := by
 obtain ⟨o, es, ep, t, ho, hx, hdat, hg, hv⟩ := hd
 have hs := hg.dg.small
 have h9 : es.size <= sizeLine := fits_of_scanBound (by unfold scanBound; omega)
 refine Calls.call_function_entry kind_sorted plain_sorted entry_sorted (args_sorted1 _) ?_
 unfold Builtin.«sorted»
 refine wpAny_bind (m := checkCount "sorted" 1 1 _) (wpAny_pure ?_)
 refine wpAny_bind (kdu_collect (A := A.in1) (kdl_setD (a := a) (es := es) (ep := ep) (t := t)) hh ⟨o, ho, hx, hdat, hg.dg⟩ h9 fun h' tk acc hk hacc => ?_)
 have wp := Q0 w a es ep
 have hacc' := hacc
 rw [<- ji w a es ep] at hacc'
 have hI := Yf (ns := []) hacc' fun e he => hv e (wp.mem_iff.mp he)
 have hl : acc.toList.length = es.size := by rw [Array.length_toList]; exact hacc.1
 have hp : List.Perm ((QZ w a es ep).toList.map Prod.fst) (ds.map fun (d : Nat) => (d : Int)) := by
  have := wp.map Prod.fst
  have he := hg.he
  rw [show (fun (x : Int × Value) => x.1) = Prod.fst from rfl] at he
  rwa [he] at this
 refine wpAny_bind (wpAny_newList ?_ (by rw [hl]; exact h9))
 have hoL : (h'.push (seqObj "list" acc.toList.toArray 0)).get? h'.objs.size = some (seqObj "list" acc.toList.toArray 0) := Heap.get?_push_size _ rfl
 show wpAny _ _ _ _ _ { s with heap := h'.push (seqObj "list" acc.toList.toArray 0), toks := tk }
 refine wpAny_bind (wpAny_holding (wpAny_call_entry slot_list_sort ⟨_, hoL, rfl⟩ entry_list_sort (list_sort_tree hoL hI (by omega) fun out ns' a1 a2 a3 => ⟨_, rfl, ?_⟩) (args_list_sort _)))
 obtain ⟨e, he⟩ := sortedHeap_at (vs := acc.toList) (out := out) hoL
 exact wpAny_pure ⟨_, rfl, h h' _ tk out e ns' hk (fun b o q1 => by
  have hb := Heap.lt_size q1
  rw [sortedHeap_old (Nat.ne_of_lt hb) (by rw [Heap.size_push]; exact Nat.lt_succ_of_lt hb)]
  exact Heap.get?_push_of_some _ q1) he a1 (a2.trans hp) a3⟩
end
def DSet (w : World) (a : Addr) (ds : List Nat) : HO := .ext fun h => DIs (!qi w) h a ds
def nI (d : Nat) : V := .int (d : Int)
section
variable {X : Cx}
theorem JN (K : PySem.W.Frag) (hc : X.calm = true) (hK : X.K = K := by rfl) : jf X (.type "set") (fun xs H Q => ∃ (p : Addr) (ys : List Nat), xs = [.ref p] /\ SqL K H p (ys.map nI) /\ (∀ y ∈ ys, y < 9) /\ ∀ (a : Addr) (ds : List Nat), H a = none -> ds.Nodup -> (∀ d, d ∈ ds ↔ d ∈ ys) -> Q (.ref a) (upd H a (DSet X.w a ds))) := by
 subst hK
 intro pins s σ H xs us Q I r h
 obtain ⟨p, ys, rfl, hq, hz, q⟩ := h
 obtain ⟨u, rfl, ru⟩ := vals1 r
 cases ru
 obtain ⟨its, rv, pl, _⟩ := I.list hq
 have hl := rv.length
 rw [List.length_map] at hl
 refine xG (I.ok.hd hc) pl.isList (ys := ys) (fun i v hv => ?_) (by simpa using hl.symm) hz fun h' tk ds hS hm hk => ?_
 ·have hv' : its[i]? = some v := by simpa using hv
  have hi := (List.getElem?_eq_some_iff.mp hv').1
  have e1 : (ys.map nI)[i]? = some (nI (ys.getD i 0)) := by
   rw [List.getElem?_map]
   simp [List.getD, show i < ys.length by omega]
  obtain ⟨u, hu, t, e⟩ := rv.get e1
  rw [hv'] at hu
  cases hu
  exact ⟨t, e⟩
 have fr := I.hok.fresh (Nat.le_refl s.heap.objs.size)
 have nd : ds.Nodup := by obtain ⟨_, _, _, _, _, _, _, hg, _⟩ := hS; exact hg.nd
 refine ⟨.ref s.heap.objs.size, _, I.laid (t' := tk) (o := DSet X.w s.heap.objs.size ds) (fun b o e => hk b o (Heap.lt_size e) e) (Nat.le_refl _) ⟨hS, ?_, fun h1 h2 z k => z.keep k⟩, rfl, q _ ds fr nd hm⟩
 obtain ⟨o, _, _, _, ho, _⟩ := hS
 exact ⟨o, ho⟩
theorem Z8 (hc : X.calm = true) : jf X (.builtin "sorted") (fun xs H Q => ∃ (a : Addr) (ds : List Nat), xs = [.ref a] /\ H a = some (DSet X.w a ds) /\ ∀ (l : Addr) (ms : List Nat), H l = none -> ms.Perm ds -> ms.Pairwise (· <= ·) -> Q (.ref l) (upd H l (.lst (ms.map nI)))) := by
 intro pins s σ H xs us Q I r h
 obtain ⟨a, ds, rfl, ha, q⟩ := h
 obtain ⟨u, rfl, rx⟩ := vals1 r
 cases rx
 have hd := (I.hok a _ ha).1
 refine WP (I.ok.hd hc) hd fun h1 h' tk out e ns' k1 k2 he a1 a2 a3 => ?_
 have I1 : Inv X pins σ H { s with heap := h1, toks := tk } := I.un (Un.kept k1) (I.hok.kept k1)
 have sm : ds.length <= 9 := by
  obtain ⟨_, _, _, _, _, _, _, hg, _⟩ := hd
  rw [<- hg.len]
  exact hg.dg.small
 have en : ns' = (ns'.map Int.toNat).map fun (d : Nat) => (d : Int) := by
  rw [List.map_map]
  have : ns'.map id = ns'.map ((fun (d : Nat) => (d : Int)) ∘ Int.toNat) := List.map_congr_left fun z hz => by
   obtain ⟨d, _, e⟩ := List.mem_map.mp (a2.mem_iff.mp hz)
   rw [<- e]
   rfl
  rwa [List.map_id] at this
 have ep : List.Perm (ns'.map Int.toNat) ds := by
  have := a2.map Int.toNat
  simpa [List.map_map, Function.comp_def] using this
 refine ⟨.ref h1.objs.size, _, I1.laid (t' := tk) (o := .lst ((ns'.map Int.toNat).map nI)) k2 (Nat.le_refl _) ?_, rfl, q _ (ns'.map Int.toNat) (I1.hok.fresh (Nat.le_refl _)) ep ?_⟩
 ·refine ⟨by rw [List.length_map, ep.length_eq]; exact Nat.le_trans sm (fits_of_scanBound (by unfold scanBound; omega)), out.toList, e, ?_, ?_⟩
  ·have := xc a1
   rw [en, List.map_map] at this
   rw [List.map_map] at *
   exact this
  ·simpa [seqObj] using he
 ·rw [List.pairwise_map]
  exact a3.imp fun h => Int.toNat_le_toNat h
end
end L2
namespace L2
open PySem PySem.Spec PyProof.Rows
section
variable {X : Cx}
end
section
variable {prog : Program} {w : World} {A : Around} {R : Result -> Shared -> Prop}
end
section
variable {X : Cx}
end
end L2
namespace L2
open PySem PySem.Spec PyProof.Rows
section
variable {X : Cx}
end
end L2
namespace L4
open PySem L2
-- residuation
inductive Sy where
 | ltr (x : Str)
 | n0 (nm : Str)
 | n1 (nm : Str) (a : Sy)
 | n2 (nm : Str) (a b : Sy)
namespace Sy
def nm : Sy -> Str
 | ltr x => x
 | n0 n => n
 | n1 n _ => n
 | n2 n _ _ => n
def ps : Sy -> List Sy
 | ltr _ => []
 | n0 _ => []
 | n1 _ a => [a]
 | n2 _ a b => [a, b]
def isL : Sy -> Bool
 | ltr _ => true
 | _ => false
def dp : Sy -> Nat
 | ltr _ => 0
 | n0 _ => 1
 | n1 _ a => a.dp + 1
 | n2 _ a b => max a.dp b.dp + 1
def sz : Sy -> Nat
 | ltr _ => 1
 | n0 _ => 1
 | n1 _ a => a.sz + 1
 | n2 _ a b => a.sz + b.sz + 1
def mk (nm : Str) : List Sy -> Sy
 | [] => n0 nm
 | [a] => n1 nm a
 | a :: b :: _ => n2 nm a b
end Sy
theorem Sy.dp_lt {s a : Sy} (h : a ∈ s.ps) : a.dp < s.dp := by
 cases s with
 | ltr x => cases h
 | n0 n => cases h
 | n1 n b =>
  rw [List.mem_singleton.mp h]
  exact Nat.lt_succ_self _
 | n2 n b c =>
  show a.dp < max b.dp c.dp + 1
  rcases List.mem_cons.mp h with rfl | h
  ·omega
  ·rw [List.mem_singleton.mp h]
   omega
theorem Sy.sz_ps (s : Sy) : (s.ps.map Sy.sz).sum + 1 = s.sz := by
 cases s <;> simp [Sy.ps, Sy.sz]
def jF (H : Hp) : Sy -> V -> Prop
 | .ltr x, v => v = .str x
 | .n0 nm, v => ∃ t, v = .ref t /\ H t = some (.tup [.str nm])
 | .n1 nm a, v => ∃ t u, v = .ref t /\ H t = some (.tup [.str nm, u]) /\ jF H a u
 | .n2 nm a b, v => ∃ t u w, v = .ref t /\ H t = some (.tup [.str nm, u, w]) /\ jF H a u /\ jF H b w
theorem jF.tk {H H' : Hp} (k : Tk H H') : ∀ {s : Sy} {v : V}, jF H s v -> jF H' s v
 | .ltr x, v, h => h
 | .n0 nm, v, ⟨t, e, h⟩ => ⟨t, e, k _ _ h⟩
 | .n1 nm a, v, ⟨t, u, e, h, ha⟩ => ⟨t, u, e, k _ _ h, jF.tk k ha⟩
 | .n2 nm a b, v, ⟨t, u, w, e, h, ha, hb⟩ => ⟨t, u, w, e, k _ _ h, jF.tk k ha, jF.tk k hb⟩
theorem jF.same {H H' : Hp} (k : zF H H') {s : Sy} {v : V} (h : jF H s v) : jF H' s v := h.tk (Tk.of k)
theorem jF.node {H : Hp} {s : Sy} {v : V} (h : jF H s v) (hs : s.isL = false) : ∃ t us, v = .ref t /\ H t = some (.tup (.str s.nm :: us)) /\ Paired (jF H) s.ps us := by
 cases s with
 | ltr x => cases hs
 | n0 nm =>
  obtain ⟨t, e, h⟩ := h
  exact ⟨t, [], e, h, .nil⟩
 | n1 nm a =>
  obtain ⟨t, u, e, h, ha⟩ := h
  exact ⟨t, [u], e, h, .cons ha .nil⟩
 | n2 nm a b =>
  obtain ⟨t, u, w, e, h, ha, hb⟩ := h
  exact ⟨t, [u, w], e, h, .cons ha (.cons hb .nil)⟩
theorem jF.letter {H : Hp} {s : Sy} {v : V} (h : jF H s v) (hs : s.isL = true) : v = .str s.nm := by
 cases s with
 | ltr x => exact h
 | _ => cases hs
theorem jF.of {H : Hp} {nm : Str} {ss : List Sy} {us : List V} {t : Addr} (h : H t = some (.tup (.str nm :: us))) (hp : Paired (jF H) ss us) (hl : ss.length <= 2) : jF H (Sy.mk nm ss) (.ref t) := by
 cases hp with
 | nil => exact ⟨t, rfl, h⟩
 | @cons a u ss us ha hp =>
  cases hp with
  | nil => exact ⟨t, u, rfl, h, ha⟩
  | @cons b w ss us hb hp =>
   cases hp with
   | nil => exact ⟨t, u, w, rfl, h, ha, hb⟩
   | cons _ _ =>
    exfalso
    simp at hl
theorem dp_mk {nm : Str} {ss : List Sy} {d : Nat} (h : ∀ a ∈ ss, a.dp <= d) : (Sy.mk nm ss).dp <= d + 1 := by
 match ss, h with
 | [], _ => exact Nat.succ_le_succ (Nat.zero_le _)
 | [a], h => exact Nat.succ_le_succ (h a (by simp))
 | a :: b :: _, h =>
  have h1 := h a (by simp)
  have h2 := h b (by simp)
  show max a.dp b.dp + 1 <= d + 1
  omega
def Ltr (x : Str) : Prop := x.length = 1 /\ Y9 x
end L4
namespace L4
open PySem L2
theorem WL.tk {H H' : Hp} (s : Tk H H') {xs : List V} {ps : List (List Key × V)} (h : WL H xs ps) : WL H' xs ps := by
 unfold WL at h ⊢
 induction h with
 | nil => exact .nil
 | cons r _ ih =>
  obtain ⟨b, kb, e, hb, hk⟩ := r
  exact .cons ⟨b, kb, e, s _ _ hb, s _ _ hk⟩ ih
theorem WL.snoc {H : Hp} {xs : List V} {ps : List (List Key × V)} {p : List Key × V} {b kb : Addr} (h : WL H xs ps) (hb : H b = some (.tup [.ref kb, p.2])) (hk : H kb = some (.tup (p.1.map kV))) : WL H (xs ++ [.ref b]) (ps ++ [p]) := by
 unfold WL at h ⊢
 induction h with
 | nil => exact .cons ⟨b, kb, rfl, hb, hk⟩ .nil
 | cons r _ ih => exact .cons r ih
theorem JO : ∀ (ps acc : List (List Key × V)) (k : List Key), k ∉ ps.map Prod.fst -> jE (putAllT acc ps) k = jE acc k
 | [], acc, k, _ => rfl
 | p :: ps, acc, k, h => by
  rw [List.map_cons, List.mem_cons, not_or] at h
  show jE (putAllT (j9 acc p.1 p.2) ps) k = _
  rw [JO ps _ k h.2, yp, if_neg h.1]
theorem xJ : ∀ (ps acc : List (List Key × V)) (p : List Key × V), (ps.map Prod.fst).Nodup -> p ∈ ps -> jE (putAllT acc ps) p.1 = some p.2
 | [], acc, p, _, h => by cases h
 | z :: ps, acc, p, hn, h => by
  rw [List.map_cons, List.nodup_cons] at hn
  show jE (putAllT (j9 acc z.1 z.2) ps) p.1 = _
  rcases List.mem_cons.mp h with rfl | h
  ·rw [JO ps _ _ hn.1, yp, if_pos rfl]
  ·exact xJ ps _ p hn.2 h
end L4
namespace Tn
end Tn
namespace L2
open PySem PySem.Spec PyProof.Rows
section
variable {X : Cx} {N' : List Str} {ix : List (Option Nat)} {scope : Scope} {y : Str} {pins : List (Addr × Obj)} {σ : St} {H : Hp} {s : Shared} {fp : List Addr}
end
end L2
namespace L2
open PySem PySem.Spec PyProof.Rows
end L2
namespace L2
open PySem PySem.Spec PyProof.Rows PySem.W
section
variable {prog : Program} {w : World} {A : Around} {E : Value -> Shared -> Prop} {s : Shared} {d it : Addr} {es : Array DictEntry} {ep i : Nat}
end
end L2
namespace L2
open PySem PySem.Spec PyProof.Rows PySem.W
section
variable {prog : Program} {w : World} {A : Around} {E : Value -> Shared -> Prop} {s : Shared}
end
section
variable {X : Cx}
end
end L2
namespace L2
open PySem PySem.Spec PyProof.Rows PySem.W
theorem Zj : ∀ bs : List Bool, ((List.range bs.length).any fun i => bs.getD i false) = bs.any id
 | [] => rfl
 | b :: bs => by
  have ih := Zj bs
  rw [List.length_cons, List.range_succ_eq_map, List.any_cons, List.any_map, List.any_cons, <- ih]
  rfl
theorem xK : bootBuiltins "any" = some (.builtin "any") := by decide +kernel
section
variable {X : Cx}
theorem Q4 (K : PySem.W.Frag) (hc : X.calm = true) (hK : X.K = K := by rfl) : jf X (.builtin "any") (fun xs H Q => ∃ (p : Addr) (bs : List Bool), xs = [.ref p] /\ SqL K H p (bs.map V.bl) /\ Q (.bl (bs.any id)) H) := by
 subst hK
 intro pins s σ H xs us Q I r h
 obtain ⟨p, bs, rfl, hq, q⟩ := h
 obtain ⟨u, rfl, ru⟩ := vals1 r
 cases ru
 obtain ⟨its, rv, pl, _⟩ := I.list hq
 have hl : s.heap.IsList p its.toArray := pl.isList
 have hlt : p < s.heap.objs.size := by obtain ⟨_, e, _⟩ := hl; exact Heap.lt_size e
 refine call_any_walk (wpAny_pyIter_list hl ⟨_, _, _, _, _, _, fun i => bs.getD i false, rfl, Walks.list (A := X.A.in1) (I.ok.hd hc) _ p (Nat.ne_of_lt hlt) its.toArray, ⟨⟨_, Heap.get?_push_size _ rfl, rfl, rfl⟩, hl.push _⟩, fun i v s' Q' E' hv hQ => ?_, fun h' tk hk => ⟨.bl _, H, I.kept (old_kept hk), rfl, ?_⟩⟩)
 ·have hv' : its[i]? = some v := by simpa using hv
  rw [yi rv, List.getElem?_map] at hv'
  obtain ⟨b, hb, rfl⟩ := Option.map_eq_some_iff.mp hv'
  have e : bs.getD i false = b := by simp [List.getD, hb]
  have z : Q' (bs.getD i false) s' := hQ
  rw [e] at z
  exact wpAny_truthy_bool z
 ·have e1 : its.toArray.size = bs.length := by
   have := rv.length
   rw [List.length_map] at this
   simp; omega
  rw [e1, Zj bs]
  exact q
end
end L2
namespace L2
open PySem PySem.Spec PyProof.Rows
end L2
namespace L2
open PySem PySem.Spec PyProof.Rows
section
variable {X : Cx}
end
end L2
namespace L2
open PySem PySem.Spec PyProof.Rows PySem.W
section
variable {prog : Program} {w : World} {A : Around} {E : Value -> Shared -> Prop} {s : Shared}
abbrev xL (prog : Program) (w : World) (b : Bool) (h : Heap) (a : Addr) (l : List Str) : Prop := SetT (PySem.strKind prog w) h a (fun x => decide (x ∈ l)) l.length b
theorem Q5 {b : Bool} {h h' : Heap} {a : Addr} {l : List Str} (x : xL prog w b h a l) (k : ∀ o, h.get? a = some o -> h'.get? a = some o) : xL prog w b h' a l := by
 obtain ⟨o, es, ep, t, ho, r⟩ := x
 exact ⟨o, es, ep, t, k o ho, r⟩
theorem Yg {K : Type} [DecidableEq K] {knd : KeyKind prog w K} {h : Heap} {a : Addr} {S S' : K -> Bool} {n n' : Nat} {b : Bool} (x : SetT knd h a S n b) (e : ∀ k, S k = S' k) (en : n = n') : SetT knd h a S' n' b := by
 obtain rfl : S = S' := funext e
 subst en
 exact x
theorem xM {R : Result -> Shared -> Prop} {J l a : Addr} {items : Array Value} {ys : List Str} {bb : Bool} (hh : A.in1.handled = none) (hJ : l ≠ J) (aJ : a ≠ J) (al : a ≠ l) (hv : ∀ (i : Nat) (v : Value), items[i]? = some v -> ∃ t, v = .str (ys.getD i "") t) (hn : items.size = ys.length) (hb : ys.length + 1 < scanBound) :
  ∀ (k i : Nat) (s : Shared), ys.length - i = k -> i <= ys.length -> s.heap.IsListIter J l i -> s.heap.IsList l items -> xL prog w bb s.heap a (QR (ys.take i)) ->
   (∀ h' tk, (∀ b o, b ≠ a -> b ≠ J -> s.heap.get? b = some o -> h'.get? b = some o) -> xL prog w bb h' a (QR ys) -> R (.ok (.ret .none)) { s with heap := h', toks := tk }) ->
   codeAny (model prog w) A (.builtin "set.update.loop" ⟨[.ref a, .ref J], []⟩) R s := by
 intro k
 induction k with
 | zero =>
  intro i s hk hi h1 h2 h3 hR
  have e : i = ys.length := by omega
  subst e
  refine codeAny_builtin PyProof.Rows.F.entry_set_update_loop ?_
  rw [Around.under_plainId PyProof.Rows.F.plain_set_update_loop _]
  show wpAny _ A.in1 (pyNext (.ref J) >>= _) _ _ s
  refine wpAny_bind (wpAny_pyNext_list_end hh h1 h2 (by first | omega | (simp; omega)) fun h' eb => ?_)
  show wpAny _ A.in1 (ret Value.none) _ _ _
  rw [List.take_length] at h3
  exact wpAny_pure (hR h' s.toks (fun b o _ nb e => eb b o nb e) (Q5 h3 fun o e => eb a o aJ e))
 | succ k ih =>
  intro i s hk hi h1 h2 h3 hR
  have hlt : i < ys.length := by omega
  refine codeAny_builtin PyProof.Rows.F.entry_set_update_loop ?_
  rw [Around.under_plainId PyProof.Rows.F.plain_set_update_loop _]
  show wpAny _ A.in1 (pyNext (.ref J) >>= _) _ _ s
  have hi2 : items[i]? = some (items[i]'(by omega)) := by simp [show i < items.size by omega]
  refine wpAny_bind (wpAny_pyNext_list_item h1 h2 hi2 fun h' h1' sb => ?_)
  obtain ⟨t, et⟩ := hv i _ hi2
  rw [et]
  have h3' : xL prog w bb h' a (QR (ys.take i)) := Q5 h3 fun o e => (sb.2 a aJ).trans e
  show wpAny _ A.in1 (holding [Value.str (ys.getD i "") t] (setAdd a (.str (ys.getD i "") t)) >>= _) _ _ _
  refine wpAny_bind (wpAny_holding ?_)
  unfold setAdd
  have is1 : (PySem.strKind prog w).is (ys.getD i "") (.str (ys.getD i "") t) = true := by
   simp [PySem.strKind, Value.isStrOf]
  refine wpAny_holding (wpAny_bind ((PySem.strKind prog w).pyHash (k := ys.getD i "") is1 ?_))
  have room : (QR (ys.take i)).length + 1 < scanBound := by
   have := dedK_len (ys.take i)
   rw [List.length_take] at this
   omega
  refine setAddT (knd := PySem.strKind prog w) (s := { s with heap := h', toks := s.toks + 1 }) is1 rfl h3' room fun h'' sb2 h4 => ?_
  have ey : ys[i]? = some (ys.getD i "") := by simp [List.getD, hlt]
  have e1 : ys.take (i + 1) = ys.take i ++ [ys.getD i ""] := by rw [List.take_add_one, ey]; rfl
  have h5 : xL prog w bb h'' a (QR (ys.take (i + 1))) := by
   refine Yg h4 (fun x => ?_) ?_
   ·rw [e1, wU]
    by_cases c1 : x ∈ QR (ys.take i) <;> by_cases c2 : x = ys.getD i "" <;> simp [yj, c1, c2]
   ·rw [e1, wU, yk]
    by_cases c1 : ys.getD i "" ∈ QR (ys.take i) <;> simp [c1]
  refine wpAny_pure ⟨plainId_quiet PyProof.Rows.F.plain_set_update_loop _, ih (i + 1) { s with heap := h'', toks := s.toks + 1 } (by omega) hlt ?_ ?_ h5 fun h6 tk k6 s6 => hR h6 tk (fun b o na nJ e => k6 b o na nJ ((sb2.2 b na).trans ((sb.2 b nJ).trans e))) s6⟩
  ·obtain ⟨o, q1, q2⟩ := h1'
   exact ⟨o, (sb2.2 J (Ne.symm aJ)).trans q1, q2⟩
  ·obtain ⟨o, q1, q2⟩ := h2
   exact ⟨o, (sb2.2 l (Ne.symm al)).trans ((sb.2 l hJ).trans q1), q2⟩
theorem xN {l : Addr} {items : Array Value} {ys : List Str} {Q : Value -> Shared -> Prop} (hh : A.handled = none) (hl : s.heap.IsList l items) (hi : StrsAre items.toList ys) (hb : ys.length + 1 < scanBound)
  (h : ∀ h' tk, xL prog w (!qi w) h' s.heap.objs.size (QR ys) -> (∀ b o, b < s.heap.objs.size -> s.heap.get? b = some o -> h'.get? b = some o) -> Q (.ref s.heap.objs.size) { s with heap := h', toks := tk }) :
  wpAny (model prog w) A (call (.type "set") [.ref l]) Q E s := by
 obtain ⟨c0, tl0, hmro⟩ := PySem.F.called_set.mro
 have made := PySem.F.called_set.made; have subs := PySem.F.called_set.sub
 have nt := PySem.F.called_set.notType; have cc := PySem.F.called_set.canCreate; have tcall := PySem.F.typeCall_set_1 (.ref l)
 refine wpAny_call (codeAny_of_tree ?_)
 show wpAny _ _ (callAny (.type "set") ⟨[.ref l], []⟩) _ _ _
 refine wpAny_pure ⟨Code.quiet_builtin _ (by decide +kernel), codeAny_builtin PySem.F.entry_type_call ?_⟩
 rw [Around.under_plain (weight_type_call_type "set" [.ref l] []) rfl]
 repeat (any_goals (first | assumption | wp_step))
 refine codeAny_mono (Z5 (.ref l) (E := E) (Q₁ := fun v s1 => ∃ b : Bool, b = (!qi w) /\ v = .ref s.heap.objs.size /\ s1 = { s with heap := s.heap.push (qa b) }) ⟨_, rfl, rfl, rfl⟩) fun r s1 hr => ?_
 match r, hr with
 | .error e, hr => exact hr
 | .ok (.ret v), hr =>
  obtain ⟨b, eb, ev, es⟩ := hr
  subst ev es
  have at0 : (s.heap.push (qa b)).get? s.heap.objs.size = some (qa b) := Heap.get?_push_size _ rfl
  have ty0 : Shared.TypeIs { s with heap := s.heap.push (qa b) } (.ref s.heap.objs.size) "set" := ⟨_, at0, rfl⟩
  have il := PySem.F.called_set.init.lookup
  have ib := PySem.F.called_set.init.bind (.ref s.heap.objs.size)
  repeat (any_goals (first | assumption | wp_step))
  refine codeAny_mono (codeAny_call_builtin (R := wants (fun r s2 => r = .none /\ ∃ h' tk, s2 = { s with heap := h', toks := tk } /\ xL prog w (!qi w) h' s.heap.objs.size (QR ys) /\ ∀ b o, b < s.heap.objs.size -> s.heap.get? b = some o -> h'.get? b = some o) E) PySem.F.called_set.init.plain PySem.F.entry_set_init (check_set_init_1 ty0 ?_)) fun r2 s2 hr2 => ?_
  ·obtain ⟨⟨oc, od, odt, osl⟩, hol, hcl, nl, hdl⟩ := id hl
   have hcl' : oc = _ := hcl; have hdl' : odt = _ := hdl
   subst hcl' hdl'
   have hol1 : (s.heap.push (qa b)).get? l = some { cls := .type "list", dict := od, data := .seq items nl, slots := osl } := Heap.get?_push_of_some _ hol
   have n1 := PySem.F.sub_list_set; have n2 := PySem.F.sub_list_frozenset
   have n3 : (Value.type "list" == Value.type "dict") = false := by decide
   have hl1 : (s.heap.push (qa b)).IsList l items := ⟨_, hol1, rfl, nl, rfl⟩
   have lS : l < s.heap.objs.size := Heap.lt_size hol
   have jS : (s.heap.push (qa b)).objs.size = s.heap.objs.size + 1 := Heap.size_push ..
   unfold Builtin.«set.__init__» noKeywords Builtin.Frozenset.updateFrom
   generalize ePI : pyIter = PI
   wp_walk
   subst ePI
   refine wpAny_pyIter_list hl1 (wpAny_bind (wpAny_runValue ?_))
   have hn : items.size = ys.length := by
    have := hi.length
    simpa using this
   refine xM (bb := !qi w) (J := (s.heap.push (qa b)).objs.size) (l := l) (a := s.heap.objs.size) (items := items) (ys := ys) (by simp [hh]) (Nat.ne_of_lt (by rw [jS]; exact Nat.lt_succ_of_lt lS)) (Nat.ne_of_lt (by rw [jS]; exact Nat.lt_succ_self _)) (Nat.ne_of_gt lS) (fun i v hv => Y6 hi i v (by rw [Array.getElem?_toList]; exact hv)) hn hb (ys.length - 0) 0 _ rfl (Nat.zero_le _) ⟨_, Heap.get?_push_size _ rfl, rfl, rfl⟩ (hl1.push _) ?_ fun h' tk hk hS => ?_
   ·exact ⟨_, #[], 0, .fresh 0 0 b, Heap.get?_push_of_some _ at0, ⟨rfl, rfl, rfl⟩, rfl, (fun e he => by cases he), (fun k => by simp [QR]), by unfold scanBound; decide, rfl, rfl, eb ▸ ZE.fresh b⟩
   ·show wpAny _ _ _ _ _ _
    refine wpAny_pure ?_
    show wpAny _ _ (ret Value.none) _ _ _
    refine wpAny_pure ⟨rfl, h', tk, rfl, hS, fun c o hc e => hk c o (Nat.ne_of_lt hc) (Nat.ne_of_lt (by rw [jS]; exact Nat.lt_succ_of_lt hc)) (Heap.get?_push_of_some _ (Heap.get?_push_of_some _ e))⟩
  ·match r2, hr2 with
   | .error e, hr2 => exact hr2
   | .ok (.ret v), hr2 =>
    obtain ⟨ev, h', tk, es, hS, hk⟩ := hr2
    subst ev es
    repeat (any_goals (first | assumption | wp_step))
    exact h _ _ hS hk
   | .ok .next, hr2 => exact hr2.elim
   | .ok .brk, hr2 => exact hr2.elim
   | .ok .cont, hr2 => exact hr2.elim
 | .ok .next, hr => exact hr.elim
 | .ok .brk, hr => exact hr.elim
 | .ok .cont, hr => exact hr.elim
end
structure Wk (w : World) (es : Array (Int × Value)) (t : SetTable) : Prop where
 ti : ZE t (!qi w)
 fits : t.fits es.size = true
 nd : qi w = true \/ (!t.plain && decide (es.size > 1)) = false
theorem Wk.len {w : World} {es : Array (Int × Value)} {t : SetTable} (h : Wk w es t) : t.place.size = es.size := by
 have := h.fits
 unfold SetTable.fits at this
 simp at this
 exact this.1
def WAt (w : World) (h : Heap) (a : Addr) (es : Array (Int × Value)) (ep : Nat) (t : SetTable) : Prop := ∃ o, h.get? a = some o /\ o.ExactSet /\ o.data = .set es ep t /\ Wk w es t
section
variable {prog : Program} {w : World} {A : Around} {E : Value -> Shared -> Prop} {s : Shared} {a I : Addr} {es : Array (Int × Value)} {ep : Nat} {t : SetTable}
theorem Qn {Q : Value -> Shared -> Prop} (hd : WAt w s.heap a es ep t)
  (hQ : Q (.ref s.heap.objs.size) { s with heap := s.heap.push { cls := .type "set_iterator", data := .fields #[.int (0 : Nat) 0, .int (0 : Nat) 0, .ref a, .int (es.size : Nat) 0, .int (ep : Nat) 0] } }) :
  wpAny (model prog w) A (pyIter (.ref a)) Q E s := by
 obtain ⟨o, ho, hx, hdat, hg⟩ := hd
 have hf := hg.fits
 have hT : s.TypeIs (.ref a) "set" := ⟨o, ho, hx.1⟩
 refine wpAny_pyIter_slot hT PySem.F.slot_set_iter (wpAny_call_entry PySem.F.slot_set_iter hT jA ?_ (PySem.F.args_set_iter_1 _))
 unfold Builtin.«frozenset.__iter__» Builtin.Frozenset.slot0
 refine wpAny_bind (wpAny_bind (wpAny_pure ?_))
 refine wpAny_pure ?_
 unfold Builtin.Frozenset.sizeOf setEntries
 refine wpAny_bind (wpAny_bind (wpAny_bind (wpAny_setState_of ho hdat hf (wpAny_pure (wpAny_pure ?_)))))
 unfold setDrawn setsByText
 refine wpAny_bind (wpAny_bind (wpAny_setState_of ho hdat hf ?_))
 refine wpAny_bind (wpAny_bind (wpAny_askSetting (wpAny_pure (wpAny_pure ?_))))
 refine wpAny_ite_split (fun hab => absurd (show (!(qi w) && (!t.plain && decide (es.size > 1))) = true from hab) (by rcases hg.nd with e | e <;> rw [e] <;> simp)) (fun _ => wpAny_bind (wpAny_pure ?_))
 refine wpAny_bind (wpAny_setEpoch_of ho hdat hf ?_)
 refine wpAny_bind (wpAny_newObj_type ?_)
 exact wpAny_pure ⟨_, rfl, "set_iterator", _, ⟨_, Heap.get?_push_size _ rfl, rfl⟩, zt.lookup, hQ⟩
theorem WQ (hg : Wk w es t) (ht : qi w = false) : ∀ (i : Nat), i <= t.place.size -> SetTable.below t.place (jW w t i) = i
 | 0, _ => JM hg.ti.rs
 | i + 1, hi => by
  rw [Z6 ht]
  exact JI hg.ti.rs (by simp [Array.getD, show i < t.place.size by omega])
theorem yw {Q : Option (Value × Nat) -> Shared -> Prop} {i : Nat} (hi : i <= es.size) (hd : WAt w s.heap a es ep t)
  (hQ : Q ((QZ w a es ep)[i]?.map fun e => (e.2, jW w t (i + 1))) s) :
  wpAny (model prog w) A (setNext a (jW w t i) i ep) Q E s := by
 obtain ⟨o, ho, hx, hdat, hg⟩ := id hd
 have hf := hg.fits
 unfold setNext setsByText
 refine wpAny_bind (wpAny_setState_of ho hdat hf ?_)
 refine wpAny_bind (wpAny_bind (wpAny_askSetting (wpAny_pure ?_)))
 refine wpAny_ite_split (fun hab => ?_) (fun hab => ?_)
 ·have ht : qi w = true := hab
  rw [if_neg (by simp)]
  unfold setWalk setsByText
  refine wpAny_bind (wpAny_bind (wpAny_setState_of ho hdat hf ?_))
  refine wpAny_bind (wpAny_bind (wpAny_askSetting (wpAny_pure ?_)))
  refine wpAny_ite_split (fun _ => ?_) (fun hn => absurd hab hn)
  refine wpAny_bind (wpAny_askSetting (wpAny_pure (wpAny_pure ?_)))
  rw [We ht] at hQ ⊢
  unfold QZ at hQ
  rw [if_pos ht] at hQ
  exact hQ
 ·have ht : qi w = false := Bool.eq_false_iff.mpr hab
  refine wpAny_ite_split (fun hdr => absurd (show (!t.plain && decide (es.size > 1)) = true from hdr) (by rw [hg.nd.resolve_left (by rw [ht]; simp)]; simp)) (fun _ => ?_)
  have hled : t.led = true := by rw [hg.ti.led, ht]; rfl
  show wpAny _ _ (_ >>= _) _ _ _
  refine wpAny_bind (wpAny_of_eq (a := ()) (show (if (!t.led && !es.isEmpty) = true then (unsupported "set:maker-not-led" : Sem Unit) else pure ()) = pure () by rw [hled]; rfl) ?_)
  refine wpAny_pure ?_
  rw [WQ hg ht i (by rw [hg.len]; exact hi)]
  unfold QZ at hQ
  rw [if_neg (by rw [ht]; simp), Z6 ht] at hQ
  by_cases hlt : i < es.size
  ·have e1 : es[i]? = some es[i] := by simp [hlt]
   have hlt' : i < t.place.size := by rw [hg.len]; exact hlt
   have e2 : t.place[i]? = some (t.place.getD i 0) := by simp [Array.getD, hlt']
   rw [e1] at hQ ⊢
   rw [e2]
   exact hQ
  ·have e1 : es[i]? = none := Array.getElem?_eq_none (by omega)
   rw [e1] at hQ ⊢
   exact hQ
theorem QB {Q : Option Value -> Shared -> Prop} {i : Nat} {e : Int × Value} (hit : Z7 s.heap I a (jW w t i) i es.size ep) (hd : WAt w s.heap a es ep t) (he : (QZ w a es ep)[i]? = some e)
  (hQ : ∀ h', Z7 h' I a (jW w t (i + 1)) (i + 1) es.size ep -> Heap.SameBut I s.heap h' -> Q (some e.2) { s with heap := h' }) :
  wpAny (model prog w) A (pyNext (.ref I)) Q E s := by
 obtain ⟨oI, hoI, hcI, hdI⟩ := id hit
 obtain ⟨o, ho, hx, hdat, hg⟩ := id hd
 have hf := hg.fits
 unfold pyNext
 refine wpAny_bind (wpAny_attempt (wpAny_callSpecial?_slot (name := Str.ofString "__next__") hit.typeIs zt
  (wpAny_call_entry zt hit.typeIs qd ?_ (qp _))))
 unfold Builtin.«set_iterator.__next__»
 refine wpAny_bind (wpAny_pure ?_)
 refine wpAny_bind (wpAny_fieldsOf hoI hdI ?_)
 dsimp only
 unfold setEntries
 refine wpAny_bind (wpAny_bind (wpAny_setState_of ho hdat hf (wpAny_pure ?_)))
 rw [if_neg (by simp)]
 have hi : i < es.size := by
  have := (Array.getElem?_eq_some_iff.mp he).1
  rwa [ji] at this
 simp only [Int.toNat_natCast]
 refine wpAny_bind (yw (Nat.le_of_lt hi) hd ?_)
 rw [he]
 dsimp only [Option.map_some]
 refine wpAny_bind (wpAny_setField hoI hdI (by simp) ?_)
 have h1 := Heap.get?_update_self (Obj.mapFields (·.setIfInBounds 0 (rawInt ((jW w t (i + 1) : Nat) : Int)))) hoI (Obj.isFreed_of_fields (Obj.data_mapFields hdI _))
 have d1 := Obj.data_mapFields hdI (·.setIfInBounds 0 (rawInt ((jW w t (i + 1) : Nat) : Int)))
 refine wpAny_bind (wpAny_setField h1 d1 (by simp) ?_)
 refine wpAny_pure ⟨_, rfl, wpAny_pure (hQ _ ⟨_, Heap.get?_update_self _ h1 (Obj.isFreed_of_fields (Obj.data_mapFields d1 _)), ?_, ?_⟩ ((Heap.SameBut.update ..).trans (Heap.SameBut.update ..)))⟩
 ·rw [Obj.cls_mapFields, Obj.cls_mapFields]
  exact hcI
 ·rw [Obj.data_mapFields d1]
  simp [rawInt]
theorem Q6 {Q : Option Value -> Shared -> Prop} (hh : A.handled = none) (hit : Z7 s.heap I a (jW w t es.size) es.size es.size ep) (hd : WAt w s.heap a es ep t)
  (hQ : ∀ h', Heap.ExtBut I s.heap h' -> Q none { s with heap := h' }) :
  wpAny (model prog w) A (pyNext (.ref I)) Q E s := by
 obtain ⟨oI, hoI, hcI, hdI⟩ := id hit
 obtain ⟨o, ho, hx, hdat, hg⟩ := id hd
 have hf := hg.fits
 unfold pyNext
 refine wpAny_bind (wpAny_attempt (wpAny_callSpecial?_slot (name := Str.ofString "__next__") hit.typeIs zt
  (wpAny_call_entry zt hit.typeIs qd ?_ (qp _))))
 unfold Builtin.«set_iterator.__next__»
 refine wpAny_bind (wpAny_pure ?_)
 refine wpAny_bind (wpAny_fieldsOf hoI hdI ?_)
 dsimp only
 unfold setEntries
 refine wpAny_bind (wpAny_bind (wpAny_setState_of ho hdat hf (wpAny_pure ?_)))
 rw [if_neg (by simp)]
 simp only [Int.toNat_natCast]
 refine wpAny_bind (yw (Nat.le_refl _) hd ?_)
 rw [Array.getElem?_eq_none (by rw [ji]; exact Nat.le_refl _)]
 dsimp only [Option.map_none]
 refine wpAny_bind (wpAny_setField hoI hdI (by simp) ?_)
 show wpAny _ _ (newExc (.type "StopIteration") [] >>= _) _ _ _
 refine wpAny_bind ?_
 simp only [newExc, newTuple]
 refine wpAny_bind (wpAny_newObj_type ?_ (by size_fits))
 refine wpAny_bind (m := firstArgMember _ _) (wpAny_of_eq (a := Value.none) (by first | rfl | (simp only [firstArgMember]; rfl)) ?_)
 refine wpAny_newObj_type ?_ (by size_fits)
 simp only [raiseNew]
 refine wpAny_bind (wpAny_handled ?_)
 rw [show A.in1.handled = none from hh]
 refine wpAny_bind (wpAny_pure (wpAny_throw ?_))
 refine wpAny_bind (wpAny_isInstance (T := "StopIteration") (b := true) ⟨_, Heap.get?_push_size _ rfl, rfl⟩ isSubtype_stop ?_)
 exact wpAny_pure (hQ _ (((Heap.SameBut.update ..).extBut.push _).push _))
theorem WAt.keep {h h' : Heap} (x : WAt w h a es ep t) (k : ∀ o, h.get? a = some o -> h'.get? a = some o) : WAt w h' a es ep t := let ⟨o, ho, r⟩ := x; ⟨o, k o ho, r⟩
theorem Yh (hh : A.handled = none) (I : Addr) (hne : a ≠ I) : Walks prog w A I [I, a] [I] es.size (fun i v => ∃ e, (QZ w a es ep)[i]? = some e /\ v = e.2) (fun i h => Z7 h I a (jW w t i) i es.size ep /\ WAt w h a es ep t) where
 sub := fun b hb => by simp at hb; simp [hb]
 frame := fun _ _ _ st hk => ⟨st.1.keep fun o e => hk I (by simp) o e, st.2.keep fun o e => hk a (by simp) o e⟩
 item := fun i s Q E hi st hQ => by
  have hi' : i < (QZ w a es ep).size := by rw [ji]; exact hi
  have he : (QZ w a es ep)[i]? = some ((QZ w a es ep)[i]'hi') := Array.getElem?_eq_getElem hi'
  refine QB st.1 st.2 he fun h' hit' hs' => ?_
  exact hQ _ h' s.toks ⟨_, he, rfl⟩ ⟨hit', st.2.keep fun o e => hs'.extBut a o hne e⟩ fun b o hb e => hs'.extBut b o (fun h => hb (by simp [h])) e
 done := fun s Q E st hQ => Q6 hh st.1 st.2 fun h' he' => hQ h' s.toks fun b o hb e => he' b o (fun h => hb (by simp [h])) e
 self := fun _ _ _ _ st hQ => Q3 st.1 hQ
theorem kdl_setW : KdlSrc prog w "set" a a es.size (fun i v => ∃ e, (QZ w a es ep)[i]? = some e /\ v = e.2) (fun h => WAt w h a es ep t) where
 type := fun _ hm => let ⟨o, ho, hx, _⟩ := hm; ⟨o, ho, hx.1⟩
 there := fun _ hm => let ⟨o, ho, _⟩ := hm; ⟨Heap.lt_size ho, Heap.lt_size ho⟩
 keep := fun _ _ hm hk => hm.keep fun o e => hk a (.inl rfl) o e
 notList := by decide
 notTuple := by decide
 hint := fun _ _ _ _ hm hq => Q2 (let ⟨o, ho, hx, _⟩ := hm; ⟨o, ho, hx.1⟩) hq
 iter := fun _ s hh hm => ⟨_, _, (fun _ _ hq => Qn hm hq), Yh hh _ (let ⟨o, ho, _⟩ := hm; Nat.ne_of_lt (Heap.lt_size ho)), ⟨⟨_, Heap.get?_push_size _ rfl, rfl, rfl⟩, hm.keep fun o e => Heap.get?_push_of_some _ e⟩⟩
end
section
variable {prog : Program} {w : World} {A : Around} {E : Value -> Shared -> Prop} {s : Shared}
theorem Wf {src : Source} {n : Nat} {M : Model} {Q : Nat -> Shared -> Prop} (hn : n ≠ 0) (h : ∀ i d', i < n -> Q i { s with drawn := d' }) : wpAny M A (choose src n) Q E s := fun _ _ _ => ⟨hn, h _ _ (Nat.mod_lt _ (Nat.pos_of_ne_zero hn))⟩
theorem Q7 {α : Type} {M : Model} : ∀ (n : Nat) (xs : List α) (s : Shared) (Q : List α -> Shared -> Prop), xs.length = n -> (∀ ys d', ys.Perm xs -> Q ys { s with drawn := d' }) -> wpAny M A (drawOrder n xs) Q E s := by
 intro n
 induction n with
 | zero =>
  intro xs s Q hl h
  obtain rfl := List.length_eq_zero_iff.mp hl
  exact wpAny_pure (h [] s.drawn (.refl _))
 | succ n ih =>
  intro xs s Q hl h
  have hn : 0 < xs.length := by omega
  have he : drawOrder (n + 1) xs = (choose .order xs.length >>= fun i => match xs[i]? with
   | some x => drawOrder n (xs.eraseIdx i) >>= fun ys => pure (x :: ys)
   | none => unsupported "internal:drawOrder") := by
   cases xs with
   | nil => cases hn
   | cons x xs => rfl
  rw [he]
  refine wpAny_bind (Wf (by omega) fun i d' hi => ?_)
  rw [List.getElem?_eq_getElem hi]
  dsimp only
  refine wpAny_bind (ih (xs.eraseIdx i) _ _ (by rw [List.length_eraseIdx, if_pos hi, hl]; rfl) fun ys d2 hp => wpAny_pure ?_)
  refine h _ d2 ?_
  refine (hp.cons _).trans ?_
  rw [List.eraseIdx_eq_take_drop_succ]
  refine List.perm_middle.symm.trans ?_
  rw [<- List.drop_eq_getElem_cons hi, List.take_append_drop]
def DrIt (h : Heap) (I a p : Addr) (i n ep : Nat) (pl : List Nat) : Prop := (∃ o, h.get? I = some o /\ o.cls = .type "set_iterator" /\ o.data = .fields #[.ref p, .int (i : Nat) 0, .ref a, .int (n : Nat) 0, .int (ep : Nat) 0]) /\ ∃ o, h.get? p = some o /\ ∃ m, o.data = .seq (pl.map fun (i : Nat) => rawInt i).toArray m
def EnAt (h : Heap) (a : Addr) (es : Array (Int × Value)) (ep : Nat) (t : SetTable) : Prop := ∃ o, h.get? a = some o /\ o.ExactSet /\ o.data = .set es ep t /\ t.fits es.size = true
section
variable {a I p : Addr} {es : Array (Int × Value)} {ep : Nat} {t : SetTable} {pl : List Nat}
theorem DrIt.typeIs {i n : Nat} (x : DrIt s.heap I a p i n ep pl) : s.TypeIs (.ref I) "set_iterator" := let ⟨⟨o, ho, hc, _⟩, _⟩ := x; ⟨o, ho, hc⟩
theorem xO {Q : Value -> Shared -> Prop} (hd : EnAt s.heap a es ep t) (hdr : (!qi w && (!t.plain && decide (es.size > 1))) = true) (hz : es.size <= sizeLine)
  (hQ : ∀ (pl : List Nat) (d' : Drawn), pl.Perm (List.range es.size) -> Q (.ref (s.heap.objs.size + 1)) { s with heap := (s.heap.push { cls := .type "tuple", data := .seq (pl.map fun (i : Nat) => rawInt i).toArray }).push { cls := .type "set_iterator", data := .fields #[.ref s.heap.objs.size, .int (0 : Nat) 0, .ref a, .int (es.size : Nat) 0, .int (ep : Nat) 0] }, drawn := d' }) :
  wpAny (model prog w) A (pyIter (.ref a)) Q E s := by
 obtain ⟨o, ho, hx, hdat, hf⟩ := hd
 have hT : s.TypeIs (.ref a) "set" := ⟨o, ho, hx.1⟩
 refine wpAny_pyIter_slot hT PySem.F.slot_set_iter (wpAny_call_entry PySem.F.slot_set_iter hT jA ?_ (PySem.F.args_set_iter_1 _))
 unfold Builtin.«frozenset.__iter__» Builtin.Frozenset.slot0
 refine wpAny_bind (wpAny_bind (wpAny_pure ?_))
 refine wpAny_pure ?_
 unfold Builtin.Frozenset.sizeOf setEntries
 refine wpAny_bind (wpAny_bind (wpAny_bind (wpAny_setState_of ho hdat hf (wpAny_pure (wpAny_pure ?_)))))
 unfold setDrawn setsByText
 refine wpAny_bind (wpAny_bind (wpAny_setState_of ho hdat hf ?_))
 refine wpAny_bind (wpAny_bind (wpAny_askSetting (wpAny_pure (wpAny_pure ?_))))
 refine wpAny_ite_split (fun _ => ?_) (fun hab => absurd (show (!(qi w) && (!t.plain && decide (es.size > 1))) = true from hdr) hab)
 refine wpAny_bind (Q7 es.size (List.range es.size) _ _ List.length_range fun pl d' hp => ?_)
 have hl : pl.length = es.size := by rw [hp.length_eq, List.length_range]
 refine wpAny_bind (wpAny_newTuple ?_ (by rw [List.length_map, hl]; exact hz))
 refine wpAny_bind (wpAny_setEpoch_of (Heap.get?_push_of_some _ ho) hdat hf ?_)
 refine wpAny_bind (wpAny_newObj_type ?_)
 have q := hQ pl d' hp
 refine wpAny_pure ⟨_, rfl, "set_iterator", _, ⟨_, Heap.get?_push_size _ rfl, rfl⟩, zt.lookup, ?_⟩
 have e : (s.heap.push { cls := .type "tuple", data := .seq (pl.map fun (i : Nat) => rawInt i).toArray }).objs.size = s.heap.objs.size + 1 := Heap.size_push ..
 dsimp only
 rw [e]
 exact q
theorem Jn {Q : Option Value -> Shared -> Prop} {i n : Nat} {k : Nat} {e : Int × Value} (Ip : I ≠ p) (hit : DrIt s.heap I a p i n ep pl) (hn : n = es.size) (hd : EnAt s.heap a es ep t) (hk : pl[i]? = some k) (he : es[k]? = some e)
  (hQ : ∀ h', DrIt h' I a p (i + 1) n ep pl -> Heap.SameBut I s.heap h' -> Q (some e.2) { s with heap := h' }) :
  wpAny (model prog w) A (pyNext (.ref I)) Q E s := by
 obtain ⟨⟨oI, hoI, hcI, hdI⟩, op, hop, m, hdp⟩ := id hit
 obtain ⟨o, ho, hx, hdat, hf⟩ := id hd
 subst hn
 unfold pyNext
 refine wpAny_bind (wpAny_attempt (wpAny_callSpecial?_slot (name := Str.ofString "__next__") hit.typeIs zt
  (wpAny_call_entry zt hit.typeIs qd ?_ (qp _))))
 unfold Builtin.«set_iterator.__next__»
 refine wpAny_bind (wpAny_pure ?_)
 refine wpAny_bind (wpAny_fieldsOf hoI hdI ?_)
 dsimp only
 unfold setEntries
 refine wpAny_bind (wpAny_bind (wpAny_setState_of ho hdat hf (wpAny_pure ?_)))
 rw [if_neg (by simp)]
 unfold seqItems?
 refine wpAny_bind (wpAny_bind (wpAny_load hop ?_))
 rw [hdp]
 refine wpAny_pure ?_
 dsimp only
 have ek : (pl.map fun (i : Nat) => rawInt i).toArray[((i : Nat) : Int).toNat]? = some (rawInt k) := by
  rw [Int.toNat_natCast]
  simp [hk]
 rw [ek]
 dsimp only [rawInt]
 unfold setNextDrawn
 refine wpAny_bind (wpAny_bind (wpAny_setState_of ho hdat hf ?_))
 dsimp only
 rw [if_neg (by simp)]
 rw [Int.toNat_natCast, he]
 refine wpAny_pure ?_
 refine wpAny_bind (wpAny_setField hoI hdI (by simp) ?_)
 refine wpAny_pure ⟨_, rfl, wpAny_pure (hQ _ ⟨⟨_, Heap.get?_update_self _ hoI (Obj.isFreed_of_fields (Obj.data_mapFields hdI _)), ?_, ?_⟩, op, ?_, m, hdp⟩ (Heap.SameBut.update ..))⟩
 ·rw [Obj.cls_mapFields]
  exact hcI
 ·rw [Obj.data_mapFields hdI]
  simp [rawInt]
 ·exact (Heap.get?_update_other _ _ Ip).trans hop
theorem we {Q : Option Value -> Shared -> Prop} {n : Nat} (hh : A.handled = none) (hit : DrIt s.heap I a p n n ep pl) (hn : n = es.size) (hl : pl.length = n) (hd : EnAt s.heap a es ep t)
  (hQ : ∀ h', Heap.ExtBut I s.heap h' -> Q none { s with heap := h' }) :
  wpAny (model prog w) A (pyNext (.ref I)) Q E s := by
 obtain ⟨⟨oI, hoI, hcI, hdI⟩, op, hop, m, hdp⟩ := id hit
 obtain ⟨o, ho, hx, hdat, hf⟩ := id hd
 subst hn
 unfold pyNext
 refine wpAny_bind (wpAny_attempt (wpAny_callSpecial?_slot (name := Str.ofString "__next__") hit.typeIs zt
  (wpAny_call_entry zt hit.typeIs qd ?_ (qp _))))
 unfold Builtin.«set_iterator.__next__»
 refine wpAny_bind (wpAny_pure ?_)
 refine wpAny_bind (wpAny_fieldsOf hoI hdI ?_)
 dsimp only
 unfold setEntries
 refine wpAny_bind (wpAny_bind (wpAny_setState_of ho hdat hf (wpAny_pure ?_)))
 rw [if_neg (by simp)]
 unfold seqItems?
 refine wpAny_bind (wpAny_bind (wpAny_load hop ?_))
 rw [hdp]
 refine wpAny_pure ?_
 dsimp only
 have ek : (pl.map fun (i : Nat) => rawInt i).toArray[((es.size : Nat) : Int).toNat]? = none := by
  rw [Int.toNat_natCast]
  simp [hl]
 rw [ek]
 dsimp only
 refine wpAny_bind (wpAny_setField hoI hdI (by simp) ?_)
 have h1 := Heap.get?_update_self (Obj.mapFields (·.setIfInBounds 0 (rawInt 0))) hoI (Obj.isFreed_of_fields (Obj.data_mapFields hdI _))
 have d1 := Obj.data_mapFields hdI (·.setIfInBounds 0 (rawInt 0))
 refine wpAny_bind (wpAny_setField h1 d1 (by simp) ?_)
 show wpAny _ _ (newExc (.type "StopIteration") [] >>= _) _ _ _
 refine wpAny_bind ?_
 simp only [newExc, newTuple]
 refine wpAny_bind (wpAny_newObj_type ?_ (by size_fits))
 refine wpAny_bind (m := firstArgMember _ _) (wpAny_of_eq (a := Value.none) (by first | rfl | (simp only [firstArgMember]; rfl)) ?_)
 refine wpAny_newObj_type ?_ (by size_fits)
 simp only [raiseNew]
 refine wpAny_bind (wpAny_handled ?_)
 rw [show A.in1.handled = none from hh]
 refine wpAny_bind (wpAny_pure (wpAny_throw ?_))
 refine wpAny_bind (wpAny_isInstance (T := "StopIteration") (b := true) ⟨_, Heap.get?_push_size _ rfl, rfl⟩ isSubtype_stop ?_)
 exact wpAny_pure (hQ _ ((((Heap.SameBut.update ..).trans (Heap.SameBut.update ..)).extBut.push _).push _))
theorem walks_dr (hh : A.handled = none) (hp : I ≠ p) (ha : I ≠ a) (hl : pl.Perm (List.range es.size)) : Walks prog w A I [I, a, p] [I] es.size (fun i v => ∃ k e, pl[i]? = some k /\ es[k]? = some e /\ v = e.2) (fun i h => DrIt h I a p i es.size ep pl /\ EnAt h a es ep t) where
 sub := fun b hb => by simp at hb; simp [hb]
 frame := fun _ _ _ st hk => by
  obtain ⟨⟨⟨o1, e1, r1⟩, o2, e2, r2⟩, o3, e3, r3⟩ := st
  exact ⟨⟨⟨o1, hk I (by simp) o1 e1, r1⟩, o2, hk p (by simp) o2 e2, r2⟩, o3, hk a (by simp) o3 e3, r3⟩
 item := fun i s Q E hi st hQ => by
  have hi' : i < pl.length := by rw [hl.length_eq, List.length_range]; exact hi
  have hk : pl[i]? = some pl[i] := List.getElem?_eq_getElem hi'
  have hm : pl[i] < es.size := List.mem_range.mp (hl.mem_iff.mp (List.getElem_mem hi'))
  have he : es[pl[i]]? = some es[pl[i]] := Array.getElem?_eq_getElem hm
  refine Jn hp st.1 rfl st.2 hk he fun h' hit' hs' => ?_
  obtain ⟨o3, e3, r3⟩ := st.2
  exact hQ _ h' s.toks ⟨_, _, hk, he, rfl⟩ ⟨hit', o3, hs'.extBut a o3 (Ne.symm ha) e3, r3⟩ fun b o hb e => hs'.extBut b o (fun h => hb (by simp [h])) e
 done := fun s Q E st hQ => we hh st.1 rfl (by rw [hl.length_eq, List.length_range]) st.2 fun h' he' => hQ h' s.toks fun b o hb e => he' b o (fun h => hb (by simp [h])) e
 self := fun _ _ _ _ st hQ => by
  refine wpAny_pyIter_slot st.1.typeIs je (wpAny_call_entry je st.1.typeIs Zi ?_ (ZF _))
  show wpAny _ _ (ret (.ref I)) _ _ _
  exact wpAny_pure ⟨_, rfl, "set_iterator", _, st.1.typeIs, zt.lookup, hQ⟩
theorem Yi {R : List Value -> Shared -> Prop} (hh : A.handled = none) (hd : EnAt s.heap a es ep t) (hdr : (!qi w && (!t.plain && decide (es.size > 1))) = true) (hz : es.size <= sizeLine)
  (h : ∀ (h' : Heap) (tk : Nat) (d' : Drawn) (pl : List Nat) (acc : Array Value), (∀ b o, s.heap.get? b = some o -> h'.get? b = some o) -> pl.Perm (List.range es.size) -> ItemsOf (fun i v => ∃ k e, pl[i]? = some k /\ es[k]? = some e /\ v = e.2) acc es.size -> R acc.toList { s with heap := h', toks := tk, drawn := d' }) :
  wpAny (model prog w) A (collect (.ref a)) R E s := by
 obtain ⟨o, ho, hx, hdat, hf⟩ := id hd
 have la := Heap.lt_size ho
 unfold collect
 refine wpAny_bind (wpAny_runValue (codeAny_builtin entry_proto_collect' ?_))
 rw [Around.under_plainId PySem.F.plain_proto_collect _]
 show wpAny _ A.in1 (newList [] >>= fun l => again (.builtin "list.__iadd__" ⟨[l, .ref a], []⟩)) _ _ s
 refine wpAny_bind (wpAny_newObj_type ?_)
 refine wpAny_pure ⟨plainId_quiet PySem.F.plain_list_iadd _, codeAny_builtin entry_list_iadd' ?_⟩
 rw [Around.under_plainId PySem.F.plain_list_iadd _]
 have hS1 : (s.heap.push { cls := .type "list", data := .seq ([] : List Value).toArray }).get? s.heap.objs.size = some { cls := .type "list", data := .seq #[] } := Heap.get?_push_size _ rfl
 show wpAny _ A.in1 (Builtin.List.listExtendWith (.ref s.heap.objs.size) (.ref a) (.ref s.heap.objs.size)) _ _ _
 have hd1 : EnAt (s.heap.push { cls := .type "list", data := .seq ([] : List Value).toArray }) a es ep t := ⟨o, Heap.get?_push_of_some _ ho, hx, hdat, hf⟩
 have sz1 : (s.heap.push { cls := .type "list", data := .seq ([] : List Value).toArray }).objs.size = s.heap.objs.size + 1 := Heap.size_push ..
 have kp1 : ∀ b ob, s.heap.get? b = some ob -> (s.heap.push { cls := .type "list", data := .seq ([] : List Value).toArray }).get? b = some ob := fun b ob e => Heap.get?_push_of_some _ e
 generalize s.heap.push { cls := .type "list", data := .seq ([] : List Value).toArray } = g1 at hS1 hd1 sz1 kp1 ⊢
 have key : ∀ (g2 : Heap) (tk c1 : Nat) (d' : Drawn) (I p : Addr) (pl : List Nat), pl.Perm (List.range es.size) -> s.heap.objs.size < I -> s.heap.objs.size < p -> I ≠ p -> DrIt g2 I a p 0 es.size ep pl -> EnAt g2 a es ep t -> (∀ b ob, b < s.heap.objs.size -> g1.get? b = some ob -> g2.get? b = some ob) -> g2.get? s.heap.objs.size = some { cls := .type "list", data := .seq #[] c1 } ->
   codeAny (model prog w) A (.builtin "list.extend.loop" ⟨[.ref s.heap.objs.size, .ref I, .ref s.heap.objs.size], []⟩) (fun r s' => ∃ (h' : Heap) (tk : Nat) (acc' : Array Value) (c' : Nat) (d' : Drawn) (pl : List Nat), r = .ok (.ret (.ref s.heap.objs.size)) /\ s' = { s with heap := h', toks := tk, drawn := d' } /\ (∀ b o, s.heap.get? b = some o -> h'.get? b = some o) /\ h'.get? s.heap.objs.size = some { cls := .type "list", dict := none, data := .seq acc' c', slots := #[] } /\ pl.Perm (List.range es.size) /\ ItemsOf (fun i v => ∃ k e, pl[i]? = some k /\ es[k]? = some e /\ v = e.2) acc' es.size) { s with heap := g2, toks := tk, drawn := d' } := by
  intro g2 tk c1 d' I p pl hpl hI hp hne hit hen kp hS
  refine codeAny_extend_loopS (walks_dr (A := A.in1) (t := t) (ep := ep) hh hne (Nat.ne_of_gt (Nat.lt_trans la hI)) hpl).toS hz s.heap.objs.size (by
   simp only [List.mem_cons, List.not_mem_nil, or_false, not_or]
   exact ⟨Nat.ne_of_lt hI, Nat.ne_of_gt la, Nat.ne_of_lt hp⟩) _ es.size 0 _ #[] c1 rfl (Nat.zero_le _) ⟨hit, hen⟩ hS (ItemsOf.nil _) fun s' acc' c' hm hS' hacc => ?_
  refine ⟨s'.heap, s'.toks, acc', c', d', pl, rfl, ?_, fun b ob e => hm.heap b ob (fun hb => ?_) (kp b ob (Heap.lt_size e) (kp1 b ob e)), hS', hpl, hacc⟩
  ·have e1 := hm.gens
   have e2 := hm.drawn
   have e3 := hm.os
   obtain ⟨q1, q2, q3, q4, q5⟩ := s'
   dsimp only at e1 e2 e3 ⊢
   rw [e1, e2, e3]
  ·have hl := Heap.lt_size e
   rcases List.mem_cons.mp hb with z | z
   ·exact absurd hl (z ▸ Nat.lt_irrefl _)
   ·rw [List.mem_singleton.mp z] at hl
    exact absurd hl (Nat.not_lt_of_gt hI)
 have fin : ∀ (r : Result) (s' : Shared), (∃ (h' : Heap) (tk : Nat) (acc' : Array Value) (c' : Nat) (d' : Drawn) (pl : List Nat), r = .ok (.ret (.ref s.heap.objs.size)) /\ s' = { s with heap := h', toks := tk, drawn := d' } /\ (∀ b o, s.heap.get? b = some o -> h'.get? b = some o) /\ h'.get? s.heap.objs.size = some { cls := .type "list", dict := none, data := .seq acc' c', slots := #[] } /\ pl.Perm (List.range es.size) /\ ItemsOf (fun i v => ∃ k e, pl[i]? = some k /\ es[k]? = some e /\ v = e.2) acc' es.size) -> r = .ok (.ret (.ref s.heap.objs.size)) /\ wpAny (model prog w) A (load s.heap.objs.size >>= fun o => match o.data with
     | Data.seq xs _ => pure xs.toList
     | _ => unsupported "internal:collect") R E s' := by
  rintro r s' ⟨h', tk, acc', c', d', pl, e, rfl, hk, hS', hpl, hacc⟩
  exact ⟨e, wpAny_bind (wpAny_load hS' (wpAny_pure (h h' tk d' pl acc' hk hpl hacc)))⟩
 unfold Builtin.List.listExtendWith
 have hT : Shared.TypeIs { s with heap := g1 } (.ref a) "set" := by
  obtain ⟨o', ho', hx', _⟩ := hd1
  exact ⟨o', ho', hx'.1⟩
 refine wpAny_bind (wpAny_typeOf (T := "set") hT ?_)
 have h1 : Builtin.List.listSameRef (.ref s.heap.objs.size) (.ref a) = false := by simp [Builtin.List.listSameRef, Nat.ne_of_gt la]
 simp only [h1, show (Value.type "set" == Value.type "list") = false by decide, show (Value.type "set" == Value.type "tuple") = false by decide, Bool.or_false, Bool.false_eq_true, if_false]
 refine wpAny_bind (xO hd1 hdr hz fun pl d' hpl => ?_)
 have k2 : ∀ b ob, g1.get? b = some ob -> ((g1.push { cls := .type "tuple", data := .seq (pl.map fun (i : Nat) => rawInt i).toArray }).push { cls := .type "set_iterator", data := .fields #[.ref g1.objs.size, .int (0 : Nat) 0, .ref a, .int (es.size : Nat) 0, .int (ep : Nat) 0] }).get? b = some ob := fun b ob e => Heap.get?_push_of_some _ (Heap.get?_push_of_some _ e)
 have hit : DrIt ((g1.push { cls := .type "tuple", data := .seq (pl.map fun (i : Nat) => rawInt i).toArray }).push { cls := .type "set_iterator", data := .fields #[.ref g1.objs.size, .int (0 : Nat) 0, .ref a, .int (es.size : Nat) 0, .int (ep : Nat) 0] }) (g1.objs.size + 1) a g1.objs.size 0 es.size ep pl := by
  refine ⟨⟨{ cls := .type "set_iterator", data := .fields #[.ref g1.objs.size, .int (0 : Nat) 0, .ref a, .int (es.size : Nat) 0, .int (ep : Nat) 0] }, ?_, rfl, rfl⟩, _, Heap.get?_push_of_some _ (Heap.get?_push_size _ rfl), _, rfl⟩
  have e : (g1.push { cls := .type "tuple", data := .seq (pl.map fun (i : Nat) => rawInt i).toArray }).objs.size = g1.objs.size + 1 := Heap.size_push ..
  rw [<- e]
  exact Heap.get?_push_size _ rfl
 dsimp only
 generalize (g1.push { cls := .type "tuple", data := .seq (pl.map fun (i : Nat) => rawInt i).toArray }).push { cls := .type "set_iterator", data := .fields #[.ref g1.objs.size, .int (0 : Nat) 0, .ref a, .int (es.size : Nat) 0, .int (ep : Nat) 0] } = g2 at k2 hit ⊢
 have hS2 := k2 _ _ hS1
 have hd2 : EnAt g2 a es ep t := by
  obtain ⟨o', ho', r'⟩ := hd1
  exact ⟨o', k2 _ _ ho', r'⟩
 have nI : s.heap.objs.size < g1.objs.size + 1 := by rw [sz1]; exact Nat.lt_succ_of_lt (Nat.lt_succ_self _)
 have np : s.heap.objs.size < g1.objs.size := by rw [sz1]; exact Nat.lt_succ_self _
 refine wpAny_bind (wpAny_holding (Q2 (by
  obtain ⟨o', ho', hx', _⟩ := hd2
  exact ⟨o', ho', hx'.1⟩) ?_))
 refine wpAny_ite_split (fun _ => ?_) (fun _ => ?_)
 ·refine wpAny_bind (wpAny_rule ?_)
  refine wpAny_bind ?_
  show wpAny _ _ (updateSeq s.heap.objs.size (·.push .none) >>= fun _ => updateSeq s.heap.objs.size (·.pop)) _ _ _
  refine wpAny_bind (wpAny_updateSeq hS2 rfl ?_)
  have hS3 := Heap.get?_update_self (Obj.mapSeq (·.push Value.none)) hS2 rfl
  refine wpAny_updateSeq (hz := by seq_fits) hS3 rfl ?_
  have hS4 := Heap.get?_update_self (Obj.mapSeq (·.pop)) hS3 rfl
  have k4 : ∀ b ob, b ≠ s.heap.objs.size -> g2.get? b = some ob -> ((g2.update s.heap.objs.size (Obj.mapSeq (·.push Value.none))).update s.heap.objs.size (Obj.mapSeq (·.pop))).get? b = some ob := fun b ob hb e => (Heap.get?_update_other _ _ (Ne.symm hb)).trans ((Heap.get?_update_other _ _ (Ne.symm hb)).trans e)
  refine wpAny_pure ⟨plainId_quiet PySem.F.plain_extend_loop _, codeAny_mono (key _ s.toks _ d' (g1.objs.size + 1) g1.objs.size pl hpl nI np (Nat.ne_of_gt (Nat.lt_succ_self _)) ?_ ?_ (fun b ob hb e => k4 b ob (Nat.ne_of_lt hb) (k2 b ob e)) hS4) fun r s' z => ?_⟩
  ·obtain ⟨⟨o1, e1, r1⟩, o2, e2, r2⟩ := hit
   exact ⟨⟨o1, k4 _ _ (Nat.ne_of_gt nI) e1, r1⟩, o2, k4 _ _ (Nat.ne_of_gt np) e2, r2⟩
  ·obtain ⟨o3, e3, r3⟩ := hd2
   exact ⟨o3, k4 _ _ (Nat.ne_of_lt la) e3, r3⟩
  ·obtain ⟨e, z2⟩ := fin r s' z
   cases e
   exact z2
 ·refine wpAny_pure ⟨plainId_quiet PySem.F.plain_extend_loop _, codeAny_mono (key _ s.toks _ d' (g1.objs.size + 1) g1.objs.size pl hpl nI np (Nat.ne_of_gt (Nat.lt_succ_self _)) hit hd2 (fun b ob _ e => k2 b ob e) hS2) fun r s' z => ?_⟩
  obtain ⟨e, z2⟩ := fin r s' z
  cases e
  exact z2
end
theorem Q8 {α : Type} [DecidableEq α] : ∀ (l m : List α), l.Nodup -> (∀ x ∈ l, x ∈ m) -> m.length = l.length -> m.Perm l
 | [], m, _, _, h => by rw [List.length_eq_zero_iff.mp h]
 | x :: l, m, nd, hs, hl => by
  obtain ⟨n1, n2⟩ := List.nodup_cons.mp nd
  have hx := hs x List.mem_cons_self
  refine (List.perm_cons_erase hx).trans (List.Perm.cons _ (Q8 l (m.erase x) n2 (fun y hy => ?_) ?_))
  ·exact (List.mem_erase_of_ne (fun (e : y = x) => n1 (e ▸ hy))).mpr (hs y (List.mem_cons_of_mem _ hy))
  ·rw [List.length_erase_of_mem hx, hl, List.length_cons]
   omega
theorem JP {acc : Array Value} {W : List (Int × Value)} (hl : acc.size = W.length) (hi : ∀ (i : Nat) (v : Value), acc[i]? = some v -> ∃ e : Int × Value, W[i]? = some e /\ v = e.2) (hv : ∀ e ∈ W, ∃ x tk, e.2 = Value.str x tk) : ∃ ss, StrsAre acc.toList ss /\ StrsAre (W.map (·.2)) ss := by
 have e : acc.toList = W.map (·.2) := by
  refine List.ext_getElem? fun i => ?_
  rw [List.getElem?_map, Array.getElem?_toList]
  by_cases h : i < acc.size
  ·have g : acc[i]? = some acc[i] := Array.getElem?_eq_getElem h
   obtain ⟨e, he, ee⟩ := hi i _ g
   rw [g, he, ee]
   rfl
  ·rw [Array.getElem?_eq_none (by omega), List.getElem?_eq_none (by omega)]
   rfl
 rw [e]
 clear e hi hl
 induction W with
 | nil => exact ⟨[], .nil, .nil⟩
 | cons z W ih =>
  obtain ⟨ss, h1, h2⟩ := ih fun e he => hv e (List.mem_cons_of_mem _ he)
  obtain ⟨x, tk, ex⟩ := hv z List.mem_cons_self
  refine ⟨x :: ss, ?_, ?_⟩ <;> · rw [List.map_cons, ex]; exact .cons x tk (by assumption)
theorem Wg {us vs : List Value} (h : us.Perm vs) : ∀ {ss ts : List Str}, StrsAre us ss -> StrsAre vs ts -> ss.Perm ts := by
 have e : ∀ {us : List Value} {ss : List Str}, StrsAre us ss -> us.map strOf = ss := fun h => h.strs
 intro ss ts h1 h2
 rw [<- e h1, <- e h2]
 exact h.map _
theorem Yj {a : Addr} {l : List Str} {R : List Value -> Shared -> Prop} (hh : A.handled = none) (hS : xL prog w (!qi w) s.heap a l) (nd : l.Nodup)
  (h : ∀ (h' : Heap) (tk : Nat) (d' : Drawn) (vs : List Value) (ss : List Str), (∀ b o, s.heap.get? b = some o -> h'.get? b = some o) -> StrsAre vs ss -> ss.Perm l -> R vs { s with heap := h', toks := tk, drawn := d' }) :
  wpAny (model prog w) A (collect (.ref a)) R E s := by
 obtain ⟨o, es, ep, t, ho, hx, hdat, hel, hmem, hb, hf, hn, ti⟩ := hS
 have hz : es.size <= sizeLine := fits_of_scanBound hb
 have hv : ∀ e ∈ es.toList, ∃ x tk, e.2 = Value.str x tk := fun e he => by
  obtain ⟨⟨k, hk, _⟩, _⟩ := hel e he
  cases hs : e.2 with
  | str x tk => exact ⟨x, tk, rfl⟩
  | _ => rw [hs] at hk; simp [PySem.strKind, Value.isStrOf] at hk
 have lp : ∀ (ss : List Str), StrsAre (es.toList.map (·.2)) ss -> ss.Perm l := fun ss hss => by
  refine Q8 l ss nd (fun x hx => ?_) ?_
  ·obtain ⟨e, he, hk⟩ := (hmem x).mp (decide_eq_true hx)
   have e1 := hss.strs
   have : strOf e.2 ∈ ss := by
    rw [<- e1]
    exact List.mem_map.mpr ⟨e.2, List.mem_map.mpr ⟨e, he, rfl⟩, rfl⟩
   obtain ⟨y, tk, ey⟩ := hv e he
   rw [ey] at hk this
   have : x = y := by
    simp [PySem.strKind, Value.isStrOf] at hk
    first | exact hk | exact hk.symm
   subst this
   assumption
  ·have := hss.length
   rw [List.length_map, Array.length_toList] at this
   omega
 by_cases hdr : (!qi w && (!t.plain && decide (es.size > 1))) = true
 ·refine Yi hh ⟨o, ho, hx, hdat, hf⟩ hdr hz fun h' tk d' pl acc hk hpl hacc => ?_
  have pl2 : pl.length = es.size := by rw [hpl.length_eq, List.length_range]
  have hW : List.Perm (pl.map fun k => es.getD k (0, .none)) es.toList := by
   have h1 := hpl.map fun k => es.getD k (0, Value.none)
   refine h1.trans (.of_eq ?_)
   refine List.ext_getElem? fun i => ?_
   rw [List.getElem?_map]
   by_cases hi : i < es.size
   ·rw [List.getElem?_range hi]
    simp [Array.getD, hi]
   ·rw [List.getElem?_eq_none (by rw [List.length_range]; omega), List.getElem?_eq_none (by rw [Array.length_toList]; omega)]
    rfl
  obtain ⟨ss, h1, h2⟩ := JP (acc := acc) (W := pl.map fun k => es.getD k (0, .none)) (by rw [List.length_map, pl2]; exact hacc.1) (fun i v hiv => by
   obtain ⟨k, e, e1, e2, e3⟩ := hacc.2 i v hiv
   refine ⟨e, ?_, e3⟩
   rw [List.getElem?_map, e1]
   show some (es.getD k (0, .none)) = some e
   have hk' := (Array.getElem?_eq_some_iff.mp e2)
   obtain ⟨hk1, hk2⟩ := hk'
   simp [Array.getD, hk1, hk2]) fun e he => hv e (hW.mem_iff.mp he)
  refine h h' tk d' acc.toList ss hk h1 ?_
  have h3 : ∃ ts, StrsAre (es.toList.map (·.2)) ts := ⟨_, strsAre_map _ fun v hv' => by
   obtain ⟨e, he, rfl⟩ := List.mem_map.mp hv'
   exact hv e he⟩
  obtain ⟨ts, h3⟩ := h3
  exact (Wg (hW.map _) h2 h3).trans (lp ts h3)
 ·have wk : Wk w es t := ⟨ti, hf, by
   cases hb : qi w with
   | true => exact .inl rfl
   | false =>
    rw [hb] at hdr
    exact .inr (Bool.eq_false_iff.mpr (by simpa using hdr))⟩
  refine kdu_collect (kdl_setW (a := a) (es := es) (ep := ep) (t := t)) hh ⟨o, ho, hx, hdat, wk⟩ hz fun h' tk acc hk hacc => ?_
  have wp := Q0 w a es ep
  obtain ⟨ss, h1, h2⟩ := JP (acc := acc) (W := (QZ w a es ep).toList) (by rw [Array.length_toList, ji]; exact hacc.1) (fun i v hiv => by
   obtain ⟨e, e1, e2⟩ := hacc.2 i v hiv
   exact ⟨e, by rw [Array.getElem?_toList]; exact e1, e2⟩) fun e he => hv e (wp.mem_iff.mp he)
  have h3 : ∃ ts, StrsAre (es.toList.map (·.2)) ts := ⟨_, strsAre_map _ fun v hv' => by
   obtain ⟨e, he, rfl⟩ := List.mem_map.mp hv'
   exact hv e he⟩
  obtain ⟨ts, h3⟩ := h3
  exact h h' tk s.drawn acc.toList ss hk h1 ((Wg (wp.map _) h2 h3).trans (lp ts h3))
theorem xP {a : Addr} {l : List Str} {Q : Value -> Shared -> Prop} (hh : A.handled = none) (hS : xL prog w (!qi w) s.heap a l) (nd : l.Nodup) (h64 : l.length < 64)
  (h : ∀ (h1 h' : Heap) (tk : Nat) (d' : Drawn) (out : Array Value) (e : Nat) (ss : List Str), (∀ b o, s.heap.get? b = some o -> h1.get? b = some o) -> (∀ b o, h1.get? b = some o -> h'.get? b = some o) -> h'.get? h1.objs.size = some (seqObj "list" out e) -> StrsAre out.toList ss -> ss.Perm l -> sortedS ss = true -> Q (.ref h1.objs.size) { s with heap := h', toks := tk, drawn := d' }) :
  wpAny (model prog w) A (call (.builtin "sorted") [.ref a]) Q E s := by
 refine Calls.call_function_entry kind_sorted plain_sorted entry_sorted (args_sorted1 _) ?_
 unfold Builtin.«sorted»
 refine wpAny_bind (m := checkCount "sorted" 1 1 _) (wpAny_pure ?_)
 refine wpAny_bind (Yj (A := A.in1) hh hS nd fun h' tk d' vs ss hk hv hp => ?_)
 have hl : vs.length = l.length := by rw [hv.length, hp.length_eq]
 refine wpAny_bind (wpAny_newList ?_ (by rw [hl, sizeLine_eq]; omega))
 have hoL : (h'.push (seqObj "list" vs.toArray 0)).get? h'.objs.size = some (seqObj "list" vs.toArray 0) := Heap.get?_push_size _ rfl
 show wpAny _ _ _ _ _ { s with heap := h'.push (seqObj "list" vs.toArray 0), toks := tk, drawn := d' }
 refine wpAny_bind (wpAny_holding (wpAny_call_entry slot_list_sort ⟨_, hoL, rfl⟩ entry_list_sort (list_sort_treeK strKind_oneLt hoL hv.keysOf (fun v1 v2 rest e => keyKind_strs (by rw [<- e]; exact hv)) (by omega) fun st' a1 a2 => ⟨_, rfl, ?_⟩) (args_list_sort _)))
 obtain ⟨ss', b1, b2, b3⟩ := sorted_out_str hv a1 a2
 obtain ⟨e, he⟩ := sortedHeap_at (vs := vs) (out := (arrOf st').map (·.2)) hoL
 exact wpAny_pure ⟨_, rfl, h h' _ tk d' _ e ss' hk (fun b o q1 => by
  have hb := Heap.lt_size q1
  rw [sortedHeap_old (Nat.ne_of_lt hb) (by rw [Heap.size_push]; exact Nat.lt_succ_of_lt hb)]
  exact Heap.get?_push_of_some _ q1) he b1 (b2.trans hp) b3⟩
end
def TxSet (P : Program) (w : World) (a : Addr) (l : List Str) : HO := .ext fun h => xL P w (!qi w) h a l
theorem Inv.lots {X : Cx} {pins : List (Addr × Obj)} {σ : List (Option V)} {H : Hp} {s : Shared} (I : Inv X pins σ H s) (d' : Drawn) : Inv X pins σ H { s with drawn := d' } := ⟨I.ok, I.os, I.bare, I.base, I.loc, I.cell, I.free, I.freeC, I.pin, I.hok, I.len⟩
theorem Qo {α : Type} [DecidableEq α] (vs : List α) : (QR vs).Nodup := by
 have key : ∀ (vs l : List α), l.Nodup -> (vs.foldl Y5 l).Nodup := by
  intro vs
  induction vs with
  | nil => exact fun l h => h
  | cons v vs ih =>
   intro l h
   refine ih _ ?_
   unfold Y5
   split
   ·exact h
   ·rename_i hv
    refine List.nodup_append.mpr ⟨h, by simp, fun a ha b hb => ?_⟩
    rw [List.mem_singleton.mp hb]
    exact fun e => hv (e ▸ ha)
 exact key vs [] .nil
theorem yx {α : Type} [DecidableEq α] {vs : List α} {x : α} : x ∈ QR vs ↔ x ∈ vs := by
 have key : ∀ (vs l : List α), x ∈ vs.foldl Y5 l ↔ x ∈ l \/ x ∈ vs := by
  intro vs
  induction vs with
  | nil => intro l; simp
  | cons v vs ih =>
   intro l
   rw [List.foldl_cons, ih, yj, List.mem_cons, or_assoc]
 have := key vs []
 simpa [QR] using this
section
variable {X : Cx}
theorem JQ (K : PySem.W.Frag) (hc : X.calm = true) (hK : X.K = K := by rfl) : jf X (.type "set") (fun xs H Q => ∃ p ys, xs = [.ref p] /\ SqL K H p (ys.map V.str) /\ ys.length <= 1000 /\ ∀ a, H a = none -> Q (.ref a) (upd H a (TxSet X.prog X.w a (QR ys)))) := by
 subst hK
 intro pins s σ H xs us Q I r h
 obtain ⟨p, ys, rfl, hq, hz, q⟩ := h
 obtain ⟨u, rfl, ru⟩ := vals1 r
 cases ru
 obtain ⟨its, rv, pl, _⟩ := I.list hq
 have hb : ys.length + 1 < scanBound := by unfold scanBound; omega
 refine xN (I.ok.hd hc) pl.isList (JA rv) hb fun h' tk hS hk => ?_
 have fr := I.hok.fresh (Nat.le_refl s.heap.objs.size)
 refine ⟨.ref s.heap.objs.size, _, I.laid (t' := tk) (o := TxSet X.prog X.w s.heap.objs.size (QR ys)) (fun b o e => hk b o (Heap.lt_size e) e) (Nat.le_refl _) ⟨hS, ?_, fun h1 h2 z k => Q5 z k⟩, rfl, q _ fr⟩
 obtain ⟨o, _, _, _, ho, _⟩ := hS
 exact ⟨o, ho⟩
theorem xQ {us : List Value} {ss : List Str} (h : StrsAre us ss) : qo (ss.map V.str) us := by
 induction h with
 | nil => exact .nil
 | cons x t _ ih => exact .cons ⟨t, rfl⟩ ih
theorem Z9 (hc : X.calm = true) : jf X (.builtin "sorted") (fun xs H Q => ∃ (a : Addr) (l : List Str), xs = [.ref a] /\ H a = some (TxSet X.prog X.w a l) /\ l.Nodup /\ l.length < 64 /\ ∀ (k : Addr) (ss : List Str), H k = none -> ss.Perm l -> sortedS ss = true -> Q (.ref k) (upd H k (.lst (ss.map V.str)))) := by
 intro pins s σ H xs us Q I r h
 obtain ⟨a, l, rfl, ha, nd, h64, q⟩ := h
 obtain ⟨u, rfl, rx⟩ := vals1 r
 cases rx
 have hd := (I.hok a _ ha).1
 refine xP (I.ok.hd hc) hd nd h64 fun h1 h' tk d' out e ss k1 k2 he a1 a2 a3 => ?_
 have I1 : Inv X pins σ H { s with heap := h1, toks := tk, drawn := d' } := (I.un (t' := tk) (Un.kept k1) (I.hok.kept k1)).lots d'
 refine ⟨.ref h1.objs.size, _, I1.laid (t' := tk) (o := .lst (ss.map V.str)) k2 (Nat.le_refl _) ?_, rfl, q _ ss (I1.hok.fresh (Nat.le_refl _)) a2 a3⟩
 refine ⟨by rw [List.length_map, a2.length_eq, sizeLine_eq]; omega, out.toList, e, xQ a1, ?_⟩
 simpa [seqObj] using he
end
end L2
namespace L2
open PySem PySem.Spec PyProof.Rows
section
variable {X : Cx}
def rKIn : R2 := fun y x H Q => ∃ a kvs k, x = .ref a /\ y = kV k /\ H a = some (.dK kvs) /\ Q (.bl (jE kvs k).isSome) H
theorem op_kIn {j : Nat} (hr : ZS j X.A) : OpR X (compareOp .In) rKIn := by
 intro pins s σ H x y v u Q I rx ry h
 obtain ⟨a, kvs, k, rfl, rfl, ha, q⟩ := h
 have hu : X.A.units + 64 < cLine := hr.units
 obtain rfl : u = Value.ref a := ry
 exact d_in (by omega) I (WA.k ha) rx fun s' I' => ⟨.bl _, H, I', rfl, q⟩
theorem Wh : jf X (.builtin "len") (fun xs H Q => ∃ a kvs, xs = [.ref a] /\ H a = some (.dK kvs) /\ Q (.int (kvs.length : Nat)) H) := by
 intro pins s σ H xs us Q I r h
 obtain ⟨a, kvs, rfl, ha, q⟩ := h
 obtain ⟨u, rfl, rx⟩ := vals1 r
 cases rx
 exact d_len I (.inl ha) fun t s' I' => ⟨.int _, H, I', ⟨_, rfl⟩, q⟩
end
end L2
namespace L4
open PySem L2
structure Cn where
 nm : Str
 pl : Nat
 cs : List Nat
structure Tb where
 m : Nat
 ws : List Nat
 cs : List Cn
def Cns (H : Hp) : List Cn -> List V -> Prop := Paired fun c v => ∃ t u, v = .ref t /\ H t = some (.tup [.str c.nm, nV c.pl, .ref u]) /\ H u = some (.tup (c.cs.map nV))
theorem Cns.same {H H' : Hp} (s : zF H H') {cs : List Cn} {vs : List V} (h : Cns H cs vs) : Cns H' cs vs := by
 unfold Cns at h ⊢
 induction h with
 | nil => exact .nil
 | cons r _ ih =>
  obtain ⟨t, u, e, h1, h2⟩ := r
  exact .cons ⟨t, u, e, s _ _ h1, s _ _ h2⟩ ih
theorem Cns.len {H : Hp} {cs : List Cn} {vs : List V} (h : Cns H cs vs) : cs.length = vs.length := Paired.length h
theorem Cns.get {H : Hp} {cs : List Cn} {vs : List V} (h : Cns H cs vs) {i : Nat} {c : Cn} (hc : cs[i]? = some c) : ∃ t u, vs[i]? = some (.ref t) /\ H t = some (.tup [.str c.nm, nV c.pl, .ref u]) /\ H u = some (.tup (c.cs.map nV)) := by
 have hi : i < vs.length := by
  rw [<- h.len]
  exact (List.getElem?_eq_some_iff.mp hc).1
 have e : vs[i]? = some vs[i] := List.getElem?_eq_getElem hi
 obtain ⟨t, u, e1, h1, h2⟩ := Paired.at h i c _ hc e
 exact ⟨t, u, by rw [e, e1], h1, h2⟩
def yy (H : Hp) (v : V) (T : Tb) : Prop := ∃ a w c vs, v = .ref a /\ H a = some (.tup [nV T.m, .ref w, .ref c]) /\ H w = some (.tup (T.ws.map nV)) /\ H c = some (.tup vs) /\ Cns H T.cs vs
theorem yy.same {H H' : Hp} (s : zF H H') {v : V} {T : Tb} (h : yy H v T) : yy H' v T := by
 obtain ⟨a, w, c, vs, e, h1, h2, h3, h4⟩ := h
 exact ⟨a, w, c, vs, e, s _ _ h1, s _ _ h2, s _ _ h3, h4.same s⟩
structure Qa (T : Tb) : Prop where
 m1 : 1 <= T.m
 m9 : T.m <= 9
 ris : T.ws.Pairwise (· < ·)
 wlt : ∀ x ∈ T.ws, x < T.m
 cl : T.cs.length <= 16
 cn : ∀ c ∈ T.cs, c.nm.length <= 100 /\ c.pl <= 2 /\ Tn.Cs T.m c.pl c.cs
theorem Cns.tk {H H' : Hp} (s : Tk H H') {cs : List Cn} {vs : List V} (h : Cns H cs vs) : Cns H' cs vs := by
 unfold Cns at h ⊢
 induction h with
 | nil => exact .nil
 | cons r _ ih =>
  obtain ⟨t, u, e, h1, h2⟩ := r
  exact .cons ⟨t, u, e, s _ _ h1, s _ _ h2⟩ ih
theorem yy.tk {H H' : Hp} (s : Tk H H') {v : V} {T : Tb} (h : yy H v T) : yy H' v T := by
 obtain ⟨a, w, c, vs, e, h1, h2, h3, h4⟩ := h
 exact ⟨a, w, c, vs, e, s _ _ h1, s _ _ h2, s _ _ h3, h4.tk s⟩
theorem at_nV {xs : List Nat} {i : Nat} (hi : i < xs.length) : atI (xs.map nV) (i : Int) = some (nV (Tn.at' xs i)) := by
 refine jM ?_
 rw [List.getElem?_map, List.getElem?_eq_getElem hi]
 unfold Tn.at'
 rw [List.getD_eq_getElem?_getD, List.getElem?_eq_getElem hi]
 rfl
theorem Qp (a : Nat) (ws : List Nat) : inV (nV a) (ws.map nV) = decide (a ∈ ws) := by
 induction ws with
 | nil => rfl
 | cons w ws ih =>
  unfold inV at ih ⊢
  rw [List.map_cons, List.any_cons, ih]
  have e : eqV (nV w) (nV a) = decide (a = w) := by
   by_cases h : a = w
   ·rw [h]
    simp [eqV]
   ·rw [decide_eq_false h]
    simp [eqV]
    omega
  rw [e, <- Bool.decide_or]
  exact decide_eq_decide.mpr List.mem_cons.symm
theorem jB (ws : List Nat) : (ws.map nV).all Qh = true := by
 rw [List.all_map, List.all_eq_true]
 intro i _
 rfl
def jX (T : Tb) : List Str := T.cs.map Cn.nm
def findC (T : Tb) (nm : Str) : Option Cn := T.cs.find? fun c => decide (c.nm = nm)
theorem QH {T : Tb} (hn : (jX T).Nodup) {c : Cn} (hc : c ∈ T.cs) : findC T c.nm = some c := by
 obtain ⟨m, ws, cs⟩ := T
 unfold findC jX at *
 dsimp only at *
 induction cs with
 | nil => cases hc
 | cons d cs ih =>
  rw [List.map_cons, List.nodup_cons] at hn
  rw [List.find?_cons]
  rcases List.mem_cons.mp hc with rfl | hc
  ·rw [decide_eq_true rfl]
  ·have ne : ¬ d.nm = c.nm := fun e => hn.1 (e ▸ List.mem_map.mpr ⟨c, hc, rfl⟩)
   rw [decide_eq_false ne]
   exact ih hn.2 hc
def cellOf (T : Tb) (nm : Str) (r : List Nat) : Nat := match findC T nm with
 | some c => Tn.at' c.cs (Tn.place T.m r)
 | none => 0
theorem Qa.cell_lt {T : Tb} (g : Qa T) (hn : (jX T).Nodup) {c : Cn} (hc : c ∈ T.cs) {r : List Nat} (hr : Tn.Rw T.m c.pl r) : cellOf T c.nm r < T.m := by
 unfold cellOf
 rw [QH hn hc]
 exact (g.cn c hc).2.2.at_lt (Tn.place_lt _ _ hr)
def d0 : Cn := ⟨"", 0, []⟩
def xR (c : Cn) : List Key := [Sum.inr c.nm, Sum.inl (c.pl : Int)]
def IsCd (H : Hp) (d : Addr) (T : Tb) : Prop := ∃ kvs, H d = some (.dT kvs) /\ ∀ c ∈ T.cs, ∃ u, jE kvs (xR c) = some (.ref u) /\ H u = some (.tup (c.cs.map nV))
theorem IsCd.same {H H' : Hp} {d : Addr} {T : Tb} (h : IsCd H d T) (s : zF H H') : IsCd H' d T := by
 obtain ⟨kvs, h1, h2⟩ := h
 refine ⟨kvs, s _ _ h1, fun c hc => ?_⟩
 obtain ⟨u, e1, e2⟩ := h2 c hc
 exact ⟨u, e1, s _ _ e2⟩
def ctOf (T : Tb) (au : Nat -> Addr) (n : Nat) : List (List Key × V) := (List.range n).map fun i => (xR (T.cs.getD i d0), .ref (au i))
theorem ct_snoc (T : Tb) (au : Nat -> Addr) (n : Nat) : ctOf T au (n + 1) = ctOf T au n ++ [(xR (T.cs.getD n d0), .ref (au n))] := by
 unfold ctOf
 rw [List.range_succ, List.map_append]
 rfl
theorem Zw {ls : List (Str × Nat)} {x : Str} {o : Nat} (h : ls.lookup x = some o) : (x, o) ∈ ls := by
 induction ls with
 | nil => cases h
 | cons p ls ih =>
  obtain ⟨y, q⟩ := p
  rw [List.lookup_cons] at h
  by_cases e : x = y
  ·subst e
   rw [beq_self_eq_true] at h
   cases h
   exact List.mem_cons_self
  ·rw [beq_eq_false_iff_ne.mpr e] at h
   exact List.mem_cons_of_mem _ (ih h)
theorem ct_keys (T : Tb) (au : Nat -> Addr) : (ctOf T au T.cs.length).map Prod.fst = T.cs.map xR := by
 unfold ctOf
 rw [List.map_map]
 refine List.ext_getElem? fun i => ?_
 rw [List.getElem?_map, List.getElem?_map]
 by_cases hi : i < T.cs.length
 ·rw [List.getElem?_range hi, List.getElem?_eq_getElem hi]
  simp [List.getD, hi]
 ·rw [List.getElem?_eq_none (by rw [List.length_range]; omega), List.getElem?_eq_none (by omega)]
  rfl
theorem ct_nd {T : Tb} {au : Nat -> Addr} (h : (jX T).Nodup) : ((ctOf T au T.cs.length).map Prod.fst).Nodup := by
 rw [ct_keys]
 unfold jX at h
 unfold List.Nodup at h ⊢
 rw [List.pairwise_map] at h ⊢
 exact h.imp fun hab e => hab (by
  unfold xR at e
  exact Sum.inr.inj (List.cons.inj e).1)
namespace Sy
def sub : Sy -> List Sy
 | .ltr x => [.ltr x]
 | .n0 n => [.n0 n]
 | .n1 n a => .n1 n a :: a.sub
 | .n2 n a b => .n2 n a b :: (a.sub ++ b.sub)
end Sy
theorem Sy.sub_ps (s : Sy) : s.sub = s :: s.ps.flatMap Sy.sub := by
 cases s <;> simp [Sy.sub, Sy.ps]
theorem Sy.sub_len (s : Sy) : s.sub.length = s.sz := by
 induction s with
 | ltr x => rfl
 | n0 n => rfl
 | n1 n a ih => show a.sub.length + 1 = a.sz + 1; rw [ih]
 | n2 n a b iha ihb => show (a.sub ++ b.sub).length + 1 = a.sz + b.sz + 1; rw [List.length_append, iha, ihb]
theorem Sy.dp_sz (s : Sy) : s.dp <= s.sz := by
 induction s with
 | ltr x => exact Nat.zero_le _
 | n0 n => exact Nat.le_refl _
 | n1 n a ih => exact Nat.succ_le_succ ih
 | n2 n a b iha ihb => show max a.dp b.dp + 1 <= a.sz + b.sz + 1; omega
theorem Sy.ps_le (s : Sy) : s.ps.length <= 2 := by cases s <;> simp [Sy.ps]
def GSt (T : Tb) (L : List Str) : Sy -> Prop
 | .ltr x => x ∈ L
 | .n0 nm => ∃ c ∈ T.cs, c.nm = nm /\ c.pl = 0
 | .n1 nm a => (∃ c ∈ T.cs, c.nm = nm /\ c.pl = 1) /\ GSt T L a
 | .n2 nm a b => (∃ c ∈ T.cs, c.nm = nm /\ c.pl = 2) /\ GSt T L a /\ GSt T L b
theorem GSt.node {T : Tb} {L : List Str} {s : Sy} (h : GSt T L s) (hs : s.isL = false) : (∃ c ∈ T.cs, c.nm = s.nm /\ c.pl = s.ps.length) /\ ∀ a ∈ s.ps, GSt T L a := by
 cases s with
 | ltr x => cases hs
 | n0 nm => exact ⟨h, fun a ha => by cases ha⟩
 | n1 nm a => exact ⟨h.1, fun b hb => by rw [List.mem_singleton.mp hb]; exact h.2⟩
 | n2 nm a b =>
  refine ⟨h.1, fun c hc => ?_⟩
  rcases List.mem_cons.mp hc with rfl | hc
  ·exact h.2.1
  ·rw [List.mem_singleton.mp hc]
   exact h.2.2
theorem GSt.letter {T : Tb} {L : List Str} {s : Sy} (h : GSt T L s) (hs : s.isL = true) : s.nm ∈ L := by
 cases s with
 | ltr x => exact h
 | _ => cases hs
theorem GSt.of {T : Tb} {L : List Str} {c : Cn} {ss : List Sy} (hc : c ∈ T.cs) (hl : c.pl = ss.length) (h : ∀ a ∈ ss, GSt T L a) (h2 : ss.length <= 2) : GSt T L (Sy.mk c.nm ss) := by
 match ss, hl, h, h2 with
 | [], hl, _, _ => exact ⟨c, hc, rfl, hl⟩
 | [a], hl, h, _ => exact ⟨⟨c, hc, rfl, hl⟩, h a (by simp)⟩
 | [a, b], hl, h, _ => exact ⟨⟨c, hc, rfl, hl⟩, h a (by simp), h b (by simp)⟩
theorem GSt.sub {T : Tb} {L : List Str} : ∀ {s a : Sy}, GSt T L s -> a ∈ s.sub -> GSt T L a
 | .ltr x, a, h, ha => by rw [List.mem_singleton.mp ha]; exact h
 | .n0 n, a, h, ha => by rw [List.mem_singleton.mp ha]; exact h
 | .n1 n b, a, h, ha => by
  rcases List.mem_cons.mp ha with rfl | ha
  ·exact h
  ·exact GSt.sub h.2 ha
 | .n2 n b c, a, h, ha => by
  rcases List.mem_cons.mp ha with rfl | ha
  ·exact h
  ·rcases List.mem_append.mp ha with ha | ha
   ·exact GSt.sub h.2.1 ha
   ·exact GSt.sub h.2.2 ha
theorem GSt.mono {T : Tb} {L M : List Str} (k : ∀ x ∈ L, x ∈ M) : ∀ {s : Sy}, GSt T L s -> GSt T M s
 | .ltr x, h => k x h
 | .n0 n, h => h
 | .n1 n a, h => ⟨h.1, h.2.mono k⟩
 | .n2 n a b, h => ⟨h.1, h.2.1.mono k, h.2.2.mono k⟩
def Sy.lets : Sy -> List Str
 | .ltr x => [x]
 | .n0 _ => []
 | .n1 _ a => a.lets
 | .n2 _ a b => a.lets ++ b.lets
theorem GSt.lets {T : Tb} {L : List Str} : ∀ {s : Sy}, GSt T L s -> GSt T s.lets s
 | .ltr x, h => List.mem_singleton.mpr rfl
 | .n0 n, h => h
 | .n1 n a, h => ⟨h.1, h.2.lets⟩
 | .n2 n a b, h => ⟨h.1, h.2.1.lets.mono fun x hx => List.mem_append_left _ hx, h.2.2.lets.mono fun x hx => List.mem_append_right _ hx⟩
theorem GSt.lets_in {T : Tb} {L : List Str} : ∀ {s : Sy} {x : Str}, GSt T L s -> x ∈ s.lets -> x ∈ L
 | .ltr y, x, h, hx => by rw [List.mem_singleton.mp hx]; exact h
 | .n0 n, x, h, hx => by cases hx
 | .n1 n a, x, h, hx => GSt.lets_in (s := a) h.2 hx
 | .n2 n a b, x, h, hx => by
  rcases List.mem_append.mp hx with hx | hx
  ·exact GSt.lets_in h.2.1 hx
  ·exact GSt.lets_in h.2.2 hx
def ltrs (ss : List Sy) : List Str := ss.filterMap fun s => if s.isL = true then some s.nm else none
theorem wf (a b : List Sy) : ltrs (a ++ b) = ltrs a ++ ltrs b := List.filterMap_append
theorem QI : ∀ s : Sy, ltrs s.sub = s.lets
 | .ltr x => rfl
 | .n0 n => rfl
 | .n1 n a => QI a
 | .n2 n a b => by
  show ltrs (a.sub ++ b.sub) = _
  rw [wf, QI a, QI b]
  rfl
def grT (T : Tb) (γ : Str -> Nat) : Sy -> Nat
 | .ltr x => γ x
 | .n0 nm => cellOf T nm []
 | .n1 nm a => cellOf T nm [grT T γ a]
 | .n2 nm a b => cellOf T nm [grT T γ a, grT T γ b]
theorem grT_node {T : Tb} {γ : Str -> Nat} {s : Sy} (hs : s.isL = false) : grT T γ s = cellOf T s.nm (s.ps.map (grT T γ)) := by
 cases s with
 | ltr x => cases hs
 | _ => rfl
theorem Yk {T : Tb} {γ : Str -> Nat} {s : Sy} (hs : s.isL = true) : grT T γ s = γ s.nm := by
 cases s with
 | ltr x => rfl
 | _ => cases hs
theorem yz {T : Tb} (g : Qa T) (nd : (jX T).Nodup) {L : List Str} {γ : Str -> Nat} (hγ : ∀ x ∈ L, γ x < T.m) : ∀ {s : Sy}, GSt T L s -> grT T γ s < T.m
 | .ltr x, h => hγ x h
 | .n0 nm, ⟨c, hc, e, p⟩ => by
  show cellOf T nm [] < T.m
  rw [<- e]
  exact g.cell_lt nd hc ⟨p.symm, fun x hx => by cases hx⟩
 | .n1 nm a, ⟨⟨c, hc, e, p⟩, h⟩ => by
  show cellOf T nm [grT T γ a] < T.m
  rw [<- e]
  exact g.cell_lt nd hc ⟨p.symm, fun x hx => by rw [List.mem_singleton.mp hx]; exact yz g nd hγ h⟩
 | .n2 nm a b, ⟨⟨c, hc, e, p⟩, h1, h2⟩ => by
  show cellOf T nm [grT T γ a, grT T γ b] < T.m
  rw [<- e]
  refine g.cell_lt nd hc ⟨p.symm, fun x hx => ?_⟩
  rcases List.mem_cons.mp hx with rfl | hx
  ·exact yz g nd hγ h1
  ·rw [List.mem_singleton.mp hx]
   exact yz g nd hγ h2
theorem Zk {T : Tb} {γ δ : Str -> Nat} : ∀ {s : Sy}, (∀ x ∈ s.lets, γ x = δ x) -> grT T γ s = grT T δ s
 | .ltr x, h => h x (List.mem_singleton.mpr rfl)
 | .n0 nm, h => rfl
 | .n1 nm a, h => by
  show cellOf T nm [grT T γ a] = cellOf T nm [grT T δ a]
  rw [Zk (s := a) h]
 | .n2 nm a b, h => by
  show cellOf T nm [grT T γ a, grT T γ b] = cellOf T nm [grT T δ a, grT T δ b]
  rw [Zk (s := a) fun x hx => h x (List.mem_append_left _ hx), Zk (s := b) fun x hx => h x (List.mem_append_right _ hx)]
def Jj (T : Tb) (ls : List (Str × Nat)) : Sy -> Nat -> Prop
 | .ltr x, y => match ls.lookup x with
  | some o => y = o
  | none => y < T.m
 | .n0 nm, y => y = cellOf T nm []
 | .n1 nm a, y => ∃ p, Jj T ls a p /\ y = cellOf T nm [p]
 | .n2 nm a b, y => ∃ p q, Jj T ls a p /\ Jj T ls b q /\ y = cellOf T nm [p, q]
def Yx (T : Tb) (ls : List (Str × Nat)) : List Sy -> List Nat -> Prop := Paired (Jj T ls)
theorem Wi {T : Tb} {ls : List (Str × Nat)} {ss : List Sy} {r : List Nat} {s : Sy} {y : Nat} (h : Yx T ls ss r) (k : Jj T ls s y) : Yx T ls (ss ++ [s]) (r ++ [y]) := by
 unfold Yx at h ⊢
 induction h with
 | nil => exact .cons k .nil
 | cons z _ ih => exact .cons z ih
theorem Zl {T : Tb} {ls : List (Str × Nat)} {s : Sy} : ∀ {ss : List Sy} {r : List Nat}, Yx T ls (ss ++ [s]) r -> ∃ r' y, r = r' ++ [y] /\ Yx T ls ss r' /\ Jj T ls s y
 | [], _, .cons k .nil => ⟨[], _, rfl, .nil, k⟩
 | a :: ss, _, .cons k t => by
  obtain ⟨r', y, rfl, h1, h2⟩ := Zl (ss := ss) t
  exact ⟨_ :: r', y, rfl, .cons k h1, h2⟩
theorem yA {T : Tb} {ls : List (Str × Nat)} {s : Sy} (hs : s.isL = false) (y : Nat) : Jj T ls s y ↔ ∃ r, Yx T ls s.ps r /\ y = cellOf T s.nm r := by
 cases s with
 | ltr x => cases hs
 | n0 nm =>
  constructor
  ·intro h
   exact ⟨[], .nil, h⟩
  ·rintro ⟨r, h, e⟩
   cases h
   exact e
 | n1 nm a =>
  constructor
  ·rintro ⟨p, h, e⟩
   exact ⟨[p], .cons h .nil, e⟩
  ·rintro ⟨r, h, e⟩
   cases h with
   | cons k t =>
    cases t
    exact ⟨_, k, e⟩
 | n2 nm a b =>
  constructor
  ·rintro ⟨p, q, h, k, e⟩
   exact ⟨[p, q], .cons h (.cons k .nil), e⟩
  ·rintro ⟨r, h, e⟩
   cases h with
   | cons k t =>
    cases t with
    | cons k2 t =>
     cases t
     exact ⟨_, _, k, k2, e⟩
theorem Zx {T : Tb} {ls : List (Str × Nat)} {s : Sy} (hs : s.isL = true) (y : Nat) : Jj T ls s y ↔ (match ls.lookup s.nm with
  | some o => y = o
  | none => y < T.m) := by
 cases s with
 | ltr x => exact Iff.rfl
 | _ => cases hs
theorem yB {T : Tb} (g : Qa T) (nd : (jX T).Nodup) {L : List Str} {ls : List (Str × Nat)} (hls : ∀ p ∈ ls, p.2 < T.m) : ∀ {s : Sy} {y : Nat}, GSt T L s -> Jj T ls s y -> y < T.m
 | .ltr x, y, h, hy => by
  unfold Jj at hy
  cases e : ls.lookup x with
  | none =>
   rw [e] at hy
   exact hy
  | some o =>
   rw [e] at hy
   have hy : y = o := hy
   rw [hy]
   exact hls (x, o) (Zw e)
 | .n0 nm, y, ⟨c, hc, e, p⟩, hy => by
  have hy : y = cellOf T nm [] := hy
  rw [hy, <- e]
  exact g.cell_lt nd hc ⟨p.symm, fun x hx => by cases hx⟩
 | .n1 nm a, y, ⟨⟨c, hc, e, p⟩, h⟩, ⟨u, hu, hy⟩ => by
  rw [hy, <- e]
  exact g.cell_lt nd hc ⟨p.symm, fun x hx => by rw [List.mem_singleton.mp hx]; exact yB g nd hls h hu⟩
 | .n2 nm a b, y, ⟨⟨c, hc, e, p⟩, h1, h2⟩, ⟨u, v, hu, hv, hy⟩ => by
  rw [hy, <- e]
  refine g.cell_lt nd hc ⟨p.symm, fun x hx => ?_⟩
  rcases List.mem_cons.mp hx with rfl | hx
  ·exact yB g nd hls h1 hu
  ·rw [List.mem_singleton.mp hx]
   exact yB g nd hls h2 hv
def Keeps (γ : Str -> Nat) (ls : List (Str × Nat)) : Prop := ∀ p ∈ ls, γ p.1 = p.2
theorem Wj {T : Tb} {ls : List (Str × Nat)} {γ : Str -> Nat} (hγ : ∀ x, γ x < T.m) (k : Keeps γ ls) : ∀ (s : Sy), Jj T ls s (grT T γ s)
 | .ltr x => by
  unfold Jj
  cases e : ls.lookup x with
  | none => exact hγ x
  | some o => exact k (x, o) (Zw e)
 | .n0 nm => rfl
 | .n1 nm a => ⟨_, Wj hγ k a, rfl⟩
 | .n2 nm a b => ⟨_, _, Wj hγ k a, Wj hγ k b, rfl⟩
theorem Q9 {T : Tb} {ls : List (Str × Nat)} {γ : Str -> Nat} : ∀ {s : Sy} {y : Nat}, (∀ x ∈ s.lets, ls.lookup x = some (γ x)) -> Jj T ls s y -> y = grT T γ s
 | .ltr x, y, h, hy => by
  unfold Jj at hy
  rw [h x (List.mem_singleton.mpr rfl)] at hy
  exact hy
 | .n0 nm, y, h, hy => hy
 | .n1 nm a, y, h, ⟨p, hp, e⟩ => by
  rw [e, Q9 (s := a) h hp]
  rfl
 | .n2 nm a b, y, h, ⟨p, q, hp, hq, e⟩ => by
  rw [e, Q9 (fun x hx => h x (List.mem_append_left _ hx)) hp, Q9 (fun x hx => h x (List.mem_append_right _ hx)) hq]
  rfl
def Clo (T : Tb) (ls : List (Str × Nat)) (ps : List Sy) (S : Sy) : Prop := (∃ p ∈ ps, ∀ y, Jj T ls p y -> y ∉ T.ws) \/ ∀ y, Jj T ls S y -> y ∈ T.ws
def Bar (T : Tb) (γ : Str -> Nat) (ps : List Sy) (S : Sy) : Prop := (∀ p ∈ ps, grT T γ p ∈ T.ws) /\ grT T γ S ∉ T.ws
def Gd (T : Tb) (γ : Str -> Nat) : Prop := ∀ x, γ x < T.m
def FolL (T : Tb) (ls : List (Str × Nat)) (ps : List Sy) (S : Sy) : Prop := ∀ γ, Gd T γ -> Keeps γ ls -> ¬ Bar T γ ps S
def Fol (T : Tb) (ps : List Sy) (S : Sy) : Prop := ∀ γ, Gd T γ -> ¬ Bar T γ ps S
theorem fol_nil {T : Tb} {ps : List Sy} {S : Sy} : FolL T [] ps S ↔ Fol T ps S := ⟨fun h γ g => h γ g (fun p hp => by cases hp), fun h γ g _ => h γ g⟩
theorem clo_fol {T : Tb} {ls : List (Str × Nat)} {ps : List Sy} {S : Sy} (h : Clo T ls ps S) : FolL T ls ps S := fun γ g k b => by
 rcases h with ⟨p, hp, hn⟩ | h
 ·exact hn _ (Wj g k p) (b.1 p hp)
 ·exact b.2 (h _ (Wj g k S))
theorem bar_of {T : Tb} {ls : List (Str × Nat)} {ps : List Sy} {S : Sy} {γ : Str -> Nat} (h : ¬ Clo T ls ps S) (hp : ∀ p ∈ ps, ∀ x ∈ p.lets, ls.lookup x = some (γ x)) (hS : ∀ x ∈ S.lets, ls.lookup x = some (γ x)) : Bar T γ ps S := by
 refine ⟨fun p hpp => Classical.byContradiction fun hn => h (.inl ⟨p, hpp, fun y hy => ?_⟩), fun hn => h (.inr fun y hy => ?_)⟩
 ·rw [Q9 (hp p hpp) hy]
  exact hn
 ·rw [Q9 hS hy]
  exact hn
theorem xS {T : Tb} {ls : List (Str × Nat)} {ps : List Sy} {S : Sy} (x : Str) (h : ∀ o, o < T.m -> FolL T (ls ++ [(x, o)]) ps S) : FolL T ls ps S := fun γ g k => h (γ x) (g x) γ g fun p hp => by
 rcases List.mem_append.mp hp with hp | hp
 ·exact k p hp
 ·rw [List.mem_singleton.mp hp]
theorem Yl {γ : Str -> Nat} {ls ms : List (Str × Nat)} (h : Keeps γ (ls ++ ms)) : Keeps γ ls := fun p hp => h p (List.mem_append_left _ hp)
def Zm (H : Hp) (g : Addr) (ls : List (Str × Nat)) : Prop := ∃ kvs : List (Key × V), H g = some (.dK kvs) /\ Paired (fun (p : Str × Nat) (kv : Key × V) => kv.1 = Sum.inr p.1 /\ ∃ u, kv.2 = .ref u /\ H u = some (.tup [nV p.2])) ls kvs
theorem Zm.tk' {H H' : Hp} {g : Addr} {ls : List (Str × Nat)} (h : Zm H g ls) (k : Tk H H') (e : ∀ kvs, H g = some (.dK kvs) -> H' g = some (.dK kvs)) : Zm H' g ls := by
 obtain ⟨kvs, h1, h2⟩ := h
 refine ⟨kvs, e kvs h1, Paired.imp' (fun _ _ z => ?_) h2⟩
 obtain ⟨e1, u, e2, e3⟩ := z
 exact ⟨e1, u, e2, k _ _ e3⟩
theorem Zm.same {H H' : Hp} {g : Addr} {ls : List (Str × Nat)} (h : Zm H g ls) (s : zF H H') : Zm H' g ls := h.tk' (Tk.of s) fun kvs e => s _ _ e
theorem yC {H : Hp} {ls : List (Str × Nat)} {kvs : List (Key × V)} (h : Paired (fun (p : Str × Nat) (kv : Key × V) => kv.1 = Sum.inr p.1 /\ ∃ u, kv.2 = .ref u /\ H u = some (.tup [nV p.2])) ls kvs) (x : Str) :
  match ls.lookup x with
  | some o => ∃ u, jE kvs (Sum.inr x) = some (.ref u) /\ H u = some (.tup [nV o])
  | none => jE kvs (Sum.inr x) = none := by
 induction h with
 | nil => exact rfl
 | @cons p kv ls kvs r _ ih =>
  obtain ⟨e1, u, e2, e3⟩ := r
  obtain ⟨y, o⟩ := p
  rw [List.lookup_cons]
  by_cases e : x = y
  ·subst e
   rw [beq_self_eq_true]
   refine ⟨u, ?_, e3⟩
   rw [qt e1, e2]
  ·rw [beq_eq_false_iff_ne.mpr e, qh (by rw [e1]; intro z; exact e (Sum.inr.inj z).symm)]
   exact ih
theorem sets_put {ls : List (Str × Nat)} {kvs : List (Key × V)} {H : Hp} {x : Str} {v : V} (h : Paired (fun (p : Str × Nat) (kv : Key × V) => kv.1 = Sum.inr p.1 /\ ∃ u, kv.2 = .ref u /\ H u = some (.tup [nV p.2])) ls kvs) (hx : x ∉ ls.map Prod.fst) : j9 kvs (Sum.inr x) v = kvs ++ [(Sum.inr x, v)] := by
 unfold j9
 rw [if_neg]
 intro z
 obtain ⟨kv, hkv, e⟩ := List.any_eq_true.mp z
 refine hx ?_
 clear z
 induction h with
 | nil => cases hkv
 | @cons p kv' ls kvs r _ ih =>
  rcases List.mem_cons.mp hkv with rfl | hkv
  ·rw [List.map_cons]
   have e2 := of_decide_eq_true e
   rw [r.1] at e2
   exact List.mem_cons.mpr (.inl (Sum.inr.inj e2).symm)
  ·exact List.mem_cons_of_mem _ (ih (fun z => hx (List.mem_cons_of_mem _ z)) hkv)
theorem Ym {L : List Str} {ls : List (Str × Nat)} (nd : L.Nodup) (e : ls.map Prod.fst = L) {x : Str} (hx : x ∈ L) : ∃ o, ls.lookup x = some o := by
 rw [<- e] at hx
 obtain ⟨p, hp, rfl⟩ := List.mem_map.mp hx
 clear e nd
 induction ls with
 | nil => cases hp
 | cons q ls ih =>
  obtain ⟨y, o⟩ := q
  rw [List.lookup_cons]
  by_cases e : p.1 = y
  ·rw [e, beq_self_eq_true]
   exact ⟨o, rfl⟩
  ·rw [beq_eq_false_iff_ne.mpr e]
   rcases List.mem_cons.mp hp with rfl | hp
   ·exact absurd rfl e
   ·exact ih hp (List.mem_map.mpr ⟨p, hp, rfl⟩)
end L4
namespace L2
open PySem PySem.Spec PyProof.Rows
section
variable {prog : Program} {w : World} {A : Around} {E : Value -> Shared -> Prop} {s : Shared}
end
section
variable {X : Cx}
end
end L2
namespace L4
open PySem L2
end L4
namespace L2
open PySem PySem.Spec PyProof.Rows
section
variable {prog : Program} {w : World} {A : Around} {E : Value -> Shared -> Prop} {s : Shared}
variable {z TI TO i1 i2 t1 t2 : Addr} {xs ys : Array Value} {k : Nat} {a0 : Addr} {b : Bool}
variable {R : Result -> Shared -> Prop}
end
section
variable {X : Cx}
end
end L2
namespace L2
open PySem PySem.Spec PyProof.Rows
section
variable {X : Cx}
end
end L2
namespace L4
open PySem L2
end L4
namespace L2
open PySem PySem.Spec PyProof.Rows
section
variable {prog : Program} {w : World} {A : Around} {E : Value -> Shared -> Prop} {s : Shared}
variable {z TI TO i1 i2 t1 t2 : Addr} {xs ys : Array Value} {k1 k2 : Nat}
end
end L2
namespace L2
open PySem PySem.Spec PyProof.Rows
section
variable {X : Cx}
end
end L2
namespace L2
open PySem PySem.Spec PyProof.Rows
section
variable {prog : Program} {w : World} {A : Around} {R : Result -> Shared -> Prop}
end
section
variable {X : Cx}
end
end L2
namespace L2
open PySem PySem.Spec PyProof.Rows
theorem frz_at {P : Program} {w : World} {H : Hp} {h : Heap} {d : Addr} {kvs : List (Key × V)} {o : Obj} {es0 : Array DictEntry} {ep : Nat} (ok : HOk P w H h) (e : H d = some (.frz o (.dK kvs))) (hd : o.data = .dict es0 ep) : ∃ vs, KV kvs vs /\ h.DictAt (zE P w) d vs ep := by
 obtain ⟨e1, _, _, vs, rel, o', es, ep', e2, r1, r2, r3⟩ := (show qu P w H h d (.frz o (.dK kvs)) from ok d _ e)
 rw [e1] at e2
 obtain rfl := Option.some.inj e2
 have r2' := r2
 rw [hd] at r2'
 injection r2' with h1 h2
 subst h1 h2
 exact ⟨vs, rel, o, es0, e1, r1, hd, r3⟩
section
variable {X : Cx}
end
section
variable {prog : Program} {w : World} {A : Around} {E : Value -> Shared -> Prop} {s : Shared}
end
section
variable {X : Cx}
end
end L2
namespace L2
open PySem PySem.Spec PyProof.Rows
def Itv (d : Addr) (kvs : List (Key × V)) (o : Obj) : It :=
 ⟨fun i H => H d = some (.frz o (.dK kvs)) /\ i < kvs.length, fun i H x H' => H' = H /\ ∃ p, kvs[i]? = some p /\ x = p.2, fun i H => H d = some (.frz o (.dK kvs)) /\ kvs.length <= i⟩
theorem xT {P : Program} {w : World} {K : PySem.W.Frag} {tg : Expr} (d it : Addr) (kvs : List (Key × V)) (o : Obj) (es0 : Array DictEntry) (ep : Nat) (hd : o.data = .dict es0 ep) :
  Turn P w K tg (Itv d kvs o) [it] it (fun i h => h.IsValIter it d i kvs.length ep) where
 mem := by simp
 obj := fun i h st b hb => by
  have e : b = it := by simpa using hb
  subst e
  obtain ⟨o, e, c, d⟩ := st
  exact ⟨o, e, fun v z => by rw [d] at z; cases z⟩
 keep := fun i h h' st k => st.at fun o e => k it (by simp) o e
 item := by
  intro X hP hw hK hc i pins s σ H E I hf st hg
  subst hP hw hK
  obtain ⟨hq, hi⟩ := hg
  obtain ⟨vs, rel, da⟩ := frz_at I.hok hq hd
  have hl := rel.length
  obtain ⟨f0, f1, f2, f3, f4, f5⟩ := hf it (by simp)
  have hx : kvs[i]? = some kvs[i] := List.getElem?_eq_getElem hi
  have hv : vs[i]? = some vs[i] := List.getElem?_eq_getElem (by omega)
  have hr := (Paired.at rel i _ _ hx hv).2
  rw [hl] at st
  refine wpAny_pyNext_values_item st da hv fun h' st' sb => ?_
  have I1 : Inv X pins σ H { s with heap := h' } := I.turned (t' := s.toks) (fun b o hb e => (sb.2 b hb).trans e) f0 f1 f3 f4 f5
  rw [<- hl] at st'
  obtain ⟨o2, e, c, d2⟩ := id st'
  exact ⟨_, rfl, YF (s := { s with heap := h' }) e c d2 (by decide) ⟨kvs[i].2, H, I1, hr, ⟨rfl, _, hx, rfl⟩, st', fun b hb => (hf b hb).1⟩⟩
 done := by
  intro X hP hw hK hc i pins s σ H E I hf st hg
  subst hP hw hK
  obtain ⟨hq, hi⟩ := hg
  obtain ⟨vs, rel, da⟩ := frz_at I.hok hq hd
  have hl := rel.length
  obtain ⟨f0, f1, f2, f3, f4, f5⟩ := hf it (by simp)
  rw [hl] at st
  exact wpAny_pyNext_values_end (I.ok.hd hc) st da (by simp; omega) fun h' eb => ⟨rfl, I.turned (t' := s.toks) (fun b o hb e => eb b o hb e) f0 f1 f3 f4 f5⟩
 self := fun _ _ _ _ _ st h => wpAny_pyIter_valiter st h
section
variable {X : Cx}
def iVals (te : TE) : TI := fun σ H R => te σ H fun x H1 => ∃ d kvs, x = .ref d /\ H1 d = some (.dK kvs) /\ ∀ o, R (Itv d kvs o) (upd H1 d (.frz o (.dK kvs)))
theorem pi_vals {tg o : Expr} {apos cpos : Pos} {to : TE} (ho : PE X o to) (hbase : attributeBase o "values" X.env (eval o X.env) = eval o X.env := by rfl) (hline : (apos.endLine == cpos.line) = true := by rfl) :
  PI X tg (.Call (.Attribute o "values" apos) [] [] cpos) (iVals to) := by
 intro pins s σ H R I h
 refine wpAny_Call_method0_late hbase hline (thn (ho pins s σ H _ I h) fun v s1 ⟨x, H1, I1, rx, d, kvs, ex, hd, q⟩ => ?_)
 subst ex
 obtain ⟨h1, h2⟩ := YW I1 rx (show tyV X.K "dict" (.ref d) H1 from .inr (.inr (.inl ⟨rfl, .inl ⟨kvs, hd⟩⟩)))
 obtain rfl : v = Value.ref d := rx
 obtain ⟨z, hb, vs, rel, dd⟩ := xg I1.hok hd
 obtain ⟨ob, es, ep, e1, r1, r2, r3⟩ := id dd
 have hl2 := rel.length
 refine ⟨"dict", "dict.values", PySem.F.plainAttrs_dict, PySem.F.slot_dict_values, PySem.F.type_dict_values, h1, h2, Calls.callWith_builtin rfl (PySem.evalArgs_none ?_)⟩
 refine call_meetsIn PySem.F.slot_dict_values dd.typeIs PySem.F.entry_dict_values (PySem.F.args_dict_values_1 _) (meets_dict_values (zE X.prog X.w) d hb) ⟨⟨vs, dd⟩, ?_⟩
 have up : ∀ b o, s1.heap.get? b = some o -> (s1.heap.push { cls := .type "dict_values", data := .fields #[.ref d] }).get? b = some o := fun b o e => Heap.get?_push_of_some _ e
 have da : (s1.heap.push { cls := .type "dict_values", data := .fields #[.ref d] }).DictAt (zE X.prog X.w) d vs ep := ⟨ob, es, up _ _ e1, r1, r2, r3⟩
 refine wpAny_pyIter_values (s := { s1 with heap := s1.heap.push { cls := .type "dict_values", data := .fields #[.ref d] } }) ⟨_, Heap.get?_push_size _ rfl, rfl, rfl⟩ da ?_
 have I2 : Inv X pins σ (upd H1 d (.frz ob (.dK kvs))) { s1 with heap := s1.heap, toks := s1.toks } := I1.write (x := d) (e := d) (t' := s1.toks) (o := .frz ob (.dK kvs)) (by rw [hd]; exact True.intro) (.inl rfl) (fun b u _ e => e) ⟨ob, e1⟩ ⟨e1, z, hb, vs, rel, ob, es, ep, e1, r1, r2, r3⟩
 have I3 : Inv X pins σ (upd H1 d (.frz ob (.dK kvs))) { s1 with heap := (s1.heap.push { cls := .type "dict_values", data := .fields #[.ref d] }).push { cls := .type "dict_valueiterator", data := .fields #[.ref d, .int 0 0, .int vs.length 0, .int ep 0] } } := I2.kept (t' := s1.toks) fun _ _ e => Heap.get?_push_of_some _ (up _ _ e)
 have sz : (s1.heap.push { cls := .type "dict_values", data := .fields #[.ref d] }).objs.size = s1.heap.objs.size + 1 := Heap.size_push ..
 have hle : s1.heap.objs.size <= (s1.heap.push { cls := .type "dict_values", data := .fields #[.ref d] }).objs.size := by rw [sz]; exact Nat.le_succ _
 have hn : (upd H1 d (.frz ob (.dK kvs))) (s1.heap.push { cls := .type "dict_values", data := .fields #[.ref d] }).objs.size = none := I2.hok.fresh hle
 refine ⟨(s1.heap.push { cls := .type "dict_values", data := .fields #[.ref d] }).objs.size, [(s1.heap.push { cls := .type "dict_values", data := .fields #[.ref d] }).objs.size], _, Itv d kvs ob, _, rfl, I3, xT d _ kvs ob es ep r2, ⟨_, Heap.get?_push_size _ rfl, rfl, by rw [hl2]; rfl⟩, fun b hb => ?_, q ob⟩
 have eb : b = (s1.heap.push { cls := .type "dict_values", data := .fields #[.ref d] }).objs.size := by simpa using hb
 rw [eb]
 exact I1.fpOk hle hn
theorem xU {d : Addr} {kvs : List (Key × V)} {ob : Obj} {t : Nat} {tt : TT} {te : TE} {σ0 : St} {H1 : Hp} {Q : VK} {D : Addr} (P : Nat -> List V -> Hp -> Prop) (h0 : P 0 [] (upd H1 D (.lst []))) (hl : ∀ i ys H, P i ys H -> H D = some (.lst ys) -> H d = some (.frz ob (.dK kvs)))
  (hs : ∀ i ys H p, kvs[i]? = some p -> P i ys H -> H D = some (.lst ys) -> tt (σ0.set t (some p.2)) H fun b H4 => if b = true then te (σ0.set t (some p.2)) H4 (cYes (wT t σ0) P kvs.length D (σ0.set t (some p.2)) i) else cNo (wT t σ0) P kvs.length D (σ0.set t (some p.2)) i H4)
  (hd : ∀ ys H, P kvs.length ys H -> H D = some (.lst ys) -> Q (.ref D) H) :
  ZA (Itv d kvs ob) (Za t) tt te σ0 H1 Q D := by
 have get : ∀ i, i < kvs.length -> kvs[i]? = some (kvs.getD i (Sum.inl 0, .non)) := fun i hi => by simp [List.getD, hi]
 refine Zu (xv := fun i => (kvs.getD i (Sum.inl 0, .non)).2) (st := fun i => σ0.set t (some (kvs.getD i (Sum.inl 0, .non)).2)) (wT t σ0) P Y2 h0 (fun i ys H hi p hD => ⟨⟨hl i ys H p hD, hi⟩, fun x H2 y => ⟨y.1, ?_⟩⟩) (fun ys H p hD => ⟨hl _ ys H p hD, Nat.le_refl _⟩)
  (fun i _ σ' H K _ r _ k => by show K (σ'.set t (some _)) H; rw [r]; exact k) (fun i ys H hi p hD => hs i ys H _ (get i hi) p hD) hd
 obtain ⟨_, p, e1, e2⟩ := y
 rw [get i hi] at e1
 rw [e2, <- Option.some.inj e1]
end
end L2
namespace L2
open PySem PySem.Spec PyProof.Rows
section
variable {X : Cx}
def rEqCl : R2 := fun x y H Q => ∃ a b c d rest, x = .ref a /\ y = .ref b /\ H a = some (.tup (.str d :: rest)) /\ H b = some (.tup [.str c]) /\ Q (.bl (decide (d = c) && rest.isEmpty)) H
theorem op_eqCl {k : Nat} (hr : ZS k X.A) : OpR X (compareOp .Eq) rEqCl := by
 intro pins s σ H x y v u Q I rx ry h
 obtain ⟨a, b, c, d, rest, rfl, rfl, ha, hb, q⟩ := h
 cases rx
 cases ry
 have hu : X.A.units + 64 < cLine := hr.units
 obtain ⟨_, us, q1, p1⟩ := I.hok a _ ha
 obtain ⟨_, vs, q2, p2⟩ := I.hok b _ hb
 cases q1 with
 | @cons _ u1 _ us1 r1 q1 =>
  cases q2 with
  | @cons _ v1 _ vs1 r2 q2 =>
   cases q2
   have l1 := q1.length
   have z := SeqAt.RcAt.tuples (A := X.A) (s := s) (e := fun _ => decide (d = c)) p1.isTup p2.isTup (by omega) (fun j h1 h2 => by
    have hj : j = 0 := by
     have : j < 1 := by simpa using h2
     omega
    subst hj
    show SeqAt.EqAt _ _ u1 v1 _
    have e := yg (A := X.A.in1) (s := s) r1 r2 rfl rfl
    have e2 : eqV (.str d) (.str c) = decide (d = c) := by
     by_cases h : d = c
     ·rw [h]; simp [eqV]
     ·rw [decide_eq_false h]; simp [eqV]; exact h
    rw [e2] at e
    exact e)
   have e : ((List.range (min (u1 :: us1).toArray.size [v1].toArray.size)).all (fun _ => decide (d = c)) && (u1 :: us1).toArray.size == [v1].toArray.size) = (decide (d = c) && rest.isEmpty) := by
    have s1 : (u1 :: us1).toArray.size = us1.length + 1 := by simp
    have s2 : [v1].toArray.size = 1 := rfl
    rw [s1, s2, show min (us1.length + 1) 1 = 1 by omega, <- l1]
    cases rest with
    | nil => simp
    | cons y ys => simp
   rw [e] at z
   exact z X.prog X.w _ _ ⟨.bl _, H, I, rfl, q⟩
def rNeSm : R2 := fun x y H Q => ∃ a b xs, x = .ref a /\ y = .ref b /\ H a = some (.lst xs) /\ H b = some (.lst xs) /\ (∀ v ∈ xs, Qh v = true \/ ∃ p, v = .ref p) /\ Q (.bl false) H
theorem op_neSm {k : Nat} (hr : ZS k X.A) : OpR X (compareOp .NotEq) rNeSm := by
 intro pins s σ H x y v u Q I rx ry h
 obtain ⟨a, b, xs, rfl, rfl, ha, hb, hv, q⟩ := h
 cases rx
 cases ry
 have hu : X.A.units + 64 < cLine := hr.units
 obtain ⟨us, r1, pl1, _⟩ := I.list (SqL.of (K := X.K) ha)
 obtain ⟨vs, r2, pl2, _⟩ := I.list (SqL.of (K := X.K) hb)
 have l1 := r1.length
 have l2 := r2.length
 refine SeqAt.RcNeAt.lists pl1.isList pl2.isList (e := fun _ => true) (by simp; omega) (by omega) (fun j h1 h2 => ?_) X.prog X.w _ _ ⟨.bl _, H, I, rfl, ?_⟩
 ·have g1 : j < us.length := by simpa using h1
  have g2 : j < vs.length := by simpa using h2
  have jx : xs[j]? = some xs[j] := List.getElem?_eq_getElem (by omega)
  obtain ⟨u1, e1, q1⟩ := r1.get jx
  obtain ⟨u2, e2, q2⟩ := r2.get jx
  have w1 : us.toArray[j] = u1 := by
   rw [List.getElem?_eq_getElem g1] at e1
   simpa using Option.some.inj e1
  have w2 : vs.toArray[j] = u2 := by
   rw [List.getElem?_eq_getElem g2] at e2
   simpa using Option.some.inj e2
  rw [w1, w2]
  rcases hv _ (List.mem_of_getElem? jx) with f | ⟨p, e⟩
  ·have z := yg (A := X.A.in1) (s := s) q1 q2 f f
   rw [eqV_self f] at z
   exact z
  ·rw [e] at q1 q2
   cases q1
   cases q2
   exact SeqAt.EqAt.same _
 ·rw [show (!((List.range us.toArray.size).all fun _ => true)) = false by simp]
  exact q
end
section
variable {prog : Program} {w : World} {A : Around} {E : Value -> Shared -> Prop} {s : Shared}
theorem Jo {id : String} {a b : Addr} {ka kb : List (Key × Value)} {Q : Bool -> Shared -> Prop} {e : Nat -> Bool} (sa : (a == sysModules) = false) (sb : (b == sysModules) = false) (da : s.heap.DictOf (zE prog w) a ka) (db : s.heap.DictOf (zE prog w) b kb)
  (hk : ka.map Prod.fst = kb.map Prod.fst) (he : ∀ (i : Nat) (x y : Key × Value), ka[i]? = some x -> kb[i]? = some y -> SeqAt.EqAt A s x.2 y.2 (e i)) (h : Q ((List.range ka.length).all e) s) :
  wpAny (model prog w) A (Builtin.Dict.samePairs id a b) Q E s := by
 obtain ⟨oa, ea, pa, ha, _, hda, kka, pra, na⟩ := da
 obtain ⟨ob, eb, pb, hb, _, hdb, kkb, prb, nb⟩ := db
 have lk : ka.length = kb.length := by have := congrArg List.length hk; simpa using this
 have la : ea.size = ka.length := by have := pra.length; simpa using this
 have lb : eb.size = kb.length := by have := prb.length; simpa using this
 unfold Builtin.Dict.samePairs Builtin.Dict.showsAll
 rw [if_neg (by rw [sa]; exact Bool.false_ne_true), if_neg (by rw [sb]; exact Bool.false_ne_true)]
 refine wpAny_bind (wpAny_pure ?_)
 refine wpAny_bind (wpAny_pure ?_)
 refine wpAny_bind (wpAny_dictEntries ha hda ?_)
 refine wpAny_bind (wpAny_dictEntries hb hdb ?_)
 dsimp only
 rw [if_neg (by rw [la, lb, lk]; simp)]
 refine wpAny_bind (wpAny_dictEpoch ha hda ?_)
 refine wpAny_bind ?_
 rw [Std.Legacy.Range.forIn_eq_forIn_range']
 simp only [Std.Legacy.Range.size, Nat.sub_zero, Nat.add_sub_cancel, Nat.div_one]
 refine wpAny_forIn_list _ (fun rest' r s' => s' = s /\ r = (none, ()) /\ ∃ i, rest' = List.range' i (ea.size - i) /\ i <= ea.size /\ (List.range i).all e = true) _ ?_ ?_ _ _ ⟨rfl, rfl, 0, by simp, Nat.zero_le _, rfl⟩
 ·rintro x rest' _ s' ⟨rfl, rfl, i, hr, hi, hall⟩
  have hlt : i < ea.size := by
   rcases Nat.lt_or_ge i ea.size with h | h
   ·exact h
   ·rw [Nat.sub_eq_zero_of_le h] at hr; simp at hr
  obtain ⟨rfl, hrest⟩ : x = i /\ rest' = List.range' (i + 1) (ea.size - (i + 1)) := by
   have e : ea.size - i = (ea.size - (i + 1)) + 1 := by omega
   rw [e, List.range'_succ] at hr
   injection hr with h1 h2
   exact ⟨h1, h2⟩
  have hltb : x < eb.size := by omega
  obtain ⟨kv, hkv, is1, v1⟩ := pairs_at pra x ea[x] (by simp [hlt])
  obtain ⟨kv2, hkv2, is2, v2⟩ := pairs_at prb x eb[x] (by simp [hltb])
  have ekk : kv.1 = kv2.1 := by
   have h1 := congrArg (fun l => l[x]?) hk
   simp only [List.getElem?_map, hkv, hkv2] at h1
   exact Option.some.inj h1
  obtain ⟨k', hk', hh⟩ := kka ea[x] (Array.getElem_mem hlt)
  obtain rfl : k' = kv.1 := (zE prog w).inj _ _ _ hk' is1
  have hidx : (eb.findIdx? fun e => (zE prog w).is kv.1 e.key) = some x := by
   have e1 := prb.findIdx kv.1
   rw [ekk, JE kb nb x kv2 hkv2] at e1
   rw [ekk, <- e1]
   obtain ⟨l⟩ := eb
   simp
  refine wpAny_bind (wpAny_dictEntries ha hda ?_)
  simp only [Array.getElem?_eq_getElem hlt]
  refine wpAny_bind (wpAny_holding (wpAny_bind ?_))
  rw [hh]
  refine wpAny_dictFind_of (k := kv.1) is1 hb hdb kkb ?_
  rw [hidx]
  refine wpAny_bind (wpAny_dictEntries hb hdb ?_)
  simp only [Array.getElem?_eq_getElem hltb]
  refine wpAny_holding ?_
  rw [v1, v2]
  refine he x kv kv2 hkv hkv2 prog w _ _ ?_
  cases hex : e x with
  | true =>
   simp only [Bool.not_true, Bool.false_eq_true, if_false]
   refine wpAny_bind (wpAny_dictEpoch ha hda ?_)
   simp only [bne_self_eq_false, Bool.false_eq_true, if_false]
   refine wpAny_pure ⟨rfl, rfl, x + 1, hrest, hlt, ?_⟩
   rw [List.range_succ, List.all_append, hall]
   simp [hex]
  | false =>
   simp only [Bool.not_false, if_true]
   refine wpAny_pure ?_
   refine wpAny_pure ?_
   have : (List.range ka.length).all e = false := by
    cases ha : (List.range ka.length).all e with
    | false => rfl
    | true =>
     have := List.all_eq_true.mp ha x (List.mem_range.mpr (by omega))
     rw [hex] at this
     cases this
   rw [this] at h
   exact h
 ·rintro _ s' ⟨rfl, rfl, i, hr, hi, hall⟩
  have e0 : i = ka.length := by
   have h1 := congrArg List.length hr
   simp at h1
   omega
  rw [e0] at hall
  rw [hall] at h
  exact wpAny_pure h
theorem xV {a b : Addr} {ka kb : List (Key × Value)} {Q : Value -> Shared -> Prop} {e : Nat -> Bool} (sa : (a == sysModules) = false) (sb : (b == sysModules) = false) (da : s.heap.DictOf (zE prog w) a ka) (db : s.heap.DictOf (zE prog w) b kb)
  (hk : ka.map Prod.fst = kb.map Prod.fst) (he : ∀ (A : Around) (i : Nat) (x y : Key × Value), ka[i]? = some x -> kb[i]? = some y -> SeqAt.EqAt A s x.2 y.2 (e i)) (hu : A.units < cLine) (h : Q (.bool ((List.range ka.length).all e)) s) :
  wpAny (model prog w) A (richCompare .Eq (.ref a) (.ref b)) Q E s := by
 have ta : s.TypeIs (.ref a) "dict" := let ⟨o, _, _, ho, hc, _⟩ := da; ⟨o, ho, hc.1⟩
 have tb : s.TypeIs (.ref b) "dict" := let ⟨o, _, _, ho, hc, _⟩ := db; ⟨o, ho, hc.1⟩
 have m : MeetsIn prog w (Builtin.«dict.__eq__» ⟨[.ref a, .ref b], []⟩) (fun _ R s' => s' = s /\ R (.ok (.ret (.bool ((List.range ka.length).all e)))) s) := .of_wp fun A R s' ⟨es, h⟩ => by
  subst es
  show wpAny _ _ (Builtin.Dict.dictSlotArgs "__eq__" ⟨[.ref a, .ref b], []⟩ >>= _) _ _ _
  refine wpAny_bind ?_
  unfold Builtin.Dict.dictSlotArgs
  refine wpAny_bind (wpAny_notOrdered_dict ta ?_)
  show wpAny _ _ (pure (Value.ref a, Value.ref b)) _ _ _
  refine wpAny_pure ?_
  refine wpAny_bind (wpAny_isInstance tb (by kernel_rfl : isSubtype (.type "dict") (.type "dict") = pure true) ?_)
  simp only [Bool.not_true, Bool.false_eq_true, if_false]
  refine wpAny_bind (wpAny_pure ?_)
  refine wpAny_bind (wpAny_pure ?_)
  refine wpAny_bind (Jo sa sb da db hk (he _) ?_)
  exact wpAny_pure ⟨_, rfl, by simpa using h⟩
 exact wpAny_richCompare_same_room (op := .Eq) ta tb F.slot_dict_eq (call_meetsIn F.slot_dict_eq ta F.entry_dict_eq (F.args_dict_eq_2 _ _) m ⟨rfl, show Value.bool ((List.range ka.length).all e) ≠ Value.notImplemented /\ Q (.bool ((List.range ka.length).all e)) s from ⟨(fun x => nomatch x), h⟩⟩) hu
theorem xW {R : Result -> Shared -> Prop} {l : Addr} {items : Array Value} {x : Value} {e : Nat -> Bool} (hl : s.heap.IsList l items) (he : ∀ (i : Nat) (v : Value), items[i]? = some v -> ∀ (Q : Bool -> Shared -> Prop) (E : Value -> Shared -> Prop), Q (e i) s -> wpAny (model prog w) A.in1 (eqBool v x) Q E s) :
  ∀ (k i : Nat), items.size - i = k -> i <= items.size -> R (.ok (.ret (.bool ((List.range' i (items.size - i)).any e)))) s -> codeAny (model prog w) A (.builtin "list.__contains__.loop" ⟨[.ref l, x, rawInt i], []⟩) R s := by
 obtain ⟨o, ho, hc, n, hd⟩ := hl
 intro k
 induction k with
 | zero =>
  intro i hk hi hR
  refine codeAny_builtin PySem.MeetsSeq.entry_contains_loop ?_
  rw [Around.under_plainId PySem.MeetsSeq.plain_contains_loop _]
  show wpAny _ A.in1 (Builtin.List.listItems (.ref l) >>= _) _ _ s
  refine wpAny_bind ?_
  unfold Builtin.List.listItems
  refine wpAny_bind (wpAny_seqItems ho hd (wpAny_pure ?_))
  have hn : items[((i : Nat) : Int).toNat]? = none := by
   rw [Int.toNat_natCast]
   exact Array.getElem?_eq_none (by omega)
  rw [hn]
  rw [hk] at hR
  exact wpAny_pure hR
 | succ k ih =>
  intro i hk hi hR
  have hlt : i < items.size := by omega
  refine codeAny_builtin PySem.MeetsSeq.entry_contains_loop ?_
  rw [Around.under_plainId PySem.MeetsSeq.plain_contains_loop _]
  show wpAny _ A.in1 (Builtin.List.listItems (.ref l) >>= _) _ _ s
  refine wpAny_bind ?_
  unfold Builtin.List.listItems
  refine wpAny_bind (wpAny_seqItems ho hd (wpAny_pure ?_))
  have hn : items[((i : Nat) : Int).toNat]? = some items[i] := by
   rw [Int.toNat_natCast]
   exact Array.getElem?_eq_getElem hlt
  rw [hn]
  refine wpAny_bind (he i _ (Array.getElem?_eq_getElem hlt) _ _ ?_)
  rw [show items.size - i = (items.size - (i + 1)) + 1 by omega, List.range'_succ, List.any_cons] at hR
  cases hex : e i with
  | true =>
   rw [hex, Bool.true_or] at hR
   simp only [if_true]
   exact wpAny_pure hR
  | false =>
   rw [hex, Bool.false_or] at hR
   simp only [Bool.false_eq_true, if_false]
   refine wpAny_pure ⟨plainId_quiet PySem.MeetsSeq.plain_contains_loop _, ?_⟩
   have := ih (i + 1) (by omega) (by omega) hR
   simpa [rawInt] using this
theorem xX {l : Addr} {items : Array Value} {x : Value} {Q : Value -> Shared -> Prop} {e : Nat -> Bool} (hl : s.heap.IsList l items) (he : ∀ (i : Nat) (v : Value), items[i]? = some v -> ∀ (Q : Bool -> Shared -> Prop) (E : Value -> Shared -> Prop), Q (e i) s -> wpAny (model prog w) A.in1 (eqBool v x) Q E s)
  (h : Q (.bool (!((List.range items.size).any e))) s) : wpAny (model prog w) A (compareOp .NotIn x (.ref l)) Q E s := by
 obtain ⟨o, ho, hc, n, hd⟩ := id hl
 have ty : s.TypeIs (.ref l) "list" := ⟨o, ho, hc⟩
 have m : MeetsIn prog w (Builtin.«list.__contains__» ⟨[.ref l, x], []⟩) (fun A' R s' => A' = A /\ s' = s /\ R (.ok (.ret (.bool ((List.range items.size).any e)))) s) := fun A' R s' ⟨eA, es, hR⟩ => by
  subst eA es
  unfold Builtin.«list.__contains__»
  refine wpAny_bind (m := slotArgs "__contains__" 1 _) (wpAny_pure ?_)
  refine wpAny_pure ⟨plainId_quiet PySem.MeetsSeq.plain_contains_loop _, ?_⟩
  refine xW (e := e) hl he items.size 0 (by omega) (Nat.zero_le _) ?_
  rw [Nat.sub_zero, <- List.range_eq_range']
  exact hR
 show wpAny _ A (do return .bool (!(<- contains (.ref l) x))) Q E s
 refine wpAny_bind (wpAny_contains_slot ty F.slot_list_contains (wpAny_mono (call_meetsIn F.slot_list_contains ty F.entry_list_contains (F.args_list_contains_2 _ _) m (E := E) (Q := fun v s' => ∃ b, v = .bool b /\ Q (.bool (!b)) s') ⟨rfl, rfl, _, rfl, h⟩) (fun v s' hv => ?_) fun _ _ e => e))
 obtain ⟨b, rfl, hq⟩ := hv
 exact wpAny_truthy_bool (wpAny_pure hq)
end
theorem all_vals {ds kvs : List (Key × V)} (z : Key × V) (hk : ds.map Prod.fst = kvs.map Prod.fst) : (List.range ds.length).all (fun j => decide ((ds.getD j z).2 = (kvs.getD j z).2)) = decide (ds = kvs) := by
 have lk : ds.length = kvs.length := by have := congrArg List.length hk; simpa using this
 rw [Bool.eq_iff_iff, decide_eq_true_iff, List.all_eq_true]
 constructor
 ·intro h
  refine List.ext_getElem? fun i => ?_
  by_cases hi : i < ds.length
  ·have e1 : ds[i]? = some (ds.getD i z) := by simp [List.getD, hi]
   have e2 : kvs[i]? = some (kvs.getD i z) := by simp [List.getD, show i < kvs.length by omega]
   have h1 := congrArg (fun l => l[i]?) hk
   simp only [List.getElem?_map, e1, e2] at h1
   have h2 : (ds.getD i z).1 = (kvs.getD i z).1 := Option.some.inj h1
   have h3 := of_decide_eq_true (h i (List.mem_range.mpr hi))
   rw [e1, e2, Prod.ext h2 h3]
  ·rw [List.getElem?_eq_none (by omega), List.getElem?_eq_none (by omega)]
 ·rintro rfl j _
  simp
theorem any_rng {α : Type} (xs : List α) (f : α -> Bool) (z : α) : (List.range xs.length).any (fun i => f (xs.getD i z)) = xs.any f := by
 rw [Bool.eq_iff_iff, List.any_eq_true, List.any_eq_true]
 constructor
 ·rintro ⟨i, hi, h⟩
  have hi' := List.mem_range.mp hi
  exact ⟨xs.getD i z, List.mem_of_getElem? (i := i) (by simp [List.getD, hi']), h⟩
 ·rintro ⟨x, hx, h⟩
  obtain ⟨i, hi⟩ := List.mem_iff_getElem?.mp hx
  refine ⟨i, List.mem_range.mpr (List.getElem?_eq_some_iff.mp hi).1, ?_⟩
  rw [List.getD_eq_getElem?_getD, hi]
  exact h
section
variable {X : Cx}
def Ints (kvs : List (Key × V)) : Prop := ∀ p ∈ kvs, ∃ n : Int, p.2 = .int n
def rNotInD (K : PySem.W.Frag) : R2 := fun x y H Q => ∃ d l kvs ys, ∃ dss : List (List (Key × V)), x = .ref d /\ y = .ref l /\ H d = some (.dK kvs) /\ SqL K H l ys /\ Paired (fun ds v => ∃ p, v = .ref p /\ H p = some (.dK ds) /\ ds.map Prod.fst = kvs.map Prod.fst /\ Ints ds) dss ys /\ Ints kvs /\ Q (.bl (!(dss.any fun ds => decide (ds = kvs)))) H
theorem xY (K : PySem.W.Frag) {k : Nat} (hr : ZS k X.A) (hK : X.K = K := by rfl) : OpR X (compareOp .NotIn) (rNotInD K) := by
 subst hK
 intro pins s σ H x y v u Q I rx ry h
 obtain ⟨d, l, kvs, ys, dss, rfl, rfl, hd, hl, hP, hi, q⟩ := h
 cases rx
 cases ry
 have hu : X.A.units + 64 < cLine := hr.units
 obtain ⟨its, rv, pl, hz⟩ := I.list hl
 obtain ⟨_, sd, vs, rel, dd⟩ := xg I.hok hd
 have l1 := rv.length
 have l2 := Paired.length hP
 refine xX (e := fun i => decide (dss.getD i [] = kvs)) pl.isList (fun i v hv Q' E' hq => ?_) ⟨.bl _, H, I, rfl, ?_⟩
 ·have g1 : its[i]? = some v := by simpa using hv
  have hlt := (List.getElem?_eq_some_iff.mp g1).1
  have jy : ys[i]? = some ys[i] := List.getElem?_eq_getElem (by omega)
  have jd : dss[i]? = some (dss.getD i []) := by simp [List.getD, show i < dss.length by omega]
  generalize dss.getD i [] = ds at hq jd
  obtain ⟨p, ep, hp, hkk, hint⟩ := Paired.at hP i _ _ jd jy
  obtain ⟨u1, e1, q1⟩ := rv.get jy
  rw [g1] at e1
  obtain rfl := Option.some.inj e1
  rw [ep] at q1
  cases q1
  by_cases hpd : p = d
  ·subst hpd
   rw [hp] at hd
   have e2 : ds = kvs := HO.dK.inj (Option.some.inj hd)
   rw [decide_eq_true e2] at hq
   exact SeqAt.EqAt.same _ X.prog X.w _ _ hq
  ·obtain ⟨_, sp, vp, relp, dp⟩ := xg I.hok hp
   unfold eqBool
   refine wpAny_holding ?_
   refine wpAny_ite_split (fun hab => absurd (by have := eq_of_beq hab; injection this) hpd) (fun _ => ?_)
   have lp := relp.length
   have ld := rel.length
   refine wpAny_bind (xV (e := fun j => decide ((ds.getD j (Sum.inl 0, .non)).2 = (kvs.getD j (Sum.inl 0, .non)).2)) sp sd dp dd ?_ (fun A' j x y hx hy => ?_) (by show X.A.units + 1 < cLine; omega) (wpAny_truthy_bool ?_))
   ·have k1 := relp.keys
    have k2 := rel.keys
    exact k1.symm.trans (hkk.trans k2)
   ·have hj := (List.getElem?_eq_some_iff.mp hx).1
    have lkk : ds.length = kvs.length := by have := congrArg List.length hkk; simpa using this
    have a1 : ds[j]? = some (ds.getD j (Sum.inl 0, .non)) := by simp [List.getD, show j < ds.length by omega]
    have a2 : kvs[j]? = some (kvs.getD j (Sum.inl 0, .non)) := by simp [List.getD, show j < kvs.length by omega]
    have r1 := (Paired.at relp j _ _ a1 hx).2
    have r2 := (Paired.at rel j _ _ a2 hy).2
    obtain ⟨n1, f1⟩ := hint _ (List.mem_of_getElem? a1)
    obtain ⟨n2, f2⟩ := hi _ (List.mem_of_getElem? a2)
    rw [f1] at r1
    rw [f2] at r2
    have z := yg (A := A') (s := s) r1 r2 rfl rfl
    rw [show eqV (.int n1) (.int n2) = decide (V.int n1 = V.int n2) by
     by_cases h : n1 = n2
     ·rw [h]; simp [eqV]
     ·rw [decide_eq_false (fun e => h (V.int.inj e))]; simp [eqV]; exact h] at z
    rw [f1, f2]
    exact z
   ·rw [<- lp, all_vals _ hkk]
    exact hq
 ·rw [show its.toArray.size = dss.length by simp; omega, any_rng dss (fun ds => decide (ds = kvs)) []]
  exact q
end
end L2
namespace L2
open PySem PySem.Spec PyProof.Rows
section
variable {X : Cx} {pins : List (Addr × Obj)} {σ : List (Option V)} {H : Hp} {s : Shared}
theorem Inv.thaw {d : Addr} {o : Obj} {u : HO} (I : Inv X pins σ H s) (hd : H d = some (.frz o u)) (hn : ∀ o u, X.H₀ d ≠ some (.frz o u)) : Inv X pins σ (upd H d u) s := by
 have nn : ∀ b, H b = none -> b ≠ d := fun b e z => by rw [z, hd] at e; cases e
 have nt : ∀ b xs, H b = some (.tup xs) -> b ≠ d := fun b xs e z => by rw [z, hd] at e; cases e
 have nb : ∀ b ps, H b = some (.tbl ps) -> b ≠ d := fun b xs e z => by rw [z, hd] at e; cases e
 have no : ∀ b a, H b = some (.own a) -> b ≠ d := fun b xs e z => by rw [z, hd] at e; cases e
 refine ⟨I.ok, I.os, I.bare, ⟨I.base.keep, I.base.slot, fun b ob q n hx => ?_, I.base.there, fun b xs q => ?_, fun b ob v q => ?_, fun b ps q => ?_⟩, I.loc, I.cell, ?_, fun x c e => ?_, fun p hp => ?_, fun b v q => ?_, I.len⟩
 ·have := I.base.free b ob q n hx
  rw [zn (nn b this)]
  exact this
 ·have := I.base.tups b xs q
  rw [zn (nt b _ this)]
  exact this
 ·have h1 := I.base.frzs b ob v q
  have nd : b ≠ d := fun z => hn ob v (by rw [<- z]; exact q)
  rw [zn nd]
  exact h1
 ·obtain ⟨more, e⟩ := I.base.tbls b ps q
  exact ⟨more, by rw [zn (nb b _ e)]; exact e⟩
 ·rw [zn (nn _ I.free)]
  exact I.free
 ·rw [zn (nn _ (I.freeC x c e))]
  exact I.freeC x c e
 ·obtain ⟨h1, h2, h3⟩ := I.pin p hp
  exact ⟨h1, by rw [zn (nn _ h2)]; exact h2, h3⟩
 ·have st : ∀ b v, qu X.prog X.w H s.heap b v -> qu X.prog X.w (upd H d u) s.heap b v := fun b v k => k.stay (fun _ _ _ e => e) (fun c e => by rw [zn (no c _ e)]; exact e) fun c xs e => by rw [zn (nt c _ e)]; exact e
  by_cases hb : b = d
  ·subst hb
   rw [zd] at q
   cases q
   obtain ⟨_, k⟩ := (show qu X.prog X.w H s.heap b (.frz o u) from I.hok b _ hd)
   exact st b u k
  ·rw [zn hb] at q
   exact st b v (I.hok b v q)
end
section
variable {X : Cx}
def tThaw (te : TE) : TE := fun σ H Q => ∃ d kvs, H d = some (.dK kvs) /\ te σ H fun x H' => ∃ o, H' d = some (.frz o (.dK kvs)) /\ Q x (upd H' d (.dK kvs))
theorem pe_thaw {e : Expr} {te : TE} (he : PE X e te) : PE X e (tThaw te) := by
 intro pins s σ H Q I h
 obtain ⟨d, kvs, hd, h⟩ := h
 refine thn (he pins s σ H _ I h) fun v s1 ⟨x, H1, I1, rx, o, hf, q⟩ => ⟨x, _, I1.thaw hf (fun o' u z => ?_), rx, q⟩
 have := I.base.frzs d o' u z
 rw [hd] at this
 cases this
def rEqNil (K : PySem.W.Frag) : R2 := fun x y H Q => ∃ p q xs, x = .ref p /\ y = .ref q /\ SqL K H p xs /\ SqL K H q [] /\ Q (.bl xs.isEmpty) H
theorem op_eqNil (K : PySem.W.Frag) {k : Nat} (hr : ZS k X.A) (hK : X.K = K := by rfl) : OpR X (compareOp .Eq) (rEqNil K) := by
 subst hK
 intro pins s σ H x y v u Q I rx ry h
 obtain ⟨p, q, xs, rfl, rfl, h1, h2, hq⟩ := h
 cases rx
 cases ry
 obtain ⟨us, r1, pl1, _⟩ := I.list h1
 obtain ⟨vs, r2, pl2, _⟩ := I.list h2
 have hu : X.A.units < cLine := Nat.lt_of_succ_lt (hu_of hr)
 cases r2
 cases xs with
 | nil =>
  cases r1
  exact SeqAt.RcAt.lists (e := fun _ => true) pl1.isList pl2.isList rfl hu (fun j h _ => absurd h (Nat.not_lt_zero _)) X.prog X.w _ _ ⟨.bl _, H, I, rfl, hq⟩
 | cons x xs =>
  have l1 := r1.length
  exact SeqAt.RcAt.lists_lengths pl1.isList pl2.isList (by simp at l1 ⊢; intro z; rw [z] at l1; cases l1) hu X.prog X.w _ _ ⟨.bl _, H, I, rfl, hq⟩
end
end L2
namespace L2
open PySem PySem.Spec PyProof.Rows
structure xZ (N' : List Str) (scope : Scope) (N2 : List Str) (ix : List (Option Nat)) (scope2 : Scope) : Prop where
 kind : scope2.kind = .function
 nocell : ∀ y ∈ scope2.names, y.2 ≠ .cell
 locs : ∀ y ∈ scope2.names, y.2 = .local -> scope2.names.lookup y.1 = some .local
 frees : ∀ z ∈ scope2.names, z.2 = .free -> scope.names.lookup z.1 = some .free
 nd : N2.Nodup
 len : ix.length = N2.length
 cap : (ix.zip N2).all (Y0 N' scope2) = true
theorem Xa {X : Cx} {N' : List Str} {scope : Scope} {C : Addr} {fp : List Addr} {s₀ : Shared} {H₀ : Hp} {N2 : List Str} {ix : List (Option Nat)} {scope2 : Scope} (h : xZ N' scope N2 ix scope2) :
  zN (qS X N' scope C fp s₀ H₀).N (qS X N' scope C fp s₀ H₀).env.scope N2 ix scope2 := by
 refine ⟨h.kind, h.nocell, h.locs, fun z hz hk => ?_, h.nd, h.len, h.cap⟩
 show (relabel scope X.env).names.lookup z.1 = some .cell \/ (relabel scope X.env).names.lookup z.1 = some .free
 rw [jN, h.frees z hz hk]
 simp only [Option.map_some, relK]
 split
 ·exact .inl rfl
 ·exact .inr rfl
end L2
namespace K19
open PySem L2 L4
local macro_rules | `(tactic| walk_at "hp") => `(tactic| first | assumption | exact zd | (rw [zn (by first | assumption | exact Ne.symm (by assumption) | exact zx (by assumption) (by assumption) | exact Ne.symm (zx (by assumption) (by assumption)))]; walk_at "hp"))
local macro_rules | `(tactic| walk_at "r1") => `(tactic| first | refine ⟨_, rfl, ?_⟩ | refine .inl ⟨_, _, _, _, rfl, rfl, SqL.of (by walk_at "hp"), rfl, ?_⟩ | refine .inr (.inl ⟨_, _, _, _, rfl, rfl, SqT.of (by walk_at "hp"), rfl, ?_⟩) | refine ⟨_, _, rfl, rfl, ?_⟩ | refine ⟨(show CMul _ _ from .inr ⟨by omega, by omega⟩), ?_⟩ | refine ⟨(show CMul _ _ from .inl ⟨by omega, by omega⟩), ?_⟩ | refine ⟨(show CDiv _ _ from ⟨by omega, by omega⟩), ?_⟩ | refine ⟨(show CPow _ _ from ⟨by decide, by decide, by decide⟩), ?_⟩ | refine ⟨(show (0 : Int) < _ by omega), ?_⟩ | refine ⟨_, _, _, _, rfl, rfl, (by walk_at "hp"), rfl, ?_⟩)
local macro_rules | `(tactic| walk_at "rd") => `(tactic| repeat walk_at "r1")
local macro_rules | `(tactic| walk_at "dc") => `(tactic| first | refine WE ?_ | refine ZU ?_ | refine iteDT (by decide +kernel) ?_ | refine iteDF (by decide +kernel) ?_ | refine ⟨_, rfl, rfl, _, rfl, ?_⟩)
local macro_rules | `(tactic| walk_at "ds") => `(tactic| repeat walk_at "dc")
local macro_rules | `(tactic| walk_at "v") => `(tactic| first | exact Or.inl rfl | exact Or.inr (Or.inl rfl) | exact Or.inr (Or.inr rfl))
local macro_rules | `(tactic| walk_at "f") => `(tactic| first | exact .inl rfl | exact .inr rfl | assumption)
def jC : Str := Str.ofString "abcdefghijklmnopqrstuvwxyz"
theorem Zn : jC.cps.toList.length = 26 := by decide +kernel
theorem alpha_nd : jC.cps.toList.Nodup := by decide +kernel
theorem ZO : ∀ c ∈ jC.cps.toList, 97 <= c /\ c <= 122 := by decide +kernel
theorem alpha_at {v : Int} (h0 : 0 <= v) (h1 : v < 26) : ∃ c, atI jC.cps.toList v = some c /\ 97 <= c /\ c <= 122 := by
 have hl := Zn
 have hv : v.toNat < jC.cps.toList.length := by omega
 have e : v = ((v.toNat : Nat) : Int) := by omega
 refine ⟨jC.cps.toList[v.toNat], ?_, ZO _ (List.getElem_mem hv)⟩
 have q := jM (List.getElem?_eq_getElem hv)
 rw [<- e] at q
 exact q
def Xb : Sp := fun vs H Q _ => ∃ (p l : Addr) (ns : List Str), vs = [.ref p, .ref l] /\ jh H p /\ H l = some (.lst (ns.map .str)) /\ ns.length <= 8 /\ ∀ x H', Off p H H' -> jh H' p -> x ∉ ns -> Zg x -> Q (.str x) H'
def WR : Sp := fun vs H Q _ => ∃ (p : Addr) (m pl often : Int), vs = [.ref p, .int m, .int pl, .int often] /\ jh H p /\ 1 <= m /\ m <= 9 /\ 0 <= pl /\ pl <= 2 /\ 0 <= often /\ often < 1000 /\
 ∀ (t : Addr) (cs : List (Option Int)) (H' : Hp), Off p H H' -> jh H' p -> H' t = some (.tup (cs.map Zz)) -> (cs.length : Int) = m ^ pl.toNat -> (∀ o ∈ cs, wX m o) -> (often = 0 -> ∀ o ∈ cs, o ≠ none) -> Q (.ref t) H'
def Xc : Sp := fun vs H Q _ => ∃ (p : Addr) (most conn often : Int), vs = [.ref p, .int most, .int conn, .int often] /\ jh H p /\ 1 <= most /\ most <= 9 /\ 0 <= conn /\ conn <= 8 /\ 0 <= often /\ often < 1000 /\
 ∀ v T H', Off p H H' -> jh H' p -> IsHalf H' v T -> Good T -> (often = 0 -> Full T) -> T.m <= most -> (T.cs.length : Int) <= conn -> Q v H'
theorem Yn {m pl : Int} (h1 : 1 <= m) (h9 : m <= 9) (p0 : 0 <= pl) (p2 : pl <= 2) : ∃ n : Int, atI [V.int 1, V.int m, V.int (m * m)] pl = some (.int n) /\ 0 <= n /\ n <= 81 /\ n = m ^ pl.toNat := by
 have hm : m * m <= 81 := Int.le_trans (Int.mul_le_mul_of_nonneg_right h9 (by omega)) (by omega)
 have hm0 : 0 <= m * m := Int.mul_nonneg (by omega) (by omega)
 have e : pl = 0 \/ pl = 1 \/ pl = 2 := by omega
 rcases e with rfl | rfl | rfl
 ·exact ⟨1, rfl, by omega, by omega, (by show 1 = m ^ 0; rw [Int.pow_zero])⟩
 ·exact ⟨m, rfl, by omega, by omega, (by show m = m ^ 1; rw [Int.pow_succ, Int.pow_zero, Int.one_mul])⟩
 ·exact ⟨m * m, rfl, hm0, hm, (by show m * m = m ^ 2; rw [Int.pow_succ, Int.pow_succ, Int.pow_zero, Int.one_mul])⟩
theorem at4 {v : Int} (h0 : 0 <= v) (h1 : v < 4) : ∃ n : Int, atI [V.int 1, V.int 2, V.int 2, V.int 0] v = some (.int n) /\ 0 <= n /\ n <= 2 := by
 have e : v = 0 \/ v = 1 \/ v = 2 \/ v = 3 := by omega
 rcases e with rfl | rfl | rfl | rfl
 ·exact ⟨1, rfl, by omega, by omega⟩
 ·exact ⟨2, rfl, by omega, by omega⟩
 ·exact ⟨2, rfl, by omega, by omega⟩
 ·exact ⟨0, rfl, by omega, by omega⟩
theorem at2 {v : Int} (h0 : 0 <= v) (h1 : v < 2) : ∃ z : Str, atI [V.str "grades", V.str "wished"] v = some (.str z) /\ Zg z := by
 have e : v = 0 \/ v = 1 := by omega
 rcases e with rfl | rfl
 ·exact ⟨_, rfl, JC.1⟩
 ·exact ⟨_, rfl, JC.2⟩
def WS (c : Nat) : Str := ⟨#[c]⟩
theorem yD : ∀ ds : List Nat, ((ds.map WS).map (·.length)).sum = ds.length
 | [] => rfl
 | d :: ds => by
  rw [List.map_cons, List.map_cons, List.sum_cons, yD ds, List.length_cons]
  show 1 + ds.length = _
  omega
theorem Xd {ds : List Nat} (h : ∀ d ∈ ds, 97 <= d /\ d <= 122) (h2 : 2 <= ds.length) (h8 : ds.length <= 8) : Zg (PySem.Txt.join (Str.ofString "") (ds.map WS)) := by
 have e : (PySem.Txt.join (Str.ofString "") (ds.map WS)).cps.toList = ds := WF ds
 have hl := ZY (PySem.Txt.join (Str.ofString "") (ds.map WS))
 rw [e] at hl
 exact ⟨by omega, by omega, fun c hc => h c (by rw [e] at hc; exact hc)⟩
theorem at0 {x : V} {us : List V} : atI (x :: us) 0 = some x := jM (j := 0) rfl
theorem jY {xs : List V} (h : 1 <= xs.length) : Yw xs (some 1) none = xs.drop 1 := by
 unfold Yw
 rw [show HT.sIx xs.length 0 (some 1) = 1 by rw [show (1 : Int) = ((1 : Nat) : Int) from rfl, HT.sIx_nat]; omega, HT.sIx_none]
 exact List.take_of_length_le (by rw [List.length_drop]; omega)
theorem JR {K : PySem.W.Frag} {H : Hp} {a : Addr} {xs : List V} {lo hi : Option Int} {Q : VK} (ha : H a = some (.tup xs)) (F : ∀ t H', zF H H' -> H' t = some (.tup (Yw xs lo hi)) -> Q (.ref t) H') : rSlT K (.ref a) lo hi H Q \/ rSlTW K (.ref a) lo hi H Q := by
 by_cases h : HT.sIx xs.length 0 lo = 0 /\ HT.sIx xs.length xs.length hi = xs.length
 ·refine .inr ⟨a, xs, rfl, SqT.of ha, h, F a H (zF.refl H) ?_⟩
  unfold Yw
  rw [h.1, h.2, List.drop_zero, Nat.sub_zero, List.take_length]
  exact ha
 ·exact .inl ⟨a, xs, rfl, SqT.of ha, h, fun p hp => F p _ (zg hp _) zd⟩
theorem catA_of {K : PySem.W.Frag} {H : Hp} {a b : Addr} {xs ys : List V} {Q : VK} (ha : H a = some (.tup xs)) (hb : H b = some (.tup ys)) (hz : xs.length + ys.length <= 1000) (F : ∀ t H', zF H H' -> H' t = some (.tup (xs ++ ys)) -> Q (.ref t) H') : rCatA K (.ref a) (.ref b) H Q :=
 ⟨a, b, xs, ys, rfl, rfl, SqT.of ha, SqT.of hb, zu hz, fun z => F b H (zF.refl H) (by rw [z]; exact hb), fun _ z => F a H (zF.refl H) (by rw [z, List.append_nil]; exact ha), fun _ _ p hp => F p _ (zg hp _) zd⟩
def Ls (L : List Str) : Prop := ∀ x ∈ L, Ltr x
def WT : Sp := fun vs H Q _ => ∃ x : Str, vs = [.str x] /\ Y9 x /\ x.length <= 8 /\ ∀ H', zF H H' -> Q (.bl true) H'
def Yo : Sp := fun vs H Q _ => ∃ (v : V) (s : Sy), vs = [v] /\ jF H s v /\ (s.isL = true -> Ltr s.nm) /\ ∀ H', zF H H' -> Q (.bl s.isL) H'
theorem Xe {α : Type} {f : α -> Nat} (xs : List α) (h : ∀ x, 1 <= f x) : xs.length <= (xs.map f).sum := by
 induction xs with
 | nil => exact Nat.le_refl _
 | cons x xs ih =>
  rw [List.length_cons, List.map_cons, List.sum_cons]
  have := h x
  omega
def Xf : Sp := fun vs H Q _ => ∃ (ps gs : Addr) (m : Nat) (P G : List Nat), vs = [.ref ps, nV m, .ref gs] /\ m <= 9 /\ H ps = some (.lst (P.map nV)) /\ H gs = some (.lst (G.map nV)) /\ P.length <= 9 /\ G.length <= 9 /\ ∀ l H', zF H H' -> H' l = some (.lst ((P.flatMap fun p => G.map fun g => p * m + g).map nV)) -> Q (.ref l) H'
def wB (s : Sy) : Prop := ∀ x ∈ s.lets, Ltr x
theorem wB.part {s a : Sy} (h : wB s) (ha : a ∈ s.ps) : wB a := by
 cases s with
 | ltr x => cases ha
 | n0 n => cases ha
 | n1 n b =>
  rw [List.mem_singleton.mp ha]
  exact h
 | n2 n b c =>
  rcases List.mem_cons.mp ha with rfl | ha
  ·exact fun x hx => h x (List.mem_append_left _ hx)
  ·rw [List.mem_singleton.mp ha]
   exact fun x hx => h x (List.mem_append_right _ hx)
theorem wB.isl {s : Sy} (h : wB s) (hs : s.isL = true) : Ltr s.nm := by
 cases s with
 | ltr x => exact h x (List.mem_singleton.mpr rfl)
 | _ => cases hs
theorem wB.of {T : Tb} {L : List Str} {s : Sy} (hL : Ls L) (h : GSt T L s) : wB s := fun x hx => hL x (h.lets_in hx)
theorem wB.sub : ∀ {s a : Sy}, wB s -> a ∈ s.sub -> wB a
 | .ltr x, a, h, ha => by rw [List.mem_singleton.mp ha]; exact h
 | .n0 n, a, h, ha => by rw [List.mem_singleton.mp ha]; exact h
 | .n1 n b, a, h, ha => by
  rcases List.mem_cons.mp ha with rfl | ha
  ·exact h
  ·exact wB.sub (s := b) h ha
 | .n2 n b c, a, h, ha => by
  rcases List.mem_cons.mp ha with rfl | ha
  ·exact h
  ·rcases List.mem_append.mp ha with ha | ha
   ·exact wB.sub (s := b) (fun x hx => h x (List.mem_append_left _ hx)) ha
   ·exact wB.sub (s := c) (fun x hx => h x (List.mem_append_right _ hx)) ha
def SyS (H : Hp) (ps : List (V × Sy)) : Prop := ∀ z ∈ ps, wB z.2 /\ jF H z.2 z.1
theorem SyS.same {H H' : Hp} (s : zF H H') {ps : List (V × Sy)} (h : SyS H ps) : SyS H' ps := fun z hz => ⟨(h z hz).1, (h z hz).2.same s⟩
theorem SyS.paired {H : Hp} : ∀ {ps : List (V × Sy)}, SyS H ps -> Paired (jF H) (ps.map Prod.snd) (ps.map Prod.fst)
 | [], _ => .nil
 | z :: ps, h => .cons (h z List.mem_cons_self).2 (SyS.paired fun y hy => h y (List.mem_cons_of_mem _ hy))
theorem Yp {H : Hp} {ss : List Sy} {us : List V} (h : Paired (jF H) ss us) (g : ∀ a ∈ ss, wB a) : SyS H (us.zip ss) /\ (us.zip ss).map Prod.fst = us /\ (us.zip ss).map Prod.snd = ss := by
 induction h with
 | nil => exact ⟨(fun z hz => by cases hz), rfl, rfl⟩
 | @cons a u ss us r _ ih =>
  obtain ⟨i1, i2, i3⟩ := ih fun b hb => g b (List.mem_cons_of_mem _ hb)
  refine ⟨fun z hz => ?_, ?_, ?_⟩
  ·rcases List.mem_cons.mp hz with rfl | hz
   ·exact ⟨g _ (List.mem_cons_self ..), r⟩
   ·exact i1 z hz
  ·rw [List.zip_cons_cons, List.map_cons, i2]
  ·rw [List.zip_cons_cons, List.map_cons, i3]
theorem jO : ∀ s : Sy, s.lets.length <= s.sz
 | .ltr x => Nat.le_refl _
 | .n0 n => Nat.zero_le _
 | .n1 n a => Nat.le_succ_of_le (jO a)
 | .n2 n a b => by
  have h1 := jO a
  have h2 := jO b
  show (a.lets ++ b.lets).length <= a.sz + b.sz + 1
  rw [List.length_append]
  omega
theorem Zo : ∀ ps : List (V × Sy), (∀ z ∈ ps, z.2.sz <= 63) -> (ps.flatMap fun z => z.2.lets).length <= 63 * ps.length
 | [], _ => Nat.zero_le _
 | z :: ps, h => by
  have h1 := Zo ps fun y hy => h y (List.mem_cons_of_mem _ hy)
  have h2 := jO z.2
  have h3 := h z List.mem_cons_self
  rw [List.flatMap_cons, List.length_append, List.length_cons]
  omega
theorem Xg {T : Tb} (g : Qa T) (nd : (jX T).Nodup) {L : List Str} {ls : List (Str × Nat)} (hls : ∀ p ∈ ls, p.2 < T.m) {ss : List Sy} {r : List Nat} (h : Yx T ls ss r) (hg : ∀ a ∈ ss, GSt T L a) : Tn.Rw T.m ss.length r := by
 unfold Yx at h
 induction h with
 | nil => exact ⟨rfl, fun x hx => by cases hx⟩
 | @cons a y ss r k _ ih =>
  obtain ⟨h1, h2⟩ := ih fun b hb => hg b (List.mem_cons_of_mem _ hb)
  refine ⟨by rw [List.length_cons, List.length_cons, h1], fun x hx => ?_⟩
  rcases List.mem_cons.mp hx with rfl | hx
  ·exact yB g nd hls (hg a List.mem_cons_self) k
  ·exact h2 x hx
theorem no_non (xs : List Nat) : inV .non (xs.map nV) = false := by
 induction xs with
 | nil => rfl
 | cons x xs ih => exact ih
theorem Ja {α : Type} (xs : List α) (f : α -> Bool) : (xs.map fun y => V.bl (f y)) = (xs.map f).map V.bl := by rw [List.map_map]; rfl
theorem Xh {ls : List (Str × Nat)} (nd : (ls.map Prod.fst).Nodup) {p : Str × Nat} (hp : p ∈ ls) : ls.lookup p.1 = some p.2 := by
 induction ls with
 | nil => cases hp
 | cons q ls ih =>
  obtain ⟨y, o⟩ := q
  rw [List.map_cons, List.nodup_cons] at nd
  rw [List.lookup_cons]
  rcases List.mem_cons.mp hp with rfl | hp
  ·rw [beq_self_eq_true]
  ·have ne : ¬ p.1 = y := fun e => nd.1 (e ▸ List.mem_map.mpr ⟨p, hp, rfl⟩)
   rw [beq_eq_false_iff_ne.mpr ne]
   exact ih nd.2 hp
theorem yE : ∀ (ps acc : List (Key × V)), ((acc ++ ps).map Prod.fst).Nodup -> putAll acc ps = acc ++ ps
 | [], acc, _ => by rw [List.append_nil]; rfl
 | p :: ps, acc, nd => by
  show putAll (j9 acc p.1 p.2) ps = _
  have e : j9 acc p.1 p.2 = acc ++ [p] := by
   unfold j9
   rw [if_neg]
   intro z
   obtain ⟨kv, hkv, e⟩ := List.any_eq_true.mp z
   rw [List.map_append, List.map_cons] at nd
   have := (List.nodup_append.mp nd).2.2 kv.1 (List.mem_map.mpr ⟨kv, hkv, rfl⟩) p.1 List.mem_cons_self
   exact this (of_decide_eq_true e)
  rw [e, yE ps (acc ++ [p]) (by rw [List.append_assoc]; exact nd), List.append_assoc]
  rfl
theorem gkv_put {L : List Str} (nd : L.Nodup) (γ : Str -> Nat) : putAll [] (L.map fun x => ((Sum.inr x : Key), nV (γ x))) = L.map fun x => (Sum.inr x, nV (γ x)) := by
 rw [yE _ [] ?_, List.nil_append]
 rw [List.nil_append, List.map_map]
 unfold List.Nodup at nd ⊢
 rw [List.pairwise_map]
 exact nd.imp fun hab e => hab (Sum.inr.inj e)
def yF : Sp := fun vs H Q _ => ∃ (v : V) (s : Sy), vs = [v] /\ jF H s v /\ wB s /\ s.sz <= 63 /\ ∀ l us H', zF H H' -> H' l = some (.lst us) -> Paired (jF H') s.sub us -> Q (.ref l) H'
def wg : Sp := fun vs H Q _ => ∃ (l : Addr) (ps : List (V × Sy)) (L0 : List Str), vs = [.ref l] /\ H l = some (.lst (ps.map Prod.fst)) /\ SyS H ps /\ ps.length <= 15 /\ (∀ z ∈ ps, z.2.sz <= 63 /\ ∀ x ∈ z.2.lets, x ∈ L0) /\ L0.length <= 60 /\ ∀ (k : Addr) (L : List Str) (H' : Hp), zF H H' -> H' k = some (.lst (L.map V.str)) -> L.Nodup -> (∀ x, x ∈ L ↔ ∃ z ∈ ps, x ∈ z.2.lets) -> PyProof.Rows.sortedS L = true -> Q (.ref k) H'
def WU : Sp := fun vs H Q _ => ∃ (g u : Addr) (x : Str) (o : Nat) (ls : List (Str × Nat)), vs = [.ref g, .str x, .ref u] /\ Zm H g ls /\ ls.length <= 60 /\ x ∉ ls.map Prod.fst /\ H u = some (.tup [nV o]) /\ ∀ g' H', zF H H' -> Zm H' g' (ls ++ [(x, o)]) -> Q (.ref g') H'
def spCbn : Sp := fun vs H Q _ => ∃ (v : V) (T : Tb), vs = [v] /\ yy H v T /\ Qa T /\ (jX T).Nodup /\ ∀ e H', zF H H' -> IsCd H' e T -> Q (.ref e) H'
def Xi : Sp := fun vs H Q _ => ∃ (e l : Addr) (us : List V) (ss : List Sy) (T : Tb) (L : List Str), vs = [.ref e, .ref l] /\ IsCd H e T /\ H l = some (.lst us) /\ Paired (jF H) ss us /\ (∀ s ∈ ss, GSt T L s) /\ Ls L /\ ∀ H', zF H H' -> Q .non H'
def yG : Nat -> Sp
 | 0 => fun _ _ _ _ => False
 | j + 1 => fun vs H Q _ => ∃ (e g : Addr) (v : V) (T : Tb) (L : List Str) (s : Sy) (ls : List (Str × Nat)), vs = [.ref e, nV T.m, v, .ref g] /\ IsCd H e T /\ Qa T /\ (jX T).Nodup /\ jF H s v /\ GSt T L s /\ Ls L /\ Zm H g ls /\ (∀ p ∈ ls, p.2 < T.m) /\ s.dp <= j /\ ∀ (l : Addr) (xs : List Nat) (H' : Hp), zF H H' -> H' l = some (.lst (xs.map nV)) -> (∀ y, y ∈ xs ↔ Jj T ls s y) -> xs.length <= 9 -> Q (.ref l) H'
structure Ask (H : Hp) (v : V) (pl : Addr) (sv : V) (T : Tb) (L : List Str) (ps : List (V × Sy)) (S : Sy) : Prop where
 tb : yy H v T
 gt : Qa T
 nd : (jX T).Nodup
 hp : H pl = some (.lst (ps.map Prod.fst))
 pn : ps.length <= 14
 ps : ∀ z ∈ ps, GSt T L z.2 /\ z.2.dp <= 10 /\ z.2.sz <= 63 /\ jF H z.2 z.1
 sv : jF H S sv
 gs : GSt T L S
 sd : S.dp <= 10
 sz : S.sz <= 63
 hL : Ls L
 ln : L.length <= 5
theorem Ask.same {H H' : Hp} {v : V} {pl : Addr} {sv : V} {T : Tb} {L : List Str} {ps : List (V × Sy)} {S : Sy} (a : Ask H v pl sv T L ps S) (s : zF H H') : Ask H' v pl sv T L ps S :=
 ⟨a.tb.same s, a.gt, a.nd, s _ _ a.hp, a.pn, (fun z hz => by obtain ⟨h1, h2, h3, h4⟩ := a.ps z hz; exact ⟨h1, h2, h3, h4.same s⟩), a.sv.same s, a.gs, a.sd, a.sz, a.hL, a.ln⟩
theorem Ask.lets {H : Hp} {v : V} {pl : Addr} {sv : V} {T : Tb} {L M : List Str} {ps : List (V × Sy)} {S : Sy} (a : Ask H v pl sv T L ps S) (h1 : ∀ x ∈ M, x ∈ L) (h2 : ∀ z ∈ ps, ∀ x ∈ z.2.lets, x ∈ M) (h3 : ∀ x ∈ S.lets, x ∈ M) (hl : M.length <= 5) : Ask H v pl sv T M ps S :=
 ⟨a.tb, a.gt, a.nd, a.hp, a.pn, (fun z hz => by obtain ⟨k1, k2, k3, k4⟩ := a.ps z hz; exact ⟨k1.lets.mono (h2 z hz), k2, k3, k4⟩), a.sv, a.gs.lets.mono h3, a.sd, a.sz, fun x hx => a.hL x (h1 x hx), hl⟩
def wj : Sp := fun vs H Q _ => ∃ (v : V) (pl g : Addr) (sv : V) (T : Tb) (L : List Str) (ps : List (V × Sy)) (S : Sy) (ls : List (Str × Nat)), vs = [v, .ref pl, sv, .ref g] /\ Ask H v pl sv T L ps S /\ Zm H g ls /\ (∀ p ∈ ls, p.2 < T.m) /\ (Clo T ls (ps.map Prod.snd) S -> ∀ H', zF H H' -> Q (.bl true) H') /\ (¬ Clo T ls (ps.map Prod.snd) S -> ∀ H', zF H H' -> Q (.bl false) H')
def gkv (L : List Str) (γ : Str -> Nat) : List (Key × V) := L.map fun x => (Sum.inr x, nV (γ x))
def ZP (H : Hp) (T : Tb) (ps : List Sy) (S : Sy) : Nat -> List (Str × Nat) -> V -> Prop
 | 0, ls, v => ∃ t, v = .ref t /\ H t = some (.tup [.str "closed"]) /\ Clo T ls ps S
 | j + 1, ls, v => (∃ t, v = .ref t /\ H t = some (.tup [.str "closed"]) /\ Clo T ls ps S) \/ ∃ (t u : Addr) (x : Str) (vs : List V), v = .ref t /\ H t = some (.tup [.str "split", .str x, .ref u]) /\ H u = some (.tup vs) /\ Ltr x /\ x ∉ ls.map Prod.fst /\ vs.length = T.m /\ ∀ (o : Nat) (v' : V), vs[o]? = some v' -> ZP H T ps S j (ls ++ [(x, o)]) v'
theorem ZP.closed {H : Hp} {T : Tb} {ps : List Sy} {S : Sy} {ls : List (Str × Nat)} {v : V} (j : Nat) (h : ∃ t, v = .ref t /\ H t = some (.tup [.str "closed"]) /\ Clo T ls ps S) : ZP H T ps S j ls v := by
 cases j with
 | zero => exact h
 | succ j => exact .inl h
theorem ZP.tk {H H' : Hp} {T : Tb} {ps : List Sy} {S : Sy} (k : Tk H H') : ∀ {j : Nat} {ls : List (Str × Nat)} {v : V}, ZP H T ps S j ls v -> ZP H' T ps S j ls v := by
 intro j
 induction j with
 | zero =>
  rintro ls v ⟨t, e, h, c⟩
  exact ⟨t, e, k _ _ h, c⟩
 | succ j ih =>
  rintro ls v (⟨t, e, h, c⟩ | ⟨t, u, x, vs, e, h1, h2, h3, h3', h4, h5⟩)
  ·exact .inl ⟨t, e, k _ _ h, c⟩
  ·exact .inr ⟨t, u, x, vs, e, k _ _ h1, k _ _ h2, h3, h3', h4, fun o v' hv => ih (h5 o v' hv)⟩
def QJ : Nat -> Sp
 | 0 => fun _ _ _ _ => False
 | j + 1 => fun vs H Q _ => ∃ (v : V) (pl la g : Addr) (sv : V) (T : Tb) (L : List Str) (ps : List (V × Sy)) (S : Sy) (ls : List (Str × Nat)), vs = [v, .ref pl, sv, .ref la, .ref g] /\ Ask H v pl sv T L ps S /\ L.Nodup /\ H la = some (.lst (L.map V.str)) /\ Zm H g ls /\ (∀ p ∈ ls, p.2 < T.m) /\ ls.map Prod.fst = L.take ls.length /\ L.length <= ls.length + j /\
  (FolL T ls (ps.map Prod.snd) S -> ∀ t tv H', zF H H' -> H' t = some (.tup [.str "follows", tv]) -> ZP H' T (ps.map Prod.snd) S j ls tv -> Q (.ref t) H') /\
  (∀ γ, Gd T γ -> Keeps γ ls -> Bar T γ (ps.map Prod.snd) S -> ∀ t d H', zF H H' -> H' t = some (.tup [.str "barred", .ref d]) -> H' d = some (.dK (gkv L γ)) -> Q (.ref t) H')
def Qb : Sp := fun vs H Q _ => ∃ (v : V) (pl : Addr) (sv : V) (T : Tb) (L : List Str) (ps : List (V × Sy)) (S : Sy), vs = [v, .ref pl, sv] /\ Ask H v pl sv T L ps S /\
  (Fol T (ps.map Prod.snd) S -> ∀ t tv H', zF H H' -> H' t = some (.tup [.str "follows", tv]) -> ZP H' T (ps.map Prod.snd) S 5 [] tv -> Q (.ref t) H') /\
  (∀ γ (M : List Str), Gd T γ -> Bar T γ (ps.map Prod.snd) S -> M.Nodup -> (∀ x, x ∈ M ↔ (∃ z ∈ ps, x ∈ z.2.lets) \/ x ∈ S.lets) -> PyProof.Rows.sortedS M = true -> ∀ t d H', zF H H' -> H' t = some (.tup [.str "barred", .ref d]) -> H' d = some (.dK (gkv M γ)) -> Q (.ref t) H')
def cnOf (c : yU) : Cn := ⟨c.nm, c.pl.toNat, (gsOf c).map Int.toNat⟩
def tbOf (T : Y8) : Tb := ⟨T.m.toNat, T.ws.map Int.toNat, T.cs.map cnOf⟩
theorem nat_vs {is : List Int} (h : ∀ i ∈ is, 0 <= i) : (is.map Int.toNat).map nV = is.map V.int := by
 rw [List.map_map]
 refine List.map_congr_left fun i hi => ?_
 show V.int ((i.toNat : Nat) : Int) = V.int i
 rw [Int.toNat_of_nonneg (h i hi)]
theorem Wl {H : Hp} {m : Int} : ∀ {cs : List yU} {vs : List V}, ZX H cs vs -> (∀ c ∈ cs, GoodC m c) -> (∀ c ∈ cs, ∀ o ∈ c.cs, o ≠ none) -> Cns H (cs.map cnOf) vs
 | [], vs, h, _, _ => by
  cases h
  exact .nil
 | c :: cs, vs, ⟨t, u, rest, e, h1, h2, h3⟩, hg, hf => by
  subst e
  have gc := hg c List.mem_cons_self
  have fc := hf c List.mem_cons_self
  refine .cons ⟨t, u, rfl, ?_, ?_⟩ (Wl h3 (fun d hd => hg d (List.mem_cons_of_mem _ hd)) fun d hd => hf d (List.mem_cons_of_mem _ hd))
  ·show H t = some (.tup [.str c.nm, .int ((c.pl.toNat : Nat) : Int), .ref u])
   rw [Int.toNat_of_nonneg gc.p0]
   exact h1
  ·show H u = some (.tup (((gsOf c).map Int.toNat).map nV))
   rw [nat_vs fun i hi => ?_, h2, JD fc]
   ·rfl
   ·obtain ⟨o, ho, rfl⟩ := List.mem_map.mp hi
    cases o with
    | none => exact Int.le_refl _
    | some j => exact (gc.cells _ ho j rfl).1
theorem half_tb {H : Hp} {v : V} {T : Y8} (h : IsHalf H v T) (g : Good T) (f : Full T) : yy H v (tbOf T) := by
 obtain ⟨a, w, c, vs, e, h1, h2, h3, h4⟩ := h
 refine ⟨a, w, c, vs, e, ?_, ?_, h3, Wl h4 g.each f⟩
 ·show H a = some (.tup [.int ((T.m.toNat : Nat) : Int), .ref w, .ref c])
  rw [Int.toNat_of_nonneg (by have := g.m1; omega)]
  exact h1
 ·show H w = some (.tup ((T.ws.map Int.toNat).map nV))
  rw [nat_vs fun i hi => (g.ws i hi).1]
  exact h2
theorem Xj {T : Y8} (g : Good T) (f : Full T) : Qa (tbOf T) := by
 have m1 := g.m1
 have m9 := g.m9
 refine ⟨by show 1 <= T.m.toNat; omega, by show T.m.toNat <= 9; omega, ?_, fun x hx => ?_, by show (T.cs.map cnOf).length <= 16; rw [List.length_map]; have := g.few; omega, fun c hc => ?_⟩
 ·show (T.ws.map Int.toNat).Pairwise (· < ·)
  rw [List.pairwise_map]
  refine List.Pairwise.imp_of_mem (fun {a b} ha hb hab => ?_) g.rising
  have := (g.ws a ha).1
  omega
 ·obtain ⟨i, hi, rfl⟩ := List.mem_map.mp hx
  have := g.ws i hi
  show i.toNat < T.m.toNat
  omega
 ·obtain ⟨d, hd, rfl⟩ := List.mem_map.mp hc
  have gc := g.each d hd
  have hl := gc.len
  refine ⟨Nat.le_trans gc.nm.2.1 (by decide), by show d.pl.toNat <= 2; have := gc.p2; omega, ⟨?_, fun x hx => ?_⟩⟩
  ·show ((gsOf d).map Int.toNat).length = T.m.toNat ^ d.pl.toNat
   unfold gsOf
   rw [List.length_map, List.length_map]
   have e : T.m = ((T.m.toNat : Nat) : Int) := by omega
   rw [e, <- Int.natCast_pow] at hl
   exact Int.ofNat_inj.mp hl
  ·obtain ⟨i, hi, rfl⟩ := List.mem_map.mp hx
   obtain ⟨o, ho, rfl⟩ := List.mem_map.mp hi
   cases o with
   | none => exact absurd rfl (f d hd none ho)
   | some j =>
    have := gc.cells _ ho j rfl
    show j.toNat < T.m.toNat
    omega
theorem half_nd {T : Y8} (g : Good T) : (jX (tbOf T)).Nodup := by
 have := g.nd
 unfold jX tbOf
 rw [List.map_map]
 exact this
theorem Yq : jC.cps.toList = (List.range 26).map (97 + ·) := by decide +kernel
theorem Yr {v : Int} (h0 : 0 <= v) (h1 : v < 26) : atI jC.cps.toList v = some (97 + v.toNat) := by
 have e : v = ((v.toNat : Nat) : Int) := by omega
 have q : atI jC.cps.toList ((v.toNat : Nat) : Int) = some (97 + v.toNat) := jM (by rw [Yq, List.getElem?_map, List.getElem?_range (by omega)]; rfl)
 rw [<- e] at q
 exact q
theorem at5 {v : Int} (h0 : 0 <= v) (h1 : v < 5) : ∃ n : Int, atI [V.int 1, V.int 3, V.int 5, V.int 7, V.int 9] v = some (.int n) /\ (n = 1 \/ n = 3 \/ n = 5 \/ n = 7 \/ n = 9) := by
 have e : v = 0 \/ v = 1 \/ v = 2 \/ v = 3 \/ v = 4 := by omega
 rcases e with rfl | rfl | rfl | rfl | rfl
 ·exact ⟨1, rfl, by omega⟩
 ·exact ⟨3, rfl, by omega⟩
 ·exact ⟨5, rfl, by omega⟩
 ·exact ⟨7, rfl, by omega⟩
 ·exact ⟨9, rfl, by omega⟩
theorem one_ltr {c : Nat} (h0 : 97 <= c) (h1 : c <= 122) : Ltr (WS c) := ⟨rfl, fun x hx => by
 have e : x = c := by simpa [WS] using hx
 rw [e]
 exact ⟨h0, h1⟩⟩
theorem one_inj {a b : Nat} (h : WS a = WS b) : a = b := by
 have : (#[a] : Array Nat) = #[b] := congrArg Str.cps h
 simpa using this
def WV (v st : Int) (k : Nat) : Nat := 97 + ((v + st * (k : Int)) % 26).toNat
theorem Xk {v st : Int} (hs : st = 1 \/ st = 3 \/ st = 5 \/ st = 7 \/ st = 9) {a b : Nat} (ha : a < 5) (hb : b < 5) (h : WV v st a = WV v st b) : a = b := by
 unfold WV at h
 rcases hs with rfl | rfl | rfl | rfl | rfl <;> omega
theorem Ys {v st : Int} (hs : st = 1 \/ st = 3 \/ st = 5 \/ st = 7 \/ st = 9) {n : Nat} (hn : n <= 5) : ((List.range n).map fun k => WS (WV v st k)).Nodup := by
 unfold List.Nodup
 rw [List.pairwise_map]
 refine List.Pairwise.imp_of_mem (fun {a b} ha hb hab he => hab ?_) (List.nodup_range (n := n))
 exact Xk hs (Nat.lt_of_lt_of_le (List.mem_range.mp ha) hn) (Nat.lt_of_lt_of_le (List.mem_range.mp hb) hn) (one_inj he)
theorem WW {fs : List (V × Sy)} {u : Int} (h0 : 0 <= u) (h1 : u < fs.length) : ∃ z ∈ fs, atI (fs.map Prod.fst) u = some z.1 := by
 have e : u = ((u.toNat : Nat) : Int) := by omega
 have hu : u.toNat < fs.length := by omega
 refine ⟨fs[u.toNat], List.getElem_mem hu, ?_⟩
 have q : atI (fs.map Prod.fst) ((u.toNat : Nat) : Int) = some fs[u.toNat].1 := jM (by rw [List.getElem?_map, List.getElem?_eq_getElem hu]; rfl)
 rw [<- e] at q
 exact q
theorem Jb {H H' : Hp} {p : Addr} (h : jh H p) (s : zF H H') : jh H' p := by
 obtain ⟨r, a, b, e⟩ := h
 exact ⟨r, a, b, s _ _ e⟩
theorem ZQ {H : Hp} {p t : Addr} (h : jh H p) (n : H t = none) : t ≠ p := fun z => by
 obtain ⟨r, a, b, e⟩ := h
 rw [<- z, n] at e
 cases e
theorem yH {p t : Addr} {H H' : Hp} (o : Off p H H') (n : H' t = none) (ne : t ≠ p) : H t = none := by
 cases e : H t with
 | none => rfl
 | some x => rw [o _ _ ne e] at n; cases n
theorem sz_sum {s : Sy} (hs : s.isL = false) : (1 : Int) + (s.ps.map fun a => ((a.sz : Nat) : Int)).sum = ((s.sz : Nat) : Int) := by
 cases s with
 | ltr x => cases hs
 | n0 n => rfl
 | n1 n a => simp [Sy.ps, Sy.sz]; omega
 | n2 n a b => simp [Sy.ps, Sy.sz]; omega
theorem Xl {s : Sy} (hs : s.isL = true) : s.sz = 1 := by
 cases s with
 | ltr x => rfl
 | _ => cases hs
abbrev AskZ (H : Hp) (T : Tb) (L : List Str) (z : V × Sy) : Prop := GSt T L z.2 /\ z.2.dp <= 10 /\ z.2.sz <= 63 /\ jF H z.2 z.1
theorem Ask.z {H : Hp} {v : V} {pl : Addr} {sv : V} {T : Tb} {L : List Str} {ps : List (V × Sy)} {S : Sy} (a : Ask H v pl sv T L ps S) : AskZ H T L (sv, S) := ⟨a.gs, a.sd, a.sz, a.sv⟩
theorem Ask.new {H H' : Hp} {v : V} {pl : Addr} {sv : V} {T : Tb} {L : List Str} {ps : List (V × Sy)} {S : Sy} (a : Ask H v pl sv T L ps S) (s : zF H H') {l : Addr} {qs : List (V × Sy)} (hl : H' l = some (.lst (qs.map Prod.fst))) (hn : qs.length <= 14) (hq : ∀ z ∈ qs, AskZ H T L z) {z : V × Sy} (hz : AskZ H T L z) : Ask H' v l z.1 T L qs z.2 :=
 ⟨a.tb.same s, a.gt, a.nd, hl, hn, (fun y hy => by obtain ⟨k1, k2, k3, k4⟩ := hq y hy; exact ⟨k1, k2, k3, k4.same s⟩), hz.2.2.2.same s, hz.1, hz.2.1, hz.2.2.1, a.hL, a.ln⟩
theorem cut_ints (ns : List Int) (lo hi : Option Int) : ∃ ms : List Int, Yw (ns.map V.int) lo hi = ms.map V.int := by
 unfold Yw
 rw [<- List.map_drop, <- List.map_take]
 exact ⟨_, rfl⟩
def wm : Nat -> Sp
 | 0 => fun _ _ _ _ => False
 | j + 1 => fun vs H Q _ => ∃ (v : V) (s : Sy), vs = [v] /\ jF H s v /\ s.dp <= j /\ ∀ H', zF H H' -> Q (nV s.sz) H'
def Qq : Sp := fun vs H Q _ => ∃ (p : Addr) (m : Int), vs = [.ref p, .int m] /\ jh H p /\ 1 <= m /\ m <= 5 /\ ∀ (l : Addr) (L : List Str) (H' : Hp), Off p H H' -> jh H' p -> H l = none -> l ≠ p -> H' l = some (.lst (L.map V.str)) -> (L.length : Int) = m -> L.Nodup -> Ls L -> Q (.ref l) H'
def Fnd (H : Hp) (T : Tb) (L : List Str) (most : Nat) (l : Addr) (fs : List (V × Sy)) : Prop := H l = some (.lst (fs.map Prod.fst)) /\ 1 <= fs.length /\ fs.length <= 20 /\ ∀ z ∈ fs, GSt T L z.2 /\ z.2.sz <= most /\ jF H z.2 z.1
def WX : Sp := fun vs H Q _ => ∃ (p ll : Addr) (v : V) (T : Tb) (L : List Str) (steps most : Nat), vs = [.ref p, v, .ref ll, nV steps, nV most] /\ jh H p /\ yy H v T /\ Qa T /\ ll ≠ p /\ H ll = some (.lst (L.map V.str)) /\ 1 <= L.length /\ L.length <= 5 /\ steps <= 8 /\ 1 <= most /\ most <= 9 /\ ∀ l fs H', Off p H H' -> jh H' p -> H l = none -> l ≠ p -> Fnd H' T L most l fs -> Q (.ref l) H'
def wn : Sp := fun vs H Q _ => ∃ (p l : Addr) (T : Tb) (L : List Str) (most : Nat) (fs : List (V × Sy)) (n : Nat), vs = [.ref p, .ref l, nV n] /\ jh H p /\ l ≠ p /\ Fnd H T L most l fs /\ n <= 3 /\ ∀ (t sl : Addr) (ps : List (V × Sy)) (z : V × Sy) (H' : Hp), Off p H H' -> jh H' p -> H sl = none -> sl ≠ p -> H' t = some (.tup [.ref sl, z.1]) -> H' sl = some (.lst (ps.map Prod.fst)) -> ps.length <= n -> (∀ y ∈ ps, y ∈ fs) -> z ∈ fs -> Q (.ref t) H'
def spLaw (K : PySem.W.Frag) : Sp := fun vs H Q _ => ∃ (a : Addr) (ns : List Int), vs = [.ref a] /\ SqL K H a (ns.map V.int) /\ ns.length <= 63 /\ ∀ H', Q (.bl true) H'
def Yt (H : Hp) (d : Addr) (L : List Str) (m : Nat) (γ : Str -> Nat) : Prop := ∃ kvs, H d = some (.dK kvs) /\ ∀ x ∈ L, jE kvs (Sum.inr x) = some (nV (γ x)) /\ γ x < m
theorem Yt.same {H H' : Hp} {d : Addr} {L : List Str} {m : Nat} {γ : Str -> Nat} (h : Yt H d L m γ) (s : zF H H') : Yt H' d L m γ := by
 obtain ⟨kvs, h1, h2⟩ := h
 exact ⟨kvs, s _ _ h1, h2⟩
def WY (K : PySem.W.Frag) : Sp := fun vs H Q _ => ∃ (a : Addr) (ns : List Int) (k : Nat), vs = [.ref a, nV k] /\ SqL K H a (ns.map V.int) /\ ns.length <= 63 /\ k <= 3 /\ ∀ (c : Int) H', zF H H' -> Q (.int c) H'
def Qc : Sp := fun vs H Q _ => ∃ (v : V) (t : Addr) (s : Sy) (us : List V) (T : Tb) (L : List Str), vs = [v, .ref t] /\ yy H v T /\ Qa T /\ (jX T).Nodup /\ H t = some (.tup (.str s.nm :: us)) /\ GSt T L s /\ s.isL = false /\ ∀ (u : Addr) (c : Cn) H', zF H H' -> c ∈ T.cs -> c.nm = s.nm -> c.pl = s.ps.length -> H' u = some (.tup (c.cs.map nV)) -> Q (.ref u) H'
def wo : Nat -> Sp
 | 0 => fun _ _ _ _ => False
 | j + 1 => fun vs H Q _ => ∃ (v sv : V) (g : Addr) (s : Sy) (T : Tb) (L : List Str) (γ : Str -> Nat), vs = [v, sv, .ref g] /\ yy H v T /\ Qa T /\ (jX T).Nodup /\ jF H s sv /\ GSt T L s /\ Yt H g L T.m γ /\ s.dp <= j /\ ∀ H', zF H H' -> Q (nV (grT T γ s)) H'
def spOfL : Nat -> Sp
 | 0 => fun _ _ _ _ => False
 | j + 1 => fun vs H Q _ => ∃ (sv : V) (s : Sy), vs = [sv] /\ jF H s sv /\ s.sz <= 63 /\ s.dp <= j /\ ∀ l H', zF H H' -> H l = none -> H' l = some (.lst (s.lets.map V.str)) -> Q (.ref l) H'
noncomputable def barB (T : Tb) (γ : Str -> Nat) (ps : List Sy) (S : Sy) : Bool := (ps.all fun p => decide (grT T γ p ∈ T.ws)) && !decide (grT T γ S ∈ T.ws)
def WZ : Sp := fun vs H Q _ => ∃ (v : V) (pl : Addr) (sv : V) (g : Addr) (T : Tb) (L : List Str) (ps : List (V × Sy)) (S : Sy) (γ : Str -> Nat), vs = [v, .ref pl, sv, .ref g] /\ Ask H v pl sv T L ps S /\ Yt H g L T.m γ /\ ∀ H', zF H H' -> Q (.bl (barB T γ (ps.map Prod.snd) S)) H'
theorem Xm {s : Sy} (h : s.isL = false) : s.lets = s.ps.flatMap Sy.lets := by
 cases s with
 | ltr x => cases h
 | n0 n => rfl
 | n1 n a => simp [Sy.lets, Sy.ps]
 | n2 n a b => simp [Sy.lets, Sy.ps]
theorem sz_part {s a : Sy} (h : a ∈ s.ps) : a.sz <= s.sz := by
 cases s with
 | ltr x => cases h
 | n0 n => cases h
 | n1 n b =>
  rw [List.mem_singleton.mp h]
  exact Nat.le_succ _
 | n2 n b c =>
  show a.sz <= b.sz + c.sz + 1
  rcases List.mem_cons.mp h with rfl | h
  ·omega
  ·rw [List.mem_singleton.mp h]
   omega
theorem Xn {α β : Type} (xs : List α) (f : α -> List β) (i : Nat) : ((xs.take i).flatMap f).length <= (xs.flatMap f).length := by
 have := List.take_append_drop i xs
 conv => rhs; rw [<- this, List.flatMap_append, List.length_append]
 omega
def wq (m : Nat) : Nat -> List (List Nat)
 | 0 => [[]]
 | k + 1 => (wq m k).flatMap fun r => (List.range m).map fun o => r ++ [o]
theorem Xo (m : Nat) (rs : List (List Nat)) : (rs.flatMap fun r => (List.range m).map fun o => r ++ [o]).length = rs.length * m := by
 induction rs with
 | nil => simp
 | cons r rs ih =>
  rw [List.flatMap_cons, List.length_append, ih, List.length_map, List.length_range, List.length_cons, Nat.succ_mul]
  omega
theorem Jc (m : Nat) : ∀ k, (wq m k).length = m ^ k
 | 0 => rfl
 | k + 1 => by
  have ih := Jc m k
  show ((wq m k).flatMap fun r => (List.range m).map fun o => r ++ [o]).length = _
  rw [Nat.pow_succ, <- ih]
  generalize wq m k = rs
  induction rs with
  | nil => simp
  | cons r rs ih2 =>
   rw [List.flatMap_cons, List.length_append, ih2, List.length_map, List.length_range, List.length_cons, Nat.succ_mul]
   omega
theorem Zp {m : Nat} : ∀ {k : Nat} {r : List Nat}, r ∈ wq m k ↔ Tn.Rw m k r
 | 0, r => by
  show r ∈ [[]] ↔ _
  rw [List.mem_singleton]
  constructor
  ·rintro rfl
   exact ⟨rfl, fun x hx => by cases hx⟩
  ·intro h
   exact List.length_eq_zero_iff.mp h.1
 | k + 1, r => by
  show r ∈ (wq m k).flatMap _ ↔ _
  rw [List.mem_flatMap]
  constructor
  ·rintro ⟨r', hr', h⟩
   obtain ⟨o, ho, rfl⟩ := List.mem_map.mp h
   obtain ⟨h1, h2⟩ := Zp.mp hr'
   refine ⟨by rw [List.length_append, h1]; rfl, fun x hx => ?_⟩
   rcases List.mem_append.mp hx with h | h
   ·exact h2 x h
   ·rw [List.mem_singleton.mp h]
    exact List.mem_range.mp ho
  ·rintro ⟨h1, h2⟩
   rcases List.eq_nil_or_concat r with rfl | ⟨r', o, rfl⟩
   ·cases h1
   rw [List.concat_eq_append] at *
   rw [List.length_append] at h1
   have h1 : r'.length + 1 = k + 1 := h1
   exact ⟨r', Zp.mpr ⟨by omega, fun x hx => h2 x (List.mem_append_left _ hx)⟩, List.mem_map.mpr ⟨o, List.mem_range.mpr (h2 o (by simp)), rfl⟩⟩
def zkv (L : List Str) (r : List Nat) : List (Key × V) := (L.zip r).map fun p => ((Sum.inr p.1 : Key), nV p.2)
theorem zkv_snoc {L : List Str} {r : List Nat} (h : L.length = r.length) (y : Str) (k : Nat) : zkv (L ++ [y]) (r ++ [k]) = zkv L r ++ [((Sum.inr y : Key), nV k)] := by
 unfold zkv
 rw [List.zip_append h, List.map_append]
 rfl
theorem wr {L : List Str} {r : List Nat} (h : L.length = r.length) : (zkv L r).map Prod.fst = L.map Sum.inr := by
 unfold zkv
 rw [List.map_map]
 have e : ((Prod.fst : Key × V -> Key) ∘ fun p : Str × Nat => ((Sum.inr p.1 : Key), nV p.2)) = Sum.inr ∘ Prod.fst := rfl
 rw [e, <- List.map_map, List.map_fst_zip (by omega)]
theorem Xp {L : List Str} {r : List Nat} (h : L.length = r.length) : (zkv L r).length = L.length := by
 unfold zkv
 rw [List.length_map, List.length_zip]
 omega
theorem Qr : ∀ {kvs : List (Key × V)} {k : Key}, k ∉ kvs.map Prod.fst -> jE kvs k = none
 | [], k, _ => rfl
 | q :: kvs, k, h => by
  rw [List.map_cons, List.mem_cons, not_or] at h
  rw [qh (fun e => h.1 e.symm)]
  exact Qr h.2
theorem zkv_put {L : List Str} {r : List Nat} (h : L.length = r.length) {y : Str} (hy : y ∉ L) (k : Nat) : j9 (zkv L r) (Sum.inr y) (nV k) = zkv (L ++ [y]) (r ++ [k]) := by
 rw [zkv_snoc h, yq _ (Qr (by
  rw [wr h]
  intro hm
  obtain ⟨z, hz, e⟩ := List.mem_map.mp hm
  exact hy (Sum.inr.inj e ▸ hz)))]
def GnsR (H : Hp) (gs : List (Addr × List Nat)) (L : List Str) : Prop := ∀ z ∈ gs, H z.1 = some (.dK (zkv L z.2))
def jZ (gs : List (Addr × List Nat)) : List V := gs.map fun z => V.ref z.1
def Qs : Sp := fun vs H Q _ => ∃ (v : V) (la : Addr) (T : Tb) (LT : List Str), vs = [v, .ref la] /\ yy H v T /\ Qa T /\ H la = some (.lst (LT.map V.str)) /\ LT.Nodup /\ LT.length <= 5 /\ T.m ^ LT.length <= 125 /\ ∀ l gs H', zF H H' -> H' l = some (.lst (jZ gs)) -> gs.map Prod.snd = wq T.m LT.length -> GnsR H' gs LT -> Q (.ref l) H'
def JS (H : Hp) (g : Addr) (ls : List (Str × Nat)) : Prop := ∃ kvs : List (Key × V), H g = some (.dK kvs) /\ Paired (fun (p : Str × Nat) (kv : Key × V) => kv.1 = Sum.inr p.1 /\ ∃ u, kv.2 = .ref u /\ H u = some (.lst [nV p.2])) ls kvs
theorem JS.same {H H' : Hp} {g : Addr} {ls : List (Str × Nat)} (h : JS H g ls) (s : zF H H') : JS H' g ls := by
 obtain ⟨kvs, h1, h2⟩ := h
 exact ⟨kvs, s _ _ h1, Paired.imp' (fun _ _ ⟨e, u, e2, h⟩ => ⟨e, u, e2, s _ _ h⟩) h2⟩
theorem setl_val {H : Hp} {ls : List (Str × Nat)} {kvs : List (Key × V)} (h : Paired (fun (p : Str × Nat) (kv : Key × V) => kv.1 = Sum.inr p.1 /\ ∃ u, kv.2 = .ref u /\ H u = some (.lst [nV p.2])) ls kvs) (x : Str) :
  match ls.lookup x with
  | some o => ∃ u, jE kvs (Sum.inr x) = some (.ref u) /\ H u = some (.lst [nV o])
  | none => jE kvs (Sum.inr x) = none := by
 induction h with
 | nil => rfl
 | @cons p kv ls kvs r _ ih =>
  obtain ⟨e, u, e2, hu⟩ := r
  obtain ⟨y, o⟩ := p
  rw [List.lookup_cons]
  by_cases hxy : x = y
  ·subst hxy
   rw [beq_self_eq_true]
   exact ⟨u, by rw [qt e, e2], hu⟩
  ·rw [beq_eq_false_iff_ne.mpr hxy]
   rw [show jE (kv :: kvs) (Sum.inr x) = jE kvs (Sum.inr x) from qh (fun z => hxy (by rw [e] at z; exact (Sum.inr.inj z).symm))]
   exact ih
def wt : Nat -> Sp
 | 0 => fun _ _ _ _ => False
 | j + 1 => fun vs H Q _ => ∃ (v sv : V) (g : Addr) (s : Sy) (T : Tb) (L : List Str) (ls : List (Str × Nat)), vs = [v, sv, .ref g] /\ yy H v T /\ Qa T /\ (jX T).Nodup /\ jF H s sv /\ GSt T L s /\ JS H g ls /\ (∀ p ∈ ls, p.2 < T.m) /\ s.dp <= j /\ ∀ (l : Addr) (G : List Nat) (H' : Hp), zF H H' -> H' l = some (.lst (G.map nV)) -> (∀ y, y ∈ G ↔ Jj T ls s y) -> G.length <= 9 -> Q (.ref l) H'
theorem ZP.cases {H : Hp} {T : Tb} {ps : List Sy} {S : Sy} {j : Nat} {ls : List (Str × Nat)} {v : V} (h : ZP H T ps S j ls v) : (∃ t, v = .ref t /\ H t = some (.tup [.str "closed"]) /\ Clo T ls ps S) \/ ∃ i, j = i + 1 /\ ∃ (t u : Addr) (x : Str) (vs : List V), v = .ref t /\ H t = some (.tup [.str "split", .str x, .ref u]) /\ H u = some (.tup vs) /\ Ltr x /\ x ∉ ls.map Prod.fst /\ vs.length = T.m /\ ∀ (o : Nat) (v' : V), vs[o]? = some v' -> ZP H T ps S i (ls ++ [(x, o)]) v' := by
 cases j with
 | zero => exact .inl h
 | succ j =>
  rcases h with h | h
  ·exact .inl h
  ·exact .inr ⟨j, rfl, h⟩
noncomputable def anyB (T : Tb) (ls : List (Str × Nat)) (s : Sy) : Bool := @decide (∃ y, Jj T ls s y /\ y ∈ T.ws) (Classical.propDecidable _)
theorem any_eq {T : Tb} {ls : List (Str × Nat)} {s : Sy} {G : List Nat} (h : ∀ y, y ∈ G ↔ Jj T ls s y) : (G.map fun y => decide (y ∈ T.ws)).any id = anyB T ls s := by
 unfold anyB
 rw [Bool.eq_iff_iff, List.any_eq_true, @decide_eq_true_iff _ (Classical.propDecidable _)]
 constructor
 ·rintro ⟨b, hb, eb⟩
  obtain ⟨y, hy, rfl⟩ := List.mem_map.mp hb
  exact ⟨y, (h y).mp hy, of_decide_eq_true eb⟩
 ·rintro ⟨y, hy, hw⟩
  exact ⟨_, List.mem_map.mpr ⟨y, (h y).mpr hy, rfl⟩, decide_eq_true hw⟩
theorem iteP {b : Bool} {P Q : Prop} (h : b = true) (p : P) : if b = true then P else Q := by rw [if_pos h]; exact p
theorem iteN {b : Bool} {P Q : Prop} (h : b = false) (q : Q) : if b = true then P else Q := by rw [h]; exact q
theorem Xq : ∀ c : Fin 26, (Builtin.Str.occurrences jC (WS (97 + c.val)) 0 jC.length 1).isEmpty = false := by decide +kernel
theorem wu {x : Str} (h : Ltr x) : ∃ c : Fin 26, x = WS (97 + c.val) := by
 obtain ⟨h1, h2⟩ := h
 obtain ⟨⟨l⟩⟩ := x
 have h1 : l.length = 1 := h1
 match l, h1 with
 | [c], _ =>
  obtain ⟨a, b⟩ := h2 c (by simp)
  refine ⟨⟨c - 97, by omega⟩, ?_⟩
  show (⟨#[c]⟩ : Str) = ⟨#[97 + (c - 97)]⟩
  rw [show 97 + (c - 97) = c by omega]
theorem setl_put {H : Hp} {ls : List (Str × Nat)} {kvs : List (Key × V)} (h : Paired (fun (p : Str × Nat) (kv : Key × V) => kv.1 = Sum.inr p.1 /\ ∃ u, kv.2 = .ref u /\ H u = some (.lst [nV p.2])) ls kvs) {x : Str} (hx : x ∉ ls.map Prod.fst) (v : V) : j9 kvs (Sum.inr x) v = kvs ++ [((Sum.inr x : Key), v)] := by
 refine yq _ (Qr fun hm => hx ?_)
 clear hx
 induction h with
 | nil => cases hm
 | @cons p kv ls kvs r _ ih =>
  rw [List.map_cons] at hm ⊢
  rcases List.mem_cons.mp hm with e | hm
  ·rw [r.1] at e
   rw [Sum.inr.inj e]
   exact List.mem_cons_self
  ·exact List.mem_cons_of_mem _ (ih hm)
theorem W0 {α β : Type} {F : α -> β -> Prop} {as : List α} {bs : List β} (h : Paired F as bs) {a : α} {b : β} (r : F a b) : Paired F (as ++ [a]) (bs ++ [b]) := by
 induction h with
 | nil => exact .cons r .nil
 | cons r' _ ih => exact .cons r' ih
def wv : Nat -> Sp
 | 0 => fun _ _ _ _ => False
 | j + 1 => fun vs H Q _ => ∃ (tv v : V) (pl : Addr) (sv : V) (g : Addr) (T : Tb) (L : List Str) (ps : List (V × Sy)) (S : Sy) (ls : List (Str × Nat)), vs = [tv, v, .ref pl, sv, .ref g] /\ Ask H v pl sv T L ps S /\ ZP H T (ps.map Prod.snd) S j ls tv /\ JS H g ls /\ (∀ p ∈ ls, p.2 < T.m) /\ ls.length + j <= 5 /\ ∀ H', zF H H' -> Q (.bl true) H'
theorem JT {α β γ : Type} {F : β -> γ -> Prop} (f : α -> β) (g : α -> γ) : ∀ xs : List α, (∀ x ∈ xs, F (f x) (g x)) -> Paired F (xs.map f) (xs.map g)
 | [], _ => .nil
 | x :: xs, h => .cons (h x List.mem_cons_self) (JT f g xs fun y hy => h y (List.mem_cons_of_mem _ hy))
def Xr (L : List Str) (r : List Nat) (x : Str) : Nat := ((L.zip r).lookup x).getD 0
theorem zval : ∀ (L : List Str) (r : List Nat) (x : Str), jE (zkv L r) (Sum.inr x) = ((L.zip r).lookup x).map nV
 | [], r, x => rfl
 | y :: L, [], x => rfl
 | y :: L, o :: r, x => by
  show jE (((Sum.inr y : Key), nV o) :: zkv L r) _ = (((y, o) :: L.zip r).lookup x).map nV
  rw [List.lookup_cons]
  by_cases h : x = y
  ·subst h
   rw [beq_self_eq_true, qt rfl]
   rfl
  ·rw [beq_eq_false_iff_ne.mpr h, qh (fun e => h (Sum.inr.inj e).symm)]
   exact zval L r x
theorem lk_zip : ∀ {L : List Str} {r : List Nat} {x : Str}, L.length = r.length -> x ∈ L -> ∃ o ∈ r, (L.zip r).lookup x = some o
 | [], r, x, _, h => by cases h
 | y :: L, [], x, h, _ => by cases h
 | y :: L, o :: r, x, h, hx => by
  show ∃ o' ∈ o :: r, ((y, o) :: L.zip r).lookup x = some o'
  rw [List.lookup_cons]
  by_cases hy : x = y
  ·subst hy
   rw [beq_self_eq_true]
   exact ⟨o, List.mem_cons_self, rfl⟩
  ·rw [beq_eq_false_iff_ne.mpr hy]
   rcases List.mem_cons.mp hx with e | hx
   ·exact absurd e hy
   obtain ⟨o', ho, e⟩ := lk_zip (L := L) (r := r) (by simpa using h) hx
   exact ⟨o', List.mem_cons_of_mem _ ho, e⟩
theorem Xs {L : List Str} {r : List Nat} {m : Nat} (h : Tn.Rw m L.length r) (m1 : 1 <= m) (x : Str) : Xr L r x < m := by
 unfold Xr
 cases e : (L.zip r).lookup x with
 | none => exact m1
 | some o =>
  have := Zw e
  exact h.2 o (List.of_mem_zip this).2
theorem Jd {γ : Str -> Nat} : ∀ {L : List Str} {x : Str}, x ∈ L -> Xr L (L.map γ) x = γ x
 | [], x, h => by cases h
 | y :: L, x, h => by
  show (((y, γ y) :: L.zip (L.map γ)).lookup x).getD 0 = _
  rw [List.lookup_cons]
  by_cases hy : x = y
  ·subst hy
   rw [beq_self_eq_true]
   rfl
  ·rw [beq_eq_false_iff_ne.mpr hy]
   rcases List.mem_cons.mp h with e | h
   ·exact absurd e hy
   ·exact Jd h
theorem Xt (γ : Str -> Nat) : ∀ L : List Str, zkv L (L.map γ) = gkv L γ
 | [] => rfl
 | y :: L => by
  show ((Sum.inr y : Key), nV (γ y)) :: zkv L (L.map γ) = _
  rw [Xt γ L]
  rfl
theorem Xu {H : Hp} {d : Addr} {L : List Str} {r : List Nat} {m : Nat} (hd : H d = some (.dK (zkv L r))) (h : Tn.Rw m L.length r) (m1 : 1 <= m) : Yt H d L m (Xr L r) := ⟨_, hd, fun x hx => ⟨by
 obtain ⟨o, _, e⟩ := lk_zip h.1.symm hx
 rw [zval, Xr, e]
 rfl, Xs h m1 x⟩⟩
theorem yI {T : Tb} {γ : Str -> Nat} {ps : List Sy} {S : Sy} : barB T γ ps S = true ↔ Bar T γ ps S := by
 unfold barB Bar
 rw [Bool.and_eq_true, List.all_eq_true, Bool.not_eq_true', decide_eq_false_iff_not]
 simp only [decide_eq_true_eq]
theorem Xv {T : Tb} {γ δ : Str -> Nat} {ps : List Sy} {S : Sy} (hp : ∀ p ∈ ps, ∀ x ∈ p.lets, γ x = δ x) (hS : ∀ x ∈ S.lets, γ x = δ x) (b : Bar T γ ps S) : Bar T δ ps S := ⟨fun p h => by rw [<- Zk (hp p h)]; exact b.1 p h, by rw [<- Zk hS]; exact b.2⟩
theorem QK : ∀ (L : List Str) (r : List Nat), Ints (zkv L r)
 | [], r => fun q hq => by cases hq
 | y :: L, [] => fun q hq => by cases hq
 | y :: L, o :: r => fun q hq => by
  rcases List.mem_cons.mp (show q ∈ ((Sum.inr y : Key), nV o) :: zkv L r from hq) with rfl | hq
  ·exact ⟨_, rfl⟩
  ·exact QK L r q hq
def Told (H : Hp) (T : Tb) (LT : List Str) (ps : List Sy) (S : Sy) (fv : V) : Prop := (Fol T ps S /\ ∃ t tv, fv = .ref t /\ H t = some (.tup [.str "follows", tv]) /\ ZP H T ps S 5 [] tv) \/ ∃ (γ : Str -> Nat) (t d : Addr), Gd T γ /\ Bar T γ ps S /\ fv = .ref t /\ H t = some (.tup [.str "barred", .ref d]) /\ H d = some (.dK (gkv LT γ))
def ww : Sp := fun vs H Q _ => ∃ (fv v : V) (pl : Addr) (sv : V) (la : Addr) (T : Tb) (LT : List Str) (ps : List (V × Sy)) (S : Sy), vs = [fv, v, .ref pl, sv, .ref la] /\ Ask H v pl sv T LT ps S /\ H la = some (.lst (LT.map V.str)) /\ LT.Nodup /\ T.m ^ LT.length <= 125 /\ Told H T LT (ps.map Prod.snd) S fv /\ ∀ H', zF H H' -> Q (.bl true) H'
def cd1 (x : Str) : Nat := x.cps.toList.headD 0
theorem yJ {x : Str} (h : Ltr x) : x.cps.toList = [cd1 x] := by
 obtain ⟨c, rfl⟩ := wu h
 rfl
theorem ltr_ext {x y : Str} (hx : Ltr x) (hy : Ltr y) (h : cd1 x = cd1 y) : x = y := by
 obtain ⟨c, rfl⟩ := wu hx
 obtain ⟨d, rfl⟩ := wu hy
 have : 97 + c.val = 97 + d.val := h
 rw [this]
theorem Xw : ∀ {x : Str} {l : List Str}, PyProof.Rows.risingS x l = true -> (∀ y ∈ x :: l, Ltr y) -> (x :: l).Pairwise (fun a b => cd1 a <= cd1 b)
 | x, [], _, _ => List.pairwise_singleton _ _
 | x, y :: l, h, hl => by
  have h' : (!PySem.Spec.ltCps y.cps.toList x.cps.toList && PyProof.Rows.risingS y l) = true := h
  rw [Bool.and_eq_true] at h'
  have ih := Xw h'.2 fun z hz => hl z (List.mem_cons_of_mem _ hz)
  have hxy : cd1 x <= cd1 y := by
   have h1 := h'.1
   rw [yJ (hl x List.mem_cons_self), yJ (hl y (by simp))] at h1
   simp [PySem.Spec.ltCps] at h1
   omega
  refine List.pairwise_cons.mpr ⟨fun z hz => ?_, ih⟩
  rcases List.mem_cons.mp hz with rfl | hz
  ·exact hxy
  ·exact Nat.le_trans hxy ((List.pairwise_cons.mp ih).1 z hz)
theorem yK {l : List Str} (h : PyProof.Rows.sortedS l = true) (hl : ∀ y ∈ l, Ltr y) : l.Pairwise (fun a b => cd1 a <= cd1 b) := by
 cases l with
 | nil => exact .nil
 | cons x l => exact Xw h hl
theorem sorts_eq {l k : List Str} (h1 : PyProof.Rows.sortedS l = true) (h2 : PyProof.Rows.sortedS k = true) (hl : ∀ y ∈ l, Ltr y) (nl : l.Nodup) (nk : k.Nodup) (h : ∀ x, x ∈ l ↔ x ∈ k) : l = k :=
 List.Perm.eq_of_pairwise (le := fun a b => cd1 a <= cd1 b) (fun a b ha hb x y => ltr_ext (hl a ha) (hl b ((h b).mpr hb)) (Nat.le_antisymm x y)) (yK h1 hl) (yK h2 fun y hy => hl y ((h y).mpr hy)) ((List.perm_ext_iff_of_nodup nl nk).mpr h)
theorem fol19 {H : Hp} {v : V} {pl : Addr} {sv : V} {T : Tb} {L LT : List Str} {ps : List (V × Sy)} {S : Sy} {Q : VK} {E : XK} (ak : Ask H v pl sv T L ps S) (nd : LT.Nodup) (so : PyProof.Rows.sortedS LT = true) (hm : ∀ x, x ∈ LT ↔ (∃ z ∈ ps, x ∈ z.2.lets) \/ x ∈ S.lets) (q : ∀ fv H', zF H H' -> Told H' T LT (ps.map Prod.snd) S fv -> Q fv H') : Qb [v, .ref pl, sv] H Q E := by
 refine ⟨v, pl, sv, T, L, ps, S, rfl, ak, fun fol t tv H' s ht sh => q _ H' s (.inl ⟨fol, t, tv, rfl, ht, sh⟩), fun γ M gd bar nM hM sM t dd H' s ht hd => q _ H' s (.inr ⟨γ, t, dd, gd, bar, rfl, ht, ?_⟩)⟩
 have : M = LT := sorts_eq sM so (fun y hy => by
  rcases (hM y).mp hy with ⟨z, hz, h⟩ | h
  ·exact ak.hL y ((ak.ps z hz).1.lets_in h)
  ·exact ak.hL y (ak.gs.lets_in h)) nM nd fun x => by rw [hM, hm]
 rw [<- this]
 exact hd
theorem at9 {v : Int} (h0 : 0 <= v) (h1 : v < 9) : ∃ n : Nat, atI [V.int 4, V.int 4, V.int 4, V.int 3, V.int 3, V.int 2, V.int 2, V.int 2, V.int 2] v = some (.int n) /\ 1 <= n /\ n <= 4 /\ ∀ k, k <= n -> (v.toNat + 1) ^ k <= 125 := by
 have e : v = 0 \/ v = 1 \/ v = 2 \/ v = 3 \/ v = 4 \/ v = 5 \/ v = 6 \/ v = 7 \/ v = 8 := by omega
 have pw : ∀ (m n : Nat), 1 <= m -> m ^ n <= 125 -> ∀ k, k <= n -> m ^ k <= 125 := fun m n m1 h k hk => Nat.le_trans (Nat.pow_le_pow_right m1 hk) h
 rcases e with rfl | rfl | rfl | rfl | rfl | rfl | rfl | rfl | rfl
 ·exact ⟨4, rfl, by omega, by omega, pw 1 4 (by decide) (by decide)⟩
 ·exact ⟨4, rfl, by omega, by omega, pw 2 4 (by decide) (by decide)⟩
 ·exact ⟨4, rfl, by omega, by omega, pw 3 4 (by decide) (by decide)⟩
 ·exact ⟨3, rfl, by omega, by omega, pw 4 3 (by decide) (by decide)⟩
 ·exact ⟨3, rfl, by omega, by omega, pw 5 3 (by decide) (by decide)⟩
 ·exact ⟨2, rfl, by omega, by omega, pw 6 2 (by decide) (by decide)⟩
 ·exact ⟨2, rfl, by omega, by omega, pw 7 2 (by decide) (by decide)⟩
 ·exact ⟨2, rfl, by omega, by omega, pw 8 2 (by decide) (by decide)⟩
 ·exact ⟨2, rfl, by omega, by omega, pw 9 2 (by decide) (by decide)⟩
theorem at4k {k : Nat} (h : k < 4) : ∃ n : Int, atI [V.int 9, V.int 4, V.int 4, V.int 3] (k : Int) = some (.int n) /\ 1 <= n /\ n <= 9 := by
 have e : k = 0 \/ k = 1 \/ k = 2 \/ k = 3 := by omega
 rcases e with rfl | rfl | rfl | rfl
 ·exact ⟨9, rfl, by omega, by omega⟩
 ·exact ⟨4, rfl, by omega, by omega⟩
 ·exact ⟨4, rfl, by omega, by omega⟩
 ·exact ⟨3, rfl, by omega, by omega⟩
def W1 : Sp := fun vs H Q _ => ∃ (cc most : Int), vs = [.int cc, .int most] /\ 1 <= most /\ most <= 9 /\ ∀ (t : Addr) (v : V) (pl : Addr) (sv : V) (T : Tb) (L : List Str) (ps : List (V × Sy)) (S : Sy) H', zF H H' -> H' t = some (.tup [v, .ref pl, sv]) -> Ask H' v pl sv T L ps S -> T.m ^ L.length <= 125 -> ps.length <= 3 -> (∀ z ∈ (sv, S) :: ps, z.2.sz <= 9) -> Q (.ref t) H'
theorem upd_at {H : Hp} {a : Addr} (h : H a = none) (o : HO) : upd H a o a = some o := zd
theorem Tk.putD {t : Addr} {H : Hp} {kvs : List (Key × V)} {o : HO} (h : H t = some (.dK kvs)) : Tk H (upd H t o) := fun c u q => by rw [zn (wC q h (by intro z; cases z))]; exact q
theorem Ask.putD {H : Hp} {v : V} {pl : Addr} {sv : V} {T : Tb} {L : List Str} {ps : List (V × Sy)} {S : Sy} (a : Ask H v pl sv T L ps S) {d : Addr} {kvs : List (Key × V)} (hd : H d = some (.dK kvs)) (o : HO) : Ask (upd H d o) v pl sv T L ps S :=
 ⟨a.tb.tk (Tk.putD hd), a.gt, a.nd, by rw [zn (wC a.hp hd (by intro z; cases z))]; exact a.hp, a.pn, (fun y hy => by obtain ⟨k1, k2, k3, k4⟩ := a.ps y hy; exact ⟨k1, k2, k3, k4.tk (Tk.putD hd)⟩), a.sv.tk (Tk.putD hd), a.gs, a.sd, a.sz, a.hL, a.ln⟩
theorem sq_putD {K : PySem.W.Frag} {H : Hp} {a d : Addr} {xs : List V} {kvs : List (Key × V)} (h : SqL K H a xs) (hd : H d = some (.dK kvs)) (o : HO) : SqL K (upd H d o) a xs := by
 rcases h with (h | ⟨o', h⟩) | h
 ·exact .inl (.inl (by rw [zn (wC h hd (by intro z; cases z))]; exact h))
 ·exact .inl (.inr ⟨o', by rw [zn (wC h hd (by intro z; cases z))]; exact h⟩)
 ·exact .inr h
theorem sy_val {H : Hp} {s : Sy} {v : V} (h : jF H s v) : Qh v = true \/ ∃ p, v = .ref p := by
 cases hs : s.isL with
 | true =>
  rw [h.letter hs]
  exact .inl rfl
 | false =>
  obtain ⟨t, us, e, _⟩ := h.node hs
  exact .inr ⟨t, e⟩
def top (i : Nat) : Stmt := PySem.Challenge.pw_truthgrades_k19_what_follows.main.body.getD i (.Pass ⟨0, 0, 0, 0⟩)
structure Gb (mg : Str -> Option Value) : Prop where
 «abs» : mg "abs" = none
 «range» : mg "range" = none
 «tuple» : mg "tuple" = none
 «list» : mg "list" = none
 «isinstance» : mg "isinstance" = none
 «int» : mg "int" = none
 «str» : mg "str" = none
 «len» : mg "len" = none
 «min» : mg "min" = none
 «all» : mg "all" = none
 «any» : mg "any" = none
 «dict» : mg "dict" = none
 «set» : mg "set" = none
 «sorted» : mg "sorted" = none
 «reversed» : mg "reversed" = none
 «sum» : mg "sum" = none
 «bool» : mg "bool" = none
abbrev zw : Stmt := top 5
theorem jG : zD ["text"] ["text"] (zf zw) := ⟨rfl, rfl, rfl, by decide +kernel, rfl, by decide +kernel, by decide +kernel⟩
theorem jH {P : Program} {w : World} {K : PySem.W.Frag} {mg : Str -> Option Value} {base : Heap} {f : Addr} {fd : FuncData} (F : Fun K "has_small_letters_alone" "has_small_letters_alone" zw f fd) (gb : Gb mg) : jT P w K mg base CX0 1 f fd ["text"] WT := by
 refine F.ok jG (fun vs H Q E h => ?_) (fun cdv A outer s H vs Q E hr h => ?_)
 ·obtain ⟨x, rfl, _⟩ := h
  rfl
 obtain ⟨x, rfl, hs, hl, q⟩ := h
 have nd0 : (["sign"] : List Str).Nodup := by decide +kernel
 refine ⟨_, (@zi _ _ _ (@zy _ _ _ _ (@zo _ _ _ _ _ _ _ _ _ (@Ze _ K rfl (by rfl)) rfl gb.all wR (@za _ _ _ _ _ (@zW _ ["sign"] [none] _ _ _ _ _ _ _ _ _ _ (by exact (show zN ["text"] (zf zw) ["sign"] [none] _ from ⟨rfl, by decide +kernel, by decide +kernel, by decide +kernel, by decide +kernel, rfl, by decide +kernel⟩)) rfl (@pi_str _ _ _ _ (@pv _ 0 _ _ (by rfl) (by walk_at "v") (by decide) (by decide))) (fun _ _ _ _ => (@zk _ _ 0 _ nd0 rfl (Or.inl rfl) (by walk_at "f"))) (fun _ _ _ _ => (@qG _)) (fun _ _ _ _ => (@pe_chain _ _ _ _ _ _ _ _ _ _ _ _ (@wW _) (@wW _) (@qO _ _ _ _) (@pv _ 0 _ _ (by rfl) (by walk_at "v") (by decide) (by decide)) (@qO _ _ _ _) (by with_unfolding_all rfl))) (by intro _; rfl)) (@zc _) (by rfl)) (by decide) (by decide) (by rfl) (by rfl)))), ?_⟩
 refine ⟨_, rfl, x, rfl, fun D hD => ?_⟩
 refine map_str (h := fun _ => .bl true) (by omega) hD (fun c hc H' Q' s1 q' => ?_) (fun H' s1 hD' => ?_)
 ·obtain ⟨c0, c1⟩ := hs c hc
  refine ⟨_, rfl, _, _, rfl, rfl, _, rfl, ?_⟩
  have e1 : (!decide ((Str.mk #[c]).cps.toList < (Str.ofString "a").cps.toList)) = true := by
   have : (Str.ofString "a").cps.toList = [97] := by decide +kernel
   rw [this]
   simp [List.cons_lt_cons_iff]
   omega
  have e2 : (!decide ((Str.ofString "z").cps.toList < (Str.mk #[c]).cps.toList)) = true := by
   have : (Str.ofString "z").cps.toList = [122] := by decide +kernel
   rw [this]
   simp [List.cons_lt_cons_iff]
   omega
  rw [if_pos e1]
  refine ⟨_, _, rfl, rfl, ?_⟩
  rw [e2]
  exact q' _ zF.rfl'
 ·rw [trues] at hD'
  refine ⟨D, _, rfl, SqL.of hD', ?_⟩
  rw [xb]
  exact q _ s1
abbrev qW : Stmt := top 4
theorem Wm : zD ["thing"] ["thing"] (zf qW) := ⟨rfl, rfl, rfl, by decide +kernel, rfl, by decide +kernel, by decide +kernel⟩
theorem Wn {P : Program} {w : World} {K : PySem.W.Frag} {mg : Str -> Option Value} {base : Heap} {f : Addr} {fd : FuncData} (F : Fun K "is_letter" "is_letter" qW f fd) (gb : Gb mg) (d_has_small_letters_alone : Def P w K mg base 1 "has_small_letters_alone" ["text"] WT) : jT P w K mg base CX0 2 f fd ["thing"] Yo := by
 refine F.ok Wm (fun vs H Q E h => ?_) (fun cdv A outer s H vs Q E hr h => ?_)
 ·obtain ⟨v, s, rfl, _⟩ := h
  rfl
 obtain ⟨v, s, rfl, ih, hl, q⟩ := h
 refine ⟨_, (@zi _ _ _ (@zy _ _ _ _ (@YC _ _ _ _ _ _ _ (@zo _ _ _ _ _ _ _ _ _ (@qc _ K (by rfl)) rfl gb.isinstance zJ (@za _ _ _ _ _ (@pv _ 0 _ _ (by rfl) (by walk_at "v") (by decide) (by decide)) (@za _ _ _ _ _ (@jt _ _ (.ty "str") _ _ rfl gb.str Jz rfl (by decide) (by decide)) (@zc _) (by rfl)) (by rfl)) (by decide) (by decide) (by rfl) (by rfl)) (@YC _ _ _ _ _ _ _ (@j3 _ _ _ _ _ _ _ _ (@JV _) (@zo _ _ _ _ _ _ _ _ _ (@zY _ K (by rfl)) rfl gb.len jl (@za _ _ _ _ _ (@pv _ 0 _ _ (by rfl) (by walk_at "v") (by decide) (by decide)) (@zc _) (by rfl)) (by decide) (by decide) (by rfl) (by rfl)) (@zh _ _ _ _) (@qm _ _ (by decide) (by decide))) (@pe_one _ _ _ _ _ (@zq _ _ _ _ _ _ _ _ _ _ _ d_has_small_letters_alone hr (by omega) rfl (@za _ _ _ _ _ (@pv _ 0 _ _ (by rfl) (by walk_at "v") (by decide) (by decide)) (@zc _) (by rfl)) (by decide) (by rfl) (by rfl))))))), ?_⟩
 refine ⟨_, rfl, ?_⟩
 cases hs : s.isL with
 | true =>
  obtain rfl := ih.letter hs
  obtain ⟨l1, sm⟩ := hl hs
  refine ⟨_, _, _, true, rfl, .str _, qI "str", true, rfl, WE ?_⟩
  refine ⟨_, rfl, _, s.nm.length, rfl, ⟨zu (by omega), rfl⟩, rfl, true, ?_, WE ?_⟩
  ·rw [l1]
   rfl
  ·exact ⟨_, rfl, s.nm, rfl, sm, by omega, fun H' s1 => by have q2 := q H' s1; rw [hs] at q2; exact q2⟩
 | false =>
  obtain ⟨t, us, rfl, ht, _⟩ := ih.node hs
  exact ⟨_, _, _, false, rfl, .tup ht, QS (K := K) (.tup []), false, rfl, ZU (by have q2 := q H (zF.refl H); rw [hs] at q2; exact q2)⟩
abbrev qe : Stmt := top 8
theorem qJ : zD ["S", "parts", "waiting", "part"] ["S"] (zf qe) := ⟨rfl, rfl, rfl, by decide +kernel, rfl, by decide +kernel, by decide +kernel⟩
theorem QC {P : Program} {w : World} {K : PySem.W.Frag} {mg : Str -> Option Value} {base : Heap} {f : Addr} {fd : FuncData} (F : Fun K "written_parts" "written_parts" qe f fd) (gb : Gb mg) (d_is_letter : Def P w K mg base 2 "is_letter" ["thing"] Yo) : jT P w K mg base CX0 3 f fd ["S"] yF := by
 refine F.ok qJ (fun vs H Q E h => ?_) (fun cdv A outer s H vs Q E hr h => ?_)
 ·obtain ⟨v, s, rfl, _⟩ := h
  rfl
 obtain ⟨v, s, rfl, ih, gs, h63, q⟩ := h
 refine ⟨_, (@ze _ _ _ _ _ (@zv _ _ 1 _ _ _ _ qJ.nd rfl (Or.inl rfl) (@qf _ _ _ _ (@zc _)) (by rfl) (by walk_at "f")) (@ze _ _ _ _ _ (@zv _ _ 2 _ _ _ _ qJ.nd rfl (Or.inl rfl) (@qf _ _ _ _ (@za _ _ _ _ _ (@pv _ 0 _ _ (by rfl) (by walk_at "v") (by decide) (by decide)) (@zc _) (by rfl))) (by rfl) (by walk_at "f")) (@ze _ _ _ _ _ (@ps_while _ _ _ _ _ _ PassesOwn.never (@zL _ _ _ _ _ _ _ _ (@op_gt _) (@zo _ _ _ _ _ _ _ _ _ (@zY _ K (by rfl)) rfl gb.len jl (@za _ _ _ _ _ (@pv _ 2 _ _ (by rfl) (by walk_at "v") (by decide) (by decide)) (@zc _) (by rfl)) (by decide) (by decide) (by rfl) (by rfl)) (@zh _ _ _ _) (@qm _ _ (by decide) (by decide))) (@ze _ _ _ _ _ (@zv _ _ 3 _ _ _ _ qJ.nd rfl (Or.inl rfl) (@kpe_bm0 _ K _ _ _ _ _ _ _ _ PySem.F.plainAttrs_list PySem.F.slot_list_pop PySem.F.type_list_pop (@mt_pop _) (@pv _ 2 _ _ (by rfl) (by walk_at "v") (by decide) (by decide)) (by rfl) (by rfl) (by rfl)) (by rfl) (by walk_at "f")) (@ze _ _ _ _ _ (@jL _ _ _ _ (@ZB _ K _ _ _ _ _ _ _ _ _ _ _ PySem.F.plainAttrs_list PySem.F.slot_list_append PySem.F.type_list_append (@jv _) (@pv _ 1 _ _ (by rfl) (by walk_at "v") (by decide) (by decide)) (@za _ _ _ _ _ (@pv _ 3 _ _ (by rfl) (by walk_at "v") (by decide) (by decide)) (@zc _) (by rfl)) (by rfl) (by rfl) (by rfl) (by rfl) (by rfl) (by rfl)) (by rfl)) (@zi _ _ _ (@qR _ _ _ _ _ _ _ _ (@jR _ _ _ _ (@qF _ _ _ (@zq _ _ _ _ _ _ _ _ _ _ _ d_is_letter hr (by omega) rfl (@za _ _ _ _ _ (@pv _ 3 _ _ (by rfl) (by walk_at "v") (by decide) (by decide)) (@zc _) (by rfl)) (by decide) (by rfl) (by rfl)) (by intro _; rfl))) (@zi _ _ _ (@jL _ _ _ _ (@ZB _ K _ _ _ _ _ _ _ _ _ _ _ PySem.F.plainAttrs_list PySem.F.slot_list_extend PySem.F.type_list_extend (@QN _) (@pv _ 2 _ _ (by rfl) (by walk_at "v") (by decide) (by decide)) (@za _ _ _ _ _ (@Ya _ K _ _ _ _ _ _ rfl gb.list rfl gb.reversed (@za _ _ _ _ _ (@jI _ _ _ _ _ _ _ _ _ _ (@kslT _ K (by rfl)) (@pv _ 3 _ _ (by rfl) (by walk_at "v") (by decide) (by decide)) (@j4 _ _ _ (@zh _ _ _ _)) (@ZI _)) (@zc _) (by rfl)) (by rfl) (by rfl) (by rfl) (by rfl)) (@zc _) (by rfl)) (by rfl) (by rfl) (by rfl) (by rfl) (by rfl) (by rfl)) (by rfl))) (@zI _)))))) (@zi _ _ _ (@zy _ _ _ _ (@pv _ 1 _ _ (by rfl) (by walk_at "v") (by decide) (by decide))))))), ?_⟩
 refine ⟨zu (by show 0 <= 1000; decide), fun pa hpa => ?_⟩
 have n1 := zg hpa (.lst [])
 refine ⟨_, rfl, zu (by show 1 <= 1000; decide), fun wa hwa => ?_⟩
 have n2 := zg hwa (.lst [v])
 have pw : pa ≠ wa := zx zd hwa
 refine ⟨fun m σ H' => (∃ x3, σ = [some v, some (.ref pa), some (.ref wa), x3]) /\ zF H H' /\ ∃ ps ws : List (V × Sy), H' pa = some (.lst (ps.map Prod.fst)) /\ H' wa = some (.lst (ws.map Prod.fst)) /\ SyS H ps /\ SyS H ws /\ ps.map Prod.snd ++ (ws.reverse.flatMap fun z => z.2.sub) = s.sub /\ (ws.map fun z => z.2.sz).sum = m /\ ps.length + m <= 63 /\ ws.length <= m, ⟨s.sz, ⟨_, rfl⟩, n1.trans n2, [], [(v, s)], n2 _ _ zd, zd, (fun z hz => by cases hz), (fun z hz => by rw [List.mem_singleton.mp hz]; exact ⟨gs, ih⟩), by simp, by simp, by simpa using h63, by have := Sy.sz_ps s; simp; omega⟩, ?_⟩
 rintro m σ H1 ⟨⟨x3, rfl⟩, s1, ps, ws, hp, hw, gp, gw, hsub, hm, h6, hwl⟩
 refine ⟨_, rfl, _, _, rfl, .inl ⟨_, SqL.of hw, rfl⟩, _, _, rfl, rfl, _, rfl, ?_⟩
 rw [List.length_map]
 rcases List.eq_nil_or_concat ws with rfl | ⟨ws, z, rfl⟩
 ·refine iteDF rfl ?_
  have e : ps.map Prod.snd = s.sub := by simpa using hsub
  have hP := (gp.same s1).paired
  rw [e] at hP
  exact ⟨_, rfl, q pa _ H1 s1 hp hP⟩
 rw [List.concat_eq_append] at *
 have zl : 0 < z.2.sz := by have := Sy.sz_ps z.2; omega
 refine iteDT (decide_eq_true (by rw [List.length_append]; show (0 : Int) < ((ws.length + 1 : Nat) : Int); omega)) ?_
 rw [List.map_append, List.sum_append] at hm
 simp only [List.map_cons, List.map_nil, List.sum_cons, List.sum_nil, Nat.add_zero] at hm
 have hwl : ws.length + 1 <= m := by simpa using hwl
 rw [List.reverse_append, List.reverse_singleton, List.singleton_append, List.flatMap_cons, Sy.sub_ps z.2] at hsub
 refine ⟨fun σ' H' => (∃ x3, σ' = [some v, some (.ref pa), some (.ref wa), x3]) /\ zF H H' /\ ∃ ps ws : List (V × Sy), H' pa = some (.lst (ps.map Prod.fst)) /\ H' wa = some (.lst (ws.map Prod.fst)) /\ SyS H ps /\ SyS H ws /\ ps.map Prod.snd ++ (ws.reverse.flatMap fun z => z.2.sub) = s.sub /\ (ws.map fun z => z.2.sz).sum = m - 1 /\ ps.length + (m - 1) <= 63 /\ ws.length <= m - 1, fun σ' H' h => ⟨m - 1, by omega, h⟩, ?_⟩
 obtain ⟨gz, iz⟩ := gw z (by simp)
 have gw' : SyS H ws := fun y hy => gw y (List.mem_append_left _ hy)
 refine ⟨_, rfl, .inl ⟨rfl, _, SqL.of hw⟩, wa, _, z.1, rfl, rfl, hw, by simp, ?_⟩
 rw [show (List.map Prod.fst (ws ++ [z])).dropLast = ws.map Prod.fst by rw [List.map_append]; simp]
 have hp2 : (upd H1 wa (.lst (ws.map Prod.fst))) pa = some (.lst (ps.map Prod.fst)) := by rw [zn pw]; exact hp
 have s2 : zF H (upd H1 wa (.lst (ws.map Prod.fst))) := s1.put (n1.free hwa)
 refine ⟨_, rfl, .inl ⟨rfl, _, SqL.of hp2⟩, _, rfl, pa, _, _, rfl, rfl, hp2, by rw [List.length_map]; exact zr (by omega), ?_⟩
 have s3 : zF H (upd (upd H1 wa (.lst (ws.map Prod.fst))) pa (.lst (ps.map Prod.fst ++ [z.1]))) := s2.put hpa
 have hp3 : (upd (upd H1 wa (.lst (ws.map Prod.fst))) pa (.lst (ps.map Prod.fst ++ [z.1]))) pa = some (.lst ((ps ++ [z]).map Prod.fst)) := by rw [zd, List.map_append]; rfl
 have hw3 : (upd (upd H1 wa (.lst (ws.map Prod.fst))) pa (.lst (ps.map Prod.fst ++ [z.1]))) wa = some (.lst (ws.map Prod.fst)) := by rw [zn (Ne.symm pw)]; exact zd
 generalize upd (upd H1 wa (.lst (ws.map Prod.fst))) pa (.lst (ps.map Prod.fst ++ [z.1])) = H3 at *
 have gp' : SyS H (ps ++ [z]) := fun y hy => by
  rcases List.mem_append.mp hy with h | h
  ·exact gp y h
  ·rw [List.mem_singleton.mp h]
   exact ⟨gz, iz⟩
 refine ⟨_, rfl, z.1, z.2, rfl, iz.same s3, gz.isl, fun H4 s4 => ⟨_, rfl, ?_⟩⟩
 cases hz : z.2.isL with
 | true =>
  have zp : z.2.ps = [] /\ z.2.sz = 1 := by
   cases hz' : z.2 with
   | ltr x => exact ⟨rfl, rfl⟩
   | _ => rw [hz'] at hz; cases hz
  rw [zp.1] at hsub
  refine ZU ⟨⟨_, rfl⟩, s3.trans s4, ps ++ [z], ws, s4 _ _ hp3, s4 _ _ hw3, gp', gw', ?_, ?_, ?_, ?_⟩
  ·rw [<- hsub]
   simp
  ·have := zp.2
   omega
  ·rw [List.length_append]
   show ps.length + 1 + (m - 1) <= 63
   omega
  ·have := zp.2
   omega
 | false =>
  refine WE ?_
  obtain ⟨t, us, ev, ht, hP⟩ := iz.node hz
  have hul := Paired.length hP
  have a2 := Sy.ps_le z.2
  have ht4 := (s3.trans s4) _ _ ht
  refine ⟨_, rfl, .inl ⟨rfl, _, SqL.of (s4 _ _ hw3)⟩, _, by rw [ev]; rfl, _, rfl, ?_⟩
  refine JR ht4 fun t5 H5 s5 ht5 => ?_
  rw [jY (by simp)] at ht5
  refine ⟨t5, us, rfl, SqT.of ht5, by omega, fun l6 hl6 => ?_⟩
  have n6 := zg hl6 (.lst us.reverse)
  have s6 := s4.trans (s5.trans n6)
  obtain ⟨y1, y2, y3⟩ := Yp hP fun a ha => gz.part ha
  have hw6 := s6 _ _ hw3
  refine ⟨wa, l6, _, _, rfl, rfl, hw6, zd, by rw [List.length_map, List.length_reverse]; exact zu (by omega), ⟨⟨_, rfl⟩, (s3.trans s6).put (n1.free hwa), ps ++ [z], ws ++ (us.zip z.2.ps).reverse, ?_, ?_, gp', fun y hy => ?_, ?_, ?_, ?_, ?_⟩⟩
  ·rw [zn pw]
   exact s6 _ _ hp3
  ·rw [zd, List.map_append, List.map_reverse, y2]
  ·rcases List.mem_append.mp hy with h | h
   ·exact gw' y h
   ·exact y1 y (List.mem_reverse.mp h)
  ·rw [<- hsub, List.reverse_append, List.reverse_reverse, List.flatMap_append, List.map_append]
   have e1 : ((us.zip z.2.ps).flatMap fun z => z.2.sub) = z.2.ps.flatMap Sy.sub := by
    rw [<- y3, List.flatMap_map]
    rw [y3]
   rw [e1]
   simp
  ·have e1 : ((us.zip z.2.ps).map fun z => z.2.sz) = z.2.ps.map Sy.sz := by
    rw [<- y3, List.map_map]
    rw [y3]
    rfl
   rw [List.map_append, List.sum_append, List.map_reverse, List.sum_reverse, e1]
   have := Sy.sz_ps z.2
   omega
  ·rw [List.length_append]
   show ps.length + 1 + (m - 1) <= 63
   omega
  ·have e1 : (us.zip z.2.ps).length = z.2.ps.length := by rw [<- List.length_map (f := Prod.snd), y3]
   have e2 : z.2.ps.length <= (z.2.ps.map Sy.sz).sum := Xe _ fun y => by have := Sy.sz_ps y; omega
   have e3 : ws.length <= (ws.map fun (z : V × Sy) => z.2.sz).sum := Xe _ fun y => by have := Sy.sz_ps y.2; omega
   have := Sy.sz_ps z.2
   rw [List.length_append, List.length_reverse, e1]
   omega
abbrev zR : Stmt := top 7
theorem qX : zD ["sayings", "letters", "saying"] ["sayings"] (zf zR) := ⟨rfl, rfl, rfl, by decide +kernel, rfl, by decide +kernel, by decide +kernel⟩
theorem Qt {P : Program} {w : World} {K : PySem.W.Frag} {mg : Str -> Option Value} {base : Heap} {f : Addr} {fd : FuncData} (F : Fun K "letters_of_all" "letters_of_all" zR f fd) (gb : Gb mg) (d_written_parts : Def P w K mg base 3 "written_parts" ["S"] yF) (d_is_letter : Def P w K mg base 2 "is_letter" ["thing"] Yo) : jT P w K mg base CX0 4 f fd ["sayings"] wg := by
 refine F.ok qX (fun vs H Q E h => ?_) (fun cdv A outer s H vs Q E hr h => ?_)
 ·obtain ⟨l, ps, L0, rfl, _⟩ := h
  rfl
 obtain ⟨l, ps, L0, rfl, hl, sy, h15, hz, h60, q⟩ := h
 have nd0 : (["part"] : List Str).Nodup := by decide +kernel
 refine ⟨_, (@ze _ _ _ _ _ (@zv _ _ 1 _ _ _ _ qX.nd rfl (Or.inl rfl) (@qf _ _ _ _ (@zc _)) (by rfl) (by walk_at "f")) (@ze _ _ _ _ _ (@qP _ _ _ _ _ _ _ _ PassesOwn.never rfl (@zH _ K _ _ _ (@pv _ 0 _ _ (by rfl) (by walk_at "v") (by decide) (by decide)) (by rfl)) (@zk _ _ 2 _ qX.nd rfl (Or.inl rfl) (by walk_at "f")) (@zi _ _ _ (@jL _ _ _ _ (@ZB _ K _ _ _ _ _ _ _ _ _ _ _ PySem.F.plainAttrs_list PySem.F.slot_list_extend PySem.F.type_list_extend (@QN _) (@pv _ 1 _ _ (by rfl) (by walk_at "v") (by decide) (by decide)) (@za _ _ _ _ _ (@zW _ ["part"] [none] _ _ _ _ _ _ _ _ _ _ (by exact (show zN ["sayings", "letters", "saying"] (zf zR) ["part"] [none] _ from ⟨rfl, by decide +kernel, by decide +kernel, by decide +kernel, by decide +kernel, rfl, by decide +kernel⟩)) rfl (@zH _ K _ _ _ (@zq _ _ _ _ _ _ _ _ _ _ _ d_written_parts hr (by omega) rfl (@za _ _ _ _ _ (@pv _ 2 _ _ (by rfl) (by walk_at "v") (by decide) (by decide)) (@zc _) (by rfl)) (by decide) (by rfl) (by rfl)) (by rfl)) (fun _ _ _ _ => (@zk _ _ 0 _ nd0 rfl (Or.inl rfl) (by walk_at "f"))) (fun _ _ _ _ => (@wQ _ _ _ (@qF _ _ _ (@zq _ _ _ _ _ _ _ _ _ _ _ d_is_letter hr (by omega) rfl (@za _ _ _ _ _ (@pv _ 0 _ _ (by rfl) (by walk_at "v") (by decide) (by decide)) (@zc _) (by rfl)) (by decide) (by rfl) (by rfl)) (by intro _; rfl)))) (fun _ _ _ _ => (@pv _ 0 _ _ (by rfl) (by walk_at "v") (by decide) (by decide))) (by intro _; rfl)) (@zc _) (by rfl)) (by rfl) (by rfl) (by rfl) (by rfl) (by rfl) (by rfl)) (by rfl))) (by intro _; rfl)) (@zi _ _ _ (@zy _ _ _ _ (@zo _ _ _ _ _ _ _ _ _ (@Z9 _ rfl) rfl gb.sorted ZZ (@za _ _ _ _ _ (@zG _ _ _ _ _ _ _ _ _ (@JQ _ K rfl (by rfl)) rfl gb.set ym (@za _ _ _ _ _ (@pv _ 1 _ _ (by rfl) (by walk_at "v") (by decide) (by decide)) (@zc _) (by rfl)) (by decide) (by decide) (by rfl) (by rfl)) (@zc _) (by rfl)) (by decide) (by decide) (by rfl) (by rfl)))))), ?_⟩
 refine ⟨zu (by show 0 <= 1000; decide), fun la hla => ?_⟩
 have n0 := zg hla (.lst [])
 refine ⟨_, rfl, l, rfl, ⟨_, SqL.of (n0 _ _ hl)⟩, ?_⟩
 refine jm (xs := ps.map Prod.fst) (fun i σ H' => (∃ x2, σ = [some (.ref l), some (.ref la), x2]) /\ zF H H' /\ H' la = some (.lst (((ps.take i).flatMap fun z => z.2.lets).map V.str))) ⟨⟨_, rfl⟩, n0, zd⟩ (fun i σ H' _ h => SqL.of (h.2.1 _ _ hl)) ?_ ?_
 ·rintro i x σ H1 hx ⟨⟨x2, rfl⟩, s1, hy⟩
  rw [List.getElem?_map] at hx
  obtain ⟨z, hzi, rfl⟩ := Option.map_eq_some_iff.mp hx
  have hzm := List.mem_of_getElem? hzi
  obtain ⟨lz, iz⟩ := sy z hzm
  obtain ⟨z63, _⟩ := hz z hzm
  have hb := Zo (ps.take i) fun y hy => (hz y (List.mem_of_mem_take hy)).1
  have hzl := (List.getElem?_eq_some_iff.mp hzi).1
  rw [List.length_take] at hb
  refine ⟨_, rfl, .inl ⟨rfl, _, SqL.of hy⟩, ?_⟩
  refine ⟨_, rfl, z.1, z.2, rfl, iz.same s1, lz, z63, fun pa us H2 s2 hpa hP => ?_⟩
  have hul := Paired.length hP
  have hsl := Sy.sub_len z.2
  refine ⟨pa, rfl, ⟨_, SqL.of hpa⟩, fun D hD => ?_⟩
  refine jz (xs := us) (fun j ys H' => zF H2 H' /\ ys = (ltrs (z.2.sub.take j)).map V.str) ⟨zg hD _, rfl⟩ (fun j ys H' h _ => SqL.of (h.1 _ _ hpa)) ?_ ?_
  ·rintro j ys H3 u hu ⟨s3, rfl⟩ hD3
   have hj := (List.getElem?_eq_some_iff.mp hu).1
   have hw : z.2.sub[j]? = some z.2.sub[j] := List.getElem?_eq_getElem (by omega)
   have hwm := List.getElem_mem (l := z.2.sub) (n := j) (by omega)
   generalize z.2.sub[j] = w' at hw hwm
   have iw := Paired.at hP j _ _ hw hu
   have hlt : (ltrs (z.2.sub.take j)).length <= 63 := by
    refine Nat.le_trans (List.length_filterMap_le _ _) ?_
    rw [List.length_take]
    omega
   refine ⟨_, rfl, u, w', rfl, iw.same s3, (lz.sub hwm).isl, fun H4 s4 => ⟨_, rfl, ?_⟩⟩
   cases hl' : w'.isL with
   | true =>
    refine WE ⟨_, rfl, wA hj jU (s4 _ _ hD3) (by rw [List.length_map]; exact zr (by omega)) ⟨(s3.trans s4).put hD, ?_⟩⟩
    rw [take_snoc hw, wf, List.map_append, iw.letter hl']
    congr 1
    unfold ltrs
    rw [List.filterMap_cons, hl']
    rfl
   | false =>
    refine ZU (cno hj jU (s4 _ _ hD3) ⟨s3.trans s4, ?_⟩)
    rw [take_snoc hw, wf]
    have e : ltrs [w'] = [] := by
     unfold ltrs
     rw [List.filterMap_cons, hl']
     rfl
    rw [e, List.append_nil]
  ·rintro ys H3 ⟨s3, rfl⟩ hD3
   rw [<- hul, List.take_length, QI] at hD3
   have hy3 := s3 _ _ (s2 _ _ hy)
   refine ⟨la, D, _, _, rfl, rfl, hy3, hD3, ?_, ⟨⟨_, rfl⟩, (s1.trans (s2.trans s3)).put hla, ?_⟩⟩
   ·have := jO z.2
    rw [List.length_map, List.length_map]
    exact Nat.le_of_lt (zr (by omega))
   ·rw [zd, take_snoc hzi, List.flatMap_append, List.map_append]
    simp only [List.flatMap_cons, List.flatMap_nil, List.append_nil]
 ·rintro σ H1 ⟨⟨x2, rfl⟩, s1, hy⟩
  rw [List.length_map, List.take_length] at hy
  have hb := Zo ps fun y hy => (hz y hy).1
  refine ⟨_, rfl, la, _, rfl, SqL.of hy, by omega, fun sa hsa => ?_⟩
  have hm : ∀ x, x ∈ QR (ps.flatMap fun z => z.2.lets) ↔ ∃ z ∈ ps, x ∈ z.2.lets := fun x => by
   rw [yx, List.mem_flatMap]
  refine ⟨sa, _, rfl, zd, Qo _, ?_, fun k ss hk pm so => q k ss _ (s1.trans ((zg hsa _).trans (zg hk _))) zd (pm.nodup_iff.mpr (Qo _)) (fun x => by rw [pm.mem_iff, hm]) so⟩
  have := Zf _ L0 (Qo (ps.flatMap fun z => z.2.lets)) fun x hx => by
   obtain ⟨z, hzm, hzx⟩ := (hm x).mp hx
   exact (hz z hzm).2 x hzx
  omega
abbrev qB : Stmt := top 10
theorem ZG : zD ["by_letter", "letter", "given", "longer"] ["by_letter", "letter", "given"] (zf qB) := ⟨rfl, rfl, rfl, by decide +kernel, rfl, by decide +kernel, by decide +kernel⟩
theorem Jp {P : Program} {w : World} {K : PySem.W.Frag} {mg : Str -> Option Value} {base : Heap} {f : Addr} {fd : FuncData} (F : Fun K "with_letter" "with_letter" qB f fd) (gb : Gb mg) : jT P w K mg base CX0 1 f fd ["by_letter", "letter", "given"] WU := by
 refine F.ok ZG (fun vs H Q E h => ?_) (fun cdv A outer s H vs Q E hr h => ?_)
 ·obtain ⟨g, u, x, o, ls, rfl, _⟩ := h
  rfl
 obtain ⟨g, u, x, o, ls, rfl, hg, h60, hx, hu, q⟩ := h
 refine ⟨_, (@ze _ _ _ _ _ (@zv _ _ 3 _ _ _ _ ZG.nd rfl (Or.inl rfl) (@zG _ _ _ _ _ _ _ _ _ (@Ql _) rfl gb.dict Qk (@za _ _ _ _ _ (@pv _ 0 _ _ (by rfl) (by walk_at "v") (by decide) (by decide)) (@zc _) (by rfl)) (by decide) (by decide) (by rfl) (by rfl)) (by rfl) (by walk_at "f")) (@ze _ _ _ _ _ (@J8 _ _ _ _ _ _ _ _ _ _ hr (@pv _ 3 _ _ (by rfl) (by walk_at "v") (by decide) (by decide)) (@pv _ 1 _ _ (by rfl) (by walk_at "v") (by decide) (by decide)) (@pv _ 2 _ _ (by rfl) (by walk_at "v") (by decide) (by decide)) rfl) (@zi _ _ _ (@zy _ _ _ _ (@pv _ 3 _ _ (by rfl) (by walk_at "v") (by decide) (by decide)))))), ?_⟩
 obtain ⟨kvs, hk, hP⟩ := hg
 have hkl := Paired.length hP
 refine ⟨_, rfl, g, kvs, rfl, hk, fun p hp => ?_⟩
 have n1 := zg hp (.dK kvs)
 refine ⟨_, rfl, _, rfl, _, rfl, p, kvs, Sum.inr x, rfl, rfl, zd, zr (by omega), _, rfl, q p _ (n1.put hp) ⟨_, zd, ?_⟩⟩
 rw [sets_put hP hx]
 obtain ⟨kvs0, ek⟩ : ∃ z, z = kvs := ⟨_, rfl⟩
 rw [<- ek] at n1 hP ⊢
 have key : ∀ {ls : List (Str × Nat)} {kvs : List (Key × V)}, Paired (fun (p : Str × Nat) (kv : Key × V) => kv.1 = Sum.inr p.1 /\ ∃ u, kv.2 = .ref u /\ H u = some (.tup [nV p.2])) ls kvs -> Paired (fun (p' : Str × Nat) (kv : Key × V) => kv.1 = Sum.inr p'.1 /\ ∃ b, kv.2 = .ref b /\ (upd (upd H p (.dK kvs0)) p (.dK (kvs0 ++ [(Sum.inr x, .ref u)]))) b = some (.tup [nV p'.2])) (ls ++ [(x, o)]) (kvs ++ [(Sum.inr x, .ref u)]) := fun h => by
  induction h with
  | nil => exact .cons ⟨rfl, u, rfl, (n1.put hp) _ _ hu⟩ .nil
  | cons z _ ih =>
   obtain ⟨e1, a, e2, e3⟩ := z
   exact .cons ⟨e1, a, e2, (n1.put hp) _ _ e3⟩ ih
 exact key hP
abbrev zX : Stmt := top 11
theorem QD : zD ["H"] ["H"] (zf zX) := ⟨rfl, rfl, rfl, by decide +kernel, rfl, by decide +kernel, by decide +kernel⟩
theorem QE {P : Program} {w : World} {K : PySem.W.Frag} {mg : Str -> Option Value} {base : Heap} {f : Addr} {fd : FuncData} (F : Fun K "cells_by_name" "cells_by_name" zX f fd) (gb : Gb mg) : jT P w K mg base CX0 1 f fd ["H"] spCbn := by
 refine F.ok QD (fun vs H Q E h => ?_) (fun cdv A outer s H vs Q E hr h => ?_)
 ·obtain ⟨v, T, rfl, _⟩ := h
  rfl
 obtain ⟨v, T, rfl, ia, gT, nT, q⟩ := h
 have nd0 : (["name", "places", "cells"] : List Str).Nodup := by decide +kernel
 refine ⟨_, (@zi _ _ _ (@zy _ _ _ _ (@xn _ _ hr _ _ _ _ rfl gb.dict (@za _ _ _ _ _ (@zW _ ["name", "places", "cells"] [none, none, none] _ _ _ _ _ _ _ _ _ _ (by exact (show zN ["H"] (zf zX) ["name", "places", "cells"] [none, none, none] _ from ⟨rfl, by decide +kernel, by decide +kernel, by decide +kernel, by decide +kernel, rfl, by decide +kernel⟩)) rfl (@ZK _ K _ _ _ (@zC _ _ _ _ _ _ _ (@zj _ K (by rfl)) (@pv _ 0 _ _ (by rfl) (by walk_at "v") (by decide) (by decide)) (@zh _ _ _ _) (fun _ _ => rfl)) (by rfl)) (fun _ _ _ _ => (@QP _ K _ _ _ _ 3 rfl (@qr _ _ _ _ _ (@zk _ _ 0 _ nd0 rfl (Or.inl rfl) (by walk_at "f")) (@qr _ _ _ _ _ (@zk _ _ 1 _ nd0 rfl (Or.inl rfl) (by walk_at "f")) (@qr _ _ _ _ _ (@zk _ _ 2 _ nd0 rfl (Or.inl rfl) (by walk_at "f")) (@QL _) (by rfl)) (by rfl)) (by rfl)) (by rfl) (by rfl) (by rfl))) (fun _ _ _ _ => (@qG _)) (fun _ _ _ _ => (@qU _ _ _ _ _ (@za _ _ _ _ _ (@qU _ _ _ _ _ (@za _ _ _ _ _ (@pv _ 0 _ _ (by rfl) (by walk_at "v") (by decide) (by decide)) (@za _ _ _ _ _ (@pv _ 1 _ _ (by rfl) (by walk_at "v") (by decide) (by decide)) (@zc _) (by rfl)) (by rfl))) (@za _ _ _ _ _ (@pv _ 2 _ _ (by rfl) (by walk_at "v") (by decide) (by decide)) (@zc _) (by rfl)) (by rfl)))) (by intro _; rfl)) (@zc _) (by rfl)) (by rfl) (by rfl)))), ?_⟩
 obtain ⟨a, w0, c, vs, rfl, h1, h2, h3, h4⟩ := id ia
 have gcl := gT.cl
 have gx : ∀ i, ∃ t u : Addr, i < T.cs.length -> vs[i]? = some (.ref t) /\ H t = some (.tup [.str (T.cs.getD i d0).nm, nV (T.cs.getD i d0).pl, .ref u]) /\ H u = some (.tup ((T.cs.getD i d0).cs.map nV)) := fun i => by
  by_cases hi : i < T.cs.length
  ·have hc : T.cs[i]? = some (T.cs.getD i d0) := by simp [List.getD, hi]
   obtain ⟨t, u, h⟩ := h4.get hc
   exact ⟨t, u, fun _ => h⟩
  ·exact ⟨0, 0, fun h => absurd h hi⟩
 obtain ⟨ad, gx⟩ := Classical.axiomOfChoice gx
 obtain ⟨au, gx⟩ := Classical.axiomOfChoice gx
 have ge : ∀ i, i < T.cs.length -> T.cs[i]? = some (T.cs.getD i d0) := fun i hi => by simp [List.getD, hi]
 refine ⟨_, rfl, .inr (.inl ⟨a, _, 2, _, rfl, rfl, SqT.of h1, rfl, c, rfl, ⟨_, SqT.of h3⟩, fun D hD => ?_⟩)⟩
 refine wY (n := T.cs.length) (ad := ad) (v1 := fun i => .str (T.cs.getD i d0).nm) (v2 := fun i => nV (T.cs.getD i d0).pl) (v3 := fun i => .ref (au i)) (more := []) (fun i ys H' => zF H H' /\ ys.length = i /\ WL H' ys (ctOf T au i)) ⟨zg hD _, rfl, .nil⟩ h4.len.symm (fun i hi => (gx i hi).1) (fun i ys H' h _ => SqT.of (h.1 _ _ h3)) (fun i ys H' hi h => SqT.of (h.1 _ _ (gx i hi).2.1)) ?_ ?_
 ·rintro i ys H1 hi ⟨s1, yl, hP⟩ hD1
  refine yes ⟨_, rfl, _, rfl, zu (by show 2 <= 1000; decide), fun t1 ht1 => ?_⟩
  have n1 := zg ht1 (.tup [.str (T.cs.getD i d0).nm, nV (T.cs.getD i d0).pl])
  refine ⟨_, rfl, zu (by show 2 <= 1000; decide), fun t2 ht2 => ?_⟩
  have n2 := zg ht2 (.tup [.ref t1, .ref (au i)])
  have hD2 := n2 _ _ (n1 _ _ hD1)
  refine wA hi ⟨_, _, _, rfl⟩ hD2 (zr (by omega)) ⟨(s1.trans (n1.trans n2)).put hD, by rw [List.length_append, yl]; rfl, ?_⟩
  rw [ct_snoc]
  exact WL.snoc (p := (xR (T.cs.getD i d0), .ref (au i))) (WL.tk (Tk.put hD2) (WL.tk (Tk.of (n1.trans n2)) hP)) (Tk.put hD2 _ _ zd) (Tk.put hD2 _ _ (n2 _ _ zd))
 ·rintro ys H1 ⟨s1, yl, hP⟩ hD1
  refine ⟨D, ys, _, rfl, hD1, hP, fun e he => q e _ (s1.trans (zg he _)) ⟨_, zd, fun cc hcc => ?_⟩⟩
  obtain ⟨i, hi⟩ := List.mem_iff_getElem?.mp hcc
  have hil := (List.getElem?_eq_some_iff.mp hi).1
  have en : T.cs.getD i d0 = cc := by
   have := ge i hil
   rw [hi] at this
   exact (Option.some.inj this).symm
  refine ⟨au i, ?_, ?_⟩
  ·rw [<- en]
   exact xJ (ctOf T au T.cs.length) [] (xR (T.cs.getD i d0), .ref (au i)) (ct_nd nT) (List.mem_map.mpr ⟨i, List.mem_range.mpr hil, rfl⟩)
  ·rw [<- en]
   exact (s1.trans (zg he _)) _ _ (gx i hil).2.2
abbrev qC : Stmt := top 12
theorem ZH : zD ["shapes", "parts", "part"] ["shapes", "parts"] (zf qC) := ⟨rfl, rfl, rfl, by decide +kernel, rfl, by decide +kernel, by decide +kernel⟩
theorem Jq {P : Program} {w : World} {K : PySem.W.Frag} {mg : Str -> Option Value} {base : Heap} {f : Addr} {fd : FuncData} (F : Fun K "check_names" "check_names" qC f fd) (gb : Gb mg) (d_is_letter : Def P w K mg base 2 "is_letter" ["thing"] Yo) : jT P w K mg base CX0 3 f fd ["shapes", "parts"] Xi := by
 refine F.ok ZH (fun vs H Q E h => ?_) (fun cdv A outer s H vs Q E hr h => ?_)
 ·obtain ⟨e', l, us, ss, T, L, rfl, _⟩ := h
  rfl
 obtain ⟨e', l, us, ss, T, L, rfl, hcd, hl, hP, gS, hL, q⟩ := h
 refine ⟨_, (@zi _ _ _ (@qP _ _ _ _ _ _ _ _ PassesOwn.never rfl (@zH _ K _ _ _ (@pv _ 1 _ _ (by rfl) (by walk_at "v") (by decide) (by decide)) (by rfl)) (@zk _ _ 2 _ ZH.nd rfl (Or.inl rfl) (by walk_at "f")) (@zi _ _ _ (@qR _ _ _ _ _ _ _ _ (@PW.pt _ _ _ (@pw_and _ _ _ _ _ _ _ (@jR _ _ _ _ (@qF _ _ _ (@zq _ _ _ _ _ _ _ _ _ _ _ d_is_letter hr (by omega) rfl (@za _ _ _ _ _ (@pv _ 2 _ _ (by rfl) (by walk_at "v") (by decide) (by decide)) (@zc _) (by rfl)) (by decide) (by rfl) (by rfl)) (by intro _; rfl))) (@YB _ _ _ _ (@zL _ _ _ _ _ _ _ _ (@xo _ _ hr) (@qU _ _ _ _ _ (@za _ _ _ _ _ (@zC _ _ _ _ _ _ _ (@zj _ K (by rfl)) (@pv _ 2 _ _ (by rfl) (by walk_at "v") (by decide) (by decide)) (@zh _ _ _ _) (fun _ _ => rfl)) (@za _ _ _ _ _ (@zP _ _ _ _ _ _ _ _ (@wF _) (@zo _ _ _ _ _ _ _ _ _ (@zY _ K (by rfl)) rfl gb.len jl (@za _ _ _ _ _ (@pv _ 2 _ _ (by rfl) (by walk_at "v") (by decide) (by decide)) (@zc _) (by rfl)) (by decide) (by decide) (by rfl) (by rfl)) (@zh _ _ _ _)) (@zc _) (by rfl)) (by rfl))) (@pv _ 0 _ _ (by rfl) (by walk_at "v") (by decide) (by decide)) (by with_unfolding_all rfl))))) (@zi _ _ _ (@ps_never _ _)) (@zI _))) (by intro _; rfl))), ?_⟩
 refine ⟨_, rfl, l, rfl, ⟨_, SqL.of hl⟩, ?_⟩
 refine jm (xs := us) (fun i σ H' => (∃ x2, σ = [some (.ref e'), some (.ref l), x2]) /\ zF H H') ⟨⟨_, rfl⟩, zF.refl _⟩ (fun i σ H' _ h => SqL.of (h.2 _ _ hl)) ?_ (fun σ H' h => q H' h.2)
 rintro i x σ H1 hx ⟨⟨x2, rfl⟩, s1⟩
 have hlen := Paired.length hP
 have hi := (List.getElem?_eq_some_iff.mp hx).1
 have hsi : ss[i]? = some ss[i] := List.getElem?_eq_getElem (by omega)
 generalize ss[i] = z at hsi
 have iz := Paired.at hP i _ _ hsi hx
 have gz := gS z (List.mem_of_getElem? hsi)
 refine ⟨_, rfl, x, z, rfl, iz.same s1, fun h => hL _ (gz.letter h), fun H2 s2 => ⟨_, rfl, ?_⟩⟩
 cases hs : z.isL with
 | true => exact ⟨⟨_, rfl⟩, s1.trans s2⟩
 | false =>
  obtain ⟨t, us2, ev, ht, hP2⟩ := iz.node hs
  obtain ⟨⟨c, hc, cn, cp⟩, gps⟩ := gz.node hs
  have hul := Paired.length hP2
  have ht2 := s2 _ _ (s1 _ _ ht)
  rw [ev]
  obtain ⟨kvs, hk, hv⟩ := (hcd.same s1).same s2
  obtain ⟨u, e1, e2⟩ := hv c hc
  refine ⟨_, rfl, .inr (.inl ⟨t, _, _, _, rfl, rfl, SqT.of ht2, at0, _, rfl, _, _, rfl, .inr ⟨_, SqT.of ht2, rfl⟩, _, _, rfl, rfl, zu (by show 2 <= 1000; decide), fun t3 ht3 => ?_⟩)⟩
  have el : V.int (((.str z.nm :: us2 : List V).length : Int) - 1) = .int ((c.pl : Nat) : Int) := by
   rw [List.length_cons, <- hul, cp]
   show V.int _ = V.int _
   congr 1
   omega
  dsimp only
  rw [el]
  have n3 := zg ht3 (.tup [.str z.nm, .int ((c.pl : Nat) : Int)])
  refine ⟨_, rfl, e', t3, kvs, xR c, rfl, rfl, n3 _ _ hk, ?_, ?_⟩
  ·rw [zd]
   unfold xR
   rw [cn]
   rfl
  rw [e1]
  exact ⟨_, rfl, ⟨⟨_, rfl⟩, s1.trans (s2.trans n3)⟩⟩
abbrev qj : Stmt := top 14
theorem jP : zD ["places", "many", "grades", "reached", "place"] ["places", "many", "grades"] (zf qj) := ⟨rfl, rfl, rfl, by decide +kernel, rfl, by decide +kernel, by decide +kernel⟩
theorem Jr {P : Program} {w : World} {K : PySem.W.Frag} {mg : Str -> Option Value} {base : Heap} {f : Addr} {fd : FuncData} (F : Fun K "next_places" "next_places" qj f fd) (gb : Gb mg) : jT P w K mg base CX0 1 f fd ["places", "many", "grades"] Xf := by
 refine F.ok jP (fun vs H Q E h => ?_) (fun cdv A outer s H vs Q E hr h => ?_)
 ·obtain ⟨ps, gs, m, P, G, rfl, _⟩ := h
  rfl
 obtain ⟨ps, gs, m, P, G, rfl, m9, hp, hg, p9, g9, q⟩ := h
 have nd0 : (["one", "place", "many"] : List Str).Nodup := by decide +kernel
 refine ⟨_, (@ze _ _ _ _ _ (@zv _ _ 3 _ _ _ _ jP.nd rfl (Or.inl rfl) (@qf _ _ _ _ (@zc _)) (by rfl) (by walk_at "f")) (@ze _ _ _ _ _ (@qP _ _ _ _ _ _ _ _ PassesOwn.never rfl (@zH _ K _ _ _ (@pv _ 0 _ _ (by rfl) (by walk_at "v") (by decide) (by decide)) (by rfl)) (@zk _ _ 4 _ jP.nd rfl (Or.inr rfl) (by walk_at "f")) (@zi _ _ _ (@jL _ _ _ _ (@ZB _ K _ _ _ _ _ _ _ _ _ _ _ PySem.F.plainAttrs_list PySem.F.slot_list_extend PySem.F.type_list_extend (@QN _) (@pv _ 3 _ _ (by rfl) (by walk_at "v") (by decide) (by decide)) (@za _ _ _ _ _ (@zW _ ["one", "place", "many"] [none, some 4, some 1] _ _ _ _ _ _ _ _ _ _ (by exact (show zN ["places", "many", "grades", "reached", "place"] (zf qj) ["one", "place", "many"] [none, some 4, some 1] _ from ⟨rfl, by decide +kernel, by decide +kernel, by decide +kernel, by decide +kernel, rfl, by decide +kernel⟩)) rfl (@zH _ K _ _ _ (@pv _ 2 _ _ (by rfl) (by walk_at "v") (by decide) (by decide)) (by rfl)) (fun _ _ _ _ => (@zk _ _ 0 _ nd0 rfl (Or.inl rfl) (by walk_at "f"))) (fun _ _ _ _ => (@qG _)) (fun _ _ _ _ => (@zP _ _ _ _ _ _ _ _ (@jg _) (@zP _ _ _ _ _ _ _ _ (@Zb _) (@pv _ 1 _ _ (by rfl) (by walk_at "v") (by decide) (by decide)) (@pv _ 2 _ _ (by rfl) (by walk_at "v") (by decide) (by decide))) (@pv _ 0 _ _ (by rfl) (by walk_at "v") (by decide) (by decide)))) (by intro _; rfl)) (@zc _) (by rfl)) (by rfl) (by rfl) (by rfl) (by rfl) (by rfl) (by rfl)) (by rfl))) (by intro _; rfl)) (@zi _ _ _ (@zy _ _ _ _ (@pv _ 3 _ _ (by rfl) (by walk_at "v") (by decide) (by decide)))))), ?_⟩
 refine ⟨zu (by show 0 <= 1000; decide), fun rd hrd => ?_⟩
 refine ⟨_, rfl, ps, rfl, ⟨_, SqL.of (zg hrd _ _ _ hp)⟩, ?_⟩
 refine jm (xs := P.map nV) (fun i σ H' => (∃ x, σ = [some (.ref ps), some (nV m), some (.ref gs), some (.ref rd), x]) /\ zF H H' /\ H' rd = some (.lst (((P.take i).flatMap fun p => G.map fun g => p * m + g).map nV))) ⟨⟨_, rfl⟩, zg hrd _, zd⟩ (fun i σ H' _ h => SqL.of (h.2.1 _ _ hp)) ?_ ?_
 ·rintro i x σ H1 hx ⟨⟨x', rfl⟩, s1, h1⟩
  rw [List.getElem?_map] at hx
  obtain ⟨pp, hpp, rfl⟩ := Option.map_eq_some_iff.mp hx
  refine ⟨_, rfl, .inl ⟨rfl, _, SqL.of h1⟩, _, rfl, gs, rfl, ⟨_, SqL.of (s1 _ _ hg)⟩, fun D hD => ?_⟩
  have hlen : (((P.take i).flatMap fun p => G.map fun g => p * m + g).map nV).length <= 81 := by
   rw [List.length_map, Tn.flat_len _ G.length (fun x => by rw [List.length_map]), List.length_take]
   exact Nat.le_trans (Nat.mul_le_mul (show _ <= 9 by omega) g9) (by decide)
  refine jo G nV (fun g => nV (pp * m + g)) (s1 _ _ hg) (by omega) hD (fun z hz H' Q' s2 q' => ?_) (fun H2 s2 hD2 => ?_)
  ·have q2 := q' H' zF.rfl'
   rw [show nV (pp * m + z) = V.int ((pp : Int) * (m : Int) + (z : Int)) by show V.int _ = _; rw [Int.natCast_add, Int.natCast_mul]] at q2
   exact ⟨_, rfl, _, rfl, _, _, rfl, rfl, .inr ⟨by omega, by omega⟩, _, rfl, _, _, rfl, rfl, q2⟩
  ·refine ⟨rd, D, _, _, rfl, rfl, s2 _ _ h1, hD2, ?_, ⟨⟨_, rfl⟩, (s1.trans s2).put hrd, ?_⟩⟩
   ·have hG : (G.map fun g => nV (pp * m + g)).length = G.length := List.length_map ..
    rw [hG]
    exact zu (by omega)
   ·rw [zd, take_snoc hpp, List.flatMap_append, List.map_append]
    simp only [List.flatMap_cons, List.flatMap_nil, List.append_nil, List.map_map]
    rfl
 ·rintro σ H1 ⟨⟨x', rfl⟩, s1, h1⟩
  rw [List.length_map, List.take_length] at h1
  exact ⟨_, rfl, q rd _ s1 h1⟩
abbrev zM : Stmt := top 16
theorem zQ : zD ["cells", "many", "S", "sets", "places", "part", "given", "reached"] ["cells", "many", "S", "sets"] (zf zM) := ⟨rfl, rfl, rfl, by decide +kernel, rfl, by decide +kernel, by decide +kernel⟩
theorem Qd {P : Program} {w : World} {K : PySem.W.Frag} {mg : Str -> Option Value} {base : Heap} {f : Addr} {fd : FuncData} (F : Fun K "possible_within" "possible_within" zM f fd) (gb : Gb mg) (d_is_letter : Def P w K mg base 2 "is_letter" ["thing"] Yo) (d_next_places : Def P w K mg base 1 "next_places" ["places", "many", "grades"] Xf) (j : Nat) (d_possible_within : Def P w K mg base (6 + j) "possible_within" ["cells", "many", "S", "sets"] (yG j)) : jT P w K mg base CX0 (6 + j + 1) f fd ["cells", "many", "S", "sets"] (yG (j + 1)) := by
 refine F.ok zQ (fun vs H Q E h => ?_) (fun cdv A outer s H vs Q E hr h => ?_)
 ·obtain ⟨e', g, v, T, L, s, ls, rfl, _⟩ := h
  rfl
 obtain ⟨e', g, v, T, L, s, ls, rfl, hc, gT, nT, ih, gs, hL, hg, hlt, hj, q⟩ := h
 have nd0 : (["place", "given"] : List Str).Nodup := by decide +kernel
 refine ⟨_, (@ze _ _ _ _ _ (@qR _ _ _ _ _ _ _ _ (@qF _ _ _ (@zq _ _ _ _ _ _ _ _ _ _ _ d_is_letter hr (by omega) rfl (@za _ _ _ _ _ (@pv _ 2 _ _ (by rfl) (by walk_at "v") (by decide) (by decide)) (@zc _) (by rfl)) (by decide) (by rfl) (by rfl)) (by intro _; rfl)) (@zi _ _ _ (@zy _ _ _ _ (@yd _ _ _ _ _ _ _ _ (@zL _ _ _ _ _ _ _ _ (@op_kIn _ _ hr) (@pv _ 2 _ _ (by rfl) (by walk_at "v") (by decide) (by decide)) (@pv _ 3 _ _ (by rfl) (by walk_at "v") (by decide) (by decide)) (by with_unfolding_all rfl)) (@zG _ _ _ _ _ _ _ _ _ (@jn _ K (by rfl)) rfl gb.list Zd (@za _ _ _ _ _ (@WI _ _ _ _ _ _ (@pv _ 3 _ _ (by rfl) (by walk_at "v") (by decide) (by decide)) (@pv _ 2 _ _ (by rfl) (by walk_at "v") (by decide) (by decide)) (fun _ _ => rfl)) (@zc _) (by rfl)) (by decide) (by decide) (by rfl) (by rfl)) (@zG _ _ _ _ _ _ _ _ _ (@Qj _ rfl) rfl gb.list Zd (@za _ _ _ _ _ (@xf _ _ _ _ _ rfl gb.range (@za _ _ _ _ _ (@pv _ 1 _ _ (by rfl) (by walk_at "v") (by decide) (by decide)) (@zc _) (by rfl)) (by rfl)) (@zc _) (by rfl)) (by decide) (by decide) (by rfl) (by rfl))))) (@zI _)) (@ze _ _ _ _ _ (@zv _ _ 4 _ _ _ _ zQ.nd rfl (Or.inl rfl) (@qf _ _ _ _ (@za _ _ _ _ _ (@zh _ _ _ _) (@zc _) (by rfl))) (by rfl) (by walk_at "f")) (@ze _ _ _ _ _ (@qP _ _ _ _ _ _ _ _ PassesOwn.never rfl (@ZK _ K _ _ _ (@jI _ _ _ _ _ _ _ _ _ _ (@kslT _ K (by rfl)) (@pv _ 2 _ _ (by rfl) (by walk_at "v") (by decide) (by decide)) (@j4 _ _ _ (@zh _ _ _ _)) (@ZI _)) (by rfl)) (@zk _ _ 5 _ zQ.nd rfl (Or.inl rfl) (by walk_at "f")) (@zi _ _ _ (@zv _ _ 4 _ _ _ _ zQ.nd rfl (Or.inl rfl) (@zq _ _ _ _ _ _ _ _ _ _ _ d_next_places hr (by omega) rfl (@za _ _ _ _ _ (@pv _ 4 _ _ (by rfl) (by walk_at "v") (by decide) (by decide)) (@za _ _ _ _ _ (@pv _ 1 _ _ (by rfl) (by walk_at "v") (by decide) (by decide)) (@za _ _ _ _ _ (@zq _ _ _ _ _ _ _ _ _ _ _ d_possible_within hr (by omega) rfl (@za _ _ _ _ _ (@pv _ 0 _ _ (by rfl) (by walk_at "v") (by decide) (by decide)) (@za _ _ _ _ _ (@pv _ 1 _ _ (by rfl) (by walk_at "v") (by decide) (by decide)) (@za _ _ _ _ _ (@pv _ 5 _ _ (by rfl) (by walk_at "v") (by decide) (by decide)) (@za _ _ _ _ _ (@pv _ 3 _ _ (by rfl) (by walk_at "v") (by decide) (by decide)) (@zc _) (by rfl)) (by rfl)) (by rfl)) (by rfl)) (by decide) (by rfl) (by rfl)) (@zc _) (by rfl)) (by rfl)) (by rfl)) (by decide) (by rfl) (by rfl)) (by rfl) (by walk_at "f"))) (by intro _; rfl)) (@ze _ _ _ _ _ (@zv _ _ 6 _ _ _ _ zQ.nd rfl (Or.inr rfl) (@pe_dget _ _ _ _ _ _ (@hu1 _ _ hr) (@pv _ 0 _ _ (by rfl) (by walk_at "v") (by decide) (by decide)) (@qU _ _ _ _ _ (@za _ _ _ _ _ (@zC _ _ _ _ _ _ _ (@zj _ K (by rfl)) (@pv _ 2 _ _ (by rfl) (by walk_at "v") (by decide) (by decide)) (@zh _ _ _ _) (fun _ _ => rfl)) (@za _ _ _ _ _ (@zP _ _ _ _ _ _ _ _ (@wF _) (@zo _ _ _ _ _ _ _ _ _ (@zY _ K (by rfl)) rfl gb.len jl (@za _ _ _ _ _ (@pv _ 2 _ _ (by rfl) (by walk_at "v") (by decide) (by decide)) (@zc _) (by rfl)) (by decide) (by decide) (by rfl) (by rfl)) (@zh _ _ _ _)) (@zc _) (by rfl)) (by rfl))) (fun _ _ => rfl)) (by rfl) (by walk_at "f")) (@ze _ _ _ _ _ (@Qi _ ["place", "given"] [none, some 6] _ 7 _ _ _ _ _ _ _ _ _ _ _ _ (by exact (show zN ["cells", "many", "S", "sets", "places", "part", "given", "reached"] (zf zM) ["place", "given"] [none, some 6] _ from ⟨rfl, by decide +kernel, by decide +kernel, by decide +kernel, by decide +kernel, rfl, by decide +kernel⟩)) rfl (@zH _ K _ _ _ (@pv _ 4 _ _ (by rfl) (by walk_at "v") (by decide) (by decide)) (by rfl)) (fun _ _ _ _ => (@zk _ _ 0 _ nd0 rfl (Or.inl rfl) (by walk_at "f"))) (fun _ _ _ _ => (@qG _)) (fun _ _ _ _ => (@zC _ _ _ _ _ _ _ (@zj _ K (by rfl)) (@pv _ 1 _ _ (by rfl) (by walk_at "v") (by decide) (by decide)) (@pv _ 0 _ _ (by rfl) (by walk_at "v") (by decide) (by decide)) (fun _ _ => rfl))) zQ.nd rfl rfl rfl (by intro _; rfl)) (@zi _ _ _ (@zy _ _ _ _ (@yd _ _ _ _ _ _ _ _ (@zL _ _ _ _ _ _ _ _ (@jp _ K (by rfl)) (@pe_non _ _ _) (@pv _ 7 _ _ (by rfl) (by walk_at "v") (by decide) (by decide)) (by with_unfolding_all rfl)) (@zG _ _ _ _ _ _ _ _ _ (@Qj _ rfl) rfl gb.list Zd (@za _ _ _ _ _ (@xf _ _ _ _ _ rfl gb.range (@za _ _ _ _ _ (@pv _ 1 _ _ (by rfl) (by walk_at "v") (by decide) (by decide)) (@zc _) (by rfl)) (by rfl)) (@zc _) (by rfl)) (by decide) (by decide) (by rfl) (by rfl)) (@zo _ _ _ _ _ _ _ _ _ (@Z8 _ rfl) rfl gb.sorted ZZ (@za _ _ _ _ _ (@zG _ _ _ _ _ _ _ _ _ (@JN _ K rfl (by rfl)) rfl gb.set ym (@za _ _ _ _ _ (@pv _ 7 _ _ (by rfl) (by walk_at "v") (by decide) (by decide)) (@zc _) (by rfl)) (by decide) (by decide) (by rfl) (by rfl)) (@zc _) (by rfl)) (by decide) (by decide) (by rfl) (by rfl)))))))))), ?_⟩
 have m9 := gT.m9
 refine ⟨_, rfl, v, s, rfl, ih, fun h => hL _ (gs.letter h), fun H1 s1 => ⟨_, rfl, ?_⟩⟩
 cases hs : s.isL with
 | true =>
  have ev := ih.letter hs
  obtain ⟨kvs, hk, hP⟩ := hg.same s1
  have hv := yC hP s.nm
  refine WE ⟨_, rfl, _, rfl, g, kvs, Sum.inr s.nm, rfl, by rw [ev]; rfl, hk, ?_⟩
  cases hlk : ls.lookup s.nm with
  | some o =>
   rw [hlk] at hv
   obtain ⟨u, e1, e2⟩ := hv
   rw [e1]
   refine ⟨_, rfl, WE ⟨_, rfl, _, rfl, g, kvs, Sum.inr s.nm, _, rfl, hk, by rw [ev]; rfl, e1, ?_⟩⟩
   refine ⟨u, _, rfl, .inr (SqT.of e2), fun l hl => q l [o] _ (s1.trans (zg hl _)) zd (fun y => ?_) (show 1 <= 9 by decide)⟩
   rw [Zx hs, hlk, List.mem_singleton]
  | none =>
   rw [hlk] at hv
   have hv : jE kvs (Sum.inr s.nm) = none := hv
   rw [hv]
   refine ⟨_, rfl, ZU ⟨_, rfl, (T.m : Int), rfl, fun p hp => ?_⟩⟩
   refine ⟨p, (T.m : Int), rfl, zd, by omega, by omega, fun l hl => q l (List.range T.m) _ (s1.trans ((zg hp _).trans (zg hl _))) ?_ (fun y => ?_) (by rw [List.length_range]; exact m9)⟩
   ·rw [zd, Int.toNat_natCast]
   ·rw [Zx hs, hlk, List.mem_range]
 | false =>
  refine ZU ?_
  obtain ⟨t, us, ev, ht, hP⟩ := ih.node hs
  obtain ⟨⟨c, hcm, cn, cp⟩, gps⟩ := gs.node hs
  have hul := Paired.length hP
  have a2 := Sy.ps_le s
  have ht1 := s1 _ _ ht
  rw [ev]
  refine ⟨zu (by show 1 <= 1000; decide), fun r0 hr0 => ?_⟩
  have n1 := zg hr0 (.lst [.int 0])
  refine ⟨_, rfl, _, rfl, ?_⟩
  refine JR (n1 _ _ ht1) fun t2 H2 s2 ht2 => ?_
  rw [jY (by simp)] at ht2
  refine ⟨t2, rfl, ⟨_, SqT.of ht2⟩, ?_⟩
  have S2 := s1.trans (n1.trans s2)
  refine JU (xs := us) (fun i σ H' => (∃ (l : Addr) (P : List Nat) (x5 : Option V), σ = [some (.ref e'), some (nV T.m), some (.ref t), some (.ref g), some (.ref l), x5, none, none] /\ H' l = some (.lst (P.map nV)) /\ P.length <= 9 ^ i /\ ∀ y, y ∈ P ↔ ∃ r, Yx T ls (s.ps.take i) r /\ y = Tn.place T.m r) /\ zF H2 H') ⟨⟨r0, [0], _, rfl, s2 _ _ zd, by decide, fun y => ?_⟩, zF.refl _⟩ (fun i σ H' _ h => SqT.of (h.2 _ _ ht2)) ?_ ?_
  ·rw [List.mem_singleton]
   constructor
   ·rintro rfl
    exact ⟨[], .nil, rfl⟩
   ·rintro ⟨r, h, e⟩
    cases h
    exact e
  ·rintro i x σ H3 hx ⟨⟨l, P, x5, rfl, hl, hpl, hm⟩, s3⟩
   have hi : i < us.length := (List.getElem?_eq_some_iff.mp hx).1
   have ha : s.ps[i]? = some s.ps[i] := List.getElem?_eq_getElem (by omega)
   generalize s.ps[i] = a at ha
   have hia := Paired.at hP i _ _ ha hx
   have ham := List.mem_of_getElem? ha
   have hda := Sy.dp_lt ham
   have S3 := S2.trans s3
   have p9 : P.length <= 9 := by
    have : i = 0 \/ i = 1 := by omega
    rcases this with h | h <;> rw [h] at hpl <;> omega
   match j, hj, d_possible_within with
   | 0, hj, _ => exact absurd hj (by omega)
   | j + 1, hj, _ =>
   refine ⟨_, rfl, _, rfl, _, rfl, _, rfl, _, rfl, _, rfl, e', g, x, T, L, a, ls, rfl, hc.same S3, gT, nT, hia.same S3, gps a ham, hL, hg.same S3, hlt, by omega, fun l4 xs H4 s4 h4 hx4 x9 => ?_⟩
   refine ⟨l, l4, T.m, P, xs, rfl, m9, s4 _ _ hl, h4, p9, x9, fun l5 H5 s5 h5 => ⟨⟨l5, _, _, rfl, h5, ?_, fun y => ?_⟩, s3.trans (s4.trans s5)⟩⟩
   ·rw [Tn.flat_len _ xs.length (fun x => by rw [List.length_map]), Nat.pow_succ]
    exact Nat.mul_le_mul hpl x9
   ·rw [List.mem_flatMap, take_snoc ha]
    constructor
    ·rintro ⟨p, hp, hy⟩
     obtain ⟨o, ho, rfl⟩ := List.mem_map.mp hy
     obtain ⟨r, hr', rfl⟩ := (hm p).mp hp
     exact ⟨r ++ [o], Wi hr' ((hx4 o).mp ho), (Tn.place_snoc _ _ _).symm⟩
    ·rintro ⟨r, hr', rfl⟩
     obtain ⟨r', o, rfl, h1, h2⟩ := Zl hr'
     refine ⟨Tn.place T.m r', (hm _).mpr ⟨r', h1, rfl⟩, List.mem_map.mpr ⟨o, (hx4 o).mpr h2, (Tn.place_snoc _ _ _).symm⟩⟩
  ·rintro σ H3 ⟨⟨l, P, x5, rfl, hl, hpl, hm⟩, s3⟩
   rw [<- hul, List.take_length] at hm
   have p81 : P.length <= 81 := by
    have : us.length = 0 \/ us.length = 1 \/ us.length = 2 := by omega
    rcases this with h | h | h <;> rw [h] at hpl <;> omega
   have S3 := S2.trans s3
   have ht3 := S3 _ _ ht
   obtain ⟨kvs, hk, hv⟩ := hc.same S3
   obtain ⟨u, e1, e2⟩ := hv c hcm
   refine ⟨_, rfl, _, rfl, .inr (.inl ⟨t, _, _, _, rfl, rfl, SqT.of ht3, at0, _, rfl, _, _, rfl, .inr ⟨_, SqT.of ht3, rfl⟩, _, _, rfl, rfl, zu (by show 2 <= 1000; decide), fun t4 ht4 => ?_⟩)⟩
   have el : V.int (((.str s.nm :: us : List V).length : Int) - 1) = .int ((c.pl : Nat) : Int) := by
    rw [List.length_cons, <- hul, cp]
    show V.int _ = V.int _
    congr 1
    omega
   dsimp only
   rw [el]
   have n4 := zg ht4 (.tup [.str s.nm, .int ((c.pl : Nat) : Int)])
   have hgd : WA (upd H3 t4 (.tup [.str s.nm, .int ((c.pl : Nat) : Int)])) e' (.ref t4) (jE kvs (xR c)) := WA.t (n4 _ _ hk) (by
    rw [zd]
    unfold xR
    rw [cn]
    rfl)
   rw [e1] at hgd
   refine ⟨e', _, rfl, hgd, ?_⟩
   have pw : ∀ r, Yx T ls s.ps r -> Tn.place T.m r < c.cs.length /\ Tn.at' c.cs (Tn.place T.m r) = L4.cellOf T s.nm r /\ Tn.at' c.cs (Tn.place T.m r) < T.m := fun r hr' => by
    have rw' := Xg gT nT hlt hr' gps
    rw [<- cp] at rw'
    obtain ⟨_, _, c3⟩ := gT.cn c hcm
    have pl := Tn.place_lt _ _ rw'
    refine ⟨by rw [c3.len]; exact pl, ?_, c3.at_lt pl⟩
    unfold L4.cellOf
    rw [<- cn, QH nT hcm]
   refine ⟨_, rfl, l, rfl, ⟨_, SqL.of (n4 _ _ hl)⟩, fun D hD => ?_⟩
   refine jo P nV (fun p => nV (Tn.at' c.cs p)) (n4 _ _ hl) (by omega) hD (fun z hz H' Q' s2 q' => ?_) (fun H4 s4 hD4 => ?_)
   ·obtain ⟨r, hr', rfl⟩ := (hm z).mp hz
    exact ⟨_, rfl, _, rfl, .inr (.inl ⟨u, _, _, _, rfl, rfl, SqT.of (s2 _ _ (n4 _ _ e2)), at_nV (pw r hr').1, q' H' zF.rfl'⟩)⟩
   ·rw [show (P.map fun p => nV (Tn.at' c.cs p)) = (P.map (Tn.at' c.cs)).map nV by rw [List.map_map]; rfl] at hD4
    refine ⟨_, rfl, D, _, rfl, .inl (SqL.of hD4), rfl, jB _, ?_⟩
    rw [no_non]
    refine ⟨_, rfl, ZU ?_⟩
    have all9 : ∀ y ∈ P.map (Tn.at' c.cs), y < T.m := fun y hy => by
     obtain ⟨p, hp, rfl⟩ := List.mem_map.mp hy
     obtain ⟨r, hr', rfl⟩ := (hm p).mp hp
     exact (pw r hr').2.2
    refine ⟨_, rfl, D, _, rfl, SqL.of hD4, (fun y hy => Nat.lt_of_lt_of_le (all9 y hy) m9), fun sa ds hsa nd hds => ?_⟩
    refine ⟨sa, ds, rfl, zd, fun k ms hk' pm so => q k ms _ (S3.trans (n4.trans (s4.trans ((zg hsa _).trans (zg hk' _))))) zd (fun y => ?_) ?_⟩
    ·rw [pm.mem_iff, hds, yA hs]
     constructor
     ·intro hy
      obtain ⟨p, hp, rfl⟩ := List.mem_map.mp hy
      obtain ⟨r, hr', rfl⟩ := (hm p).mp hp
      exact ⟨r, hr', (pw r hr').2.1⟩
     ·rintro ⟨r, hr', rfl⟩
      exact List.mem_map.mpr ⟨_, (hm _).mpr ⟨r, hr', rfl⟩, (pw r hr').2.1⟩
    ·have := Tn.nodup_len T.m ms (pm.nodup_iff.mpr nd) fun y hy => all9 y ((hds y).mp (pm.mem_iff.mp hy))
     omega
abbrev qv : Stmt := top 20
theorem Zq : zD ["T", "premises", "S", "sets", "cells", "premise"] ["T", "premises", "S", "sets"] (zf qv) := ⟨rfl, rfl, rfl, by decide +kernel, rfl, by decide +kernel, by decide +kernel⟩
theorem Wo {P : Program} {w : World} {K : PySem.W.Frag} {mg : Str -> Option Value} {base : Heap} {f : Addr} {fd : FuncData} (F : Fun K "is_closed" "is_closed" qv f fd) (gb : Gb mg) (d_cells_by_name : Def P w K mg base 1 "cells_by_name" ["H"] spCbn) (d_possible_within : Def P w K mg base 18 "possible_within" ["cells", "many", "S", "sets"] (yG 12)) : jT P w K mg base CX0 20 f fd ["T", "premises", "S", "sets"] wj := by
 refine F.ok Zq (fun vs H Q E h => ?_) (fun cdv A outer s H vs Q E hr h => ?_)
 ·obtain ⟨v, pl, g, sv, T, L, ps, S, ls, rfl, _⟩ := h
  rfl
 obtain ⟨v, pl, g, sv, T, L, ps, S, ls, rfl, ak, hg, hlt, q1, q0⟩ := h
 have nd0 : (["one", "T"] : List Str).Nodup := by decide +kernel
 have nd1 : (["one", "T"] : List Str).Nodup := by decide +kernel
 refine ⟨_, (@ze _ _ _ _ _ (@zv _ _ 4 _ _ _ _ Zq.nd rfl (Or.inl rfl) (@zq _ _ _ _ _ _ _ _ _ _ _ d_cells_by_name hr (by omega) rfl (@za _ _ _ _ _ (@pv _ 0 _ _ (by rfl) (by walk_at "v") (by decide) (by decide)) (@zc _) (by rfl)) (by decide) (by rfl) (by rfl)) (by rfl) (by walk_at "f")) (@ze _ _ _ _ _ (@qP _ _ _ _ _ _ _ _ PassesOwn.never rfl (@zH _ K _ _ _ (@pv _ 1 _ _ (by rfl) (by walk_at "v") (by decide) (by decide)) (by rfl)) (@zk _ _ 5 _ Zq.nd rfl (Or.inl rfl) (by walk_at "f")) (@zi _ _ _ (@qR _ _ _ _ _ _ _ _ (@jR _ _ _ _ (@qF _ _ _ (@zo _ _ _ _ _ _ _ _ _ (@Q4 _ K rfl (by rfl)) rfl gb.any xK (@za _ _ _ _ _ (@zW _ ["one", "T"] [none, some 0] _ _ _ _ _ _ _ _ _ _ (by exact (show zN ["T", "premises", "S", "sets", "cells", "premise"] (zf qv) ["one", "T"] [none, some 0] _ from ⟨rfl, by decide +kernel, by decide +kernel, by decide +kernel, by decide +kernel, rfl, by decide +kernel⟩)) rfl (@zH _ K _ _ _ (@zq _ _ _ _ _ _ _ _ _ _ _ d_possible_within hr (by omega) rfl (@za _ _ _ _ _ (@pv _ 4 _ _ (by rfl) (by walk_at "v") (by decide) (by decide)) (@za _ _ _ _ _ (@zC _ _ _ _ _ _ _ (@zj _ K (by rfl)) (@pv _ 0 _ _ (by rfl) (by walk_at "v") (by decide) (by decide)) (@zh _ _ _ _) (fun _ _ => rfl)) (@za _ _ _ _ _ (@pv _ 5 _ _ (by rfl) (by walk_at "v") (by decide) (by decide)) (@za _ _ _ _ _ (@pv _ 3 _ _ (by rfl) (by walk_at "v") (by decide) (by decide)) (@zc _) (by rfl)) (by rfl)) (by rfl)) (by rfl)) (by decide) (by rfl) (by rfl)) (by rfl)) (fun _ _ _ _ => (@zk _ _ 0 _ nd0 rfl (Or.inl rfl) (by walk_at "f"))) (fun _ _ _ _ => (@qG _)) (fun _ _ _ _ => (@j3 _ _ _ _ _ _ _ _ (@jp _ K (by rfl)) (@pv _ 0 _ _ (by rfl) (by walk_at "v") (by decide) (by decide)) (@zC _ _ _ _ _ _ _ (@zj _ K (by rfl)) (@pv _ 1 _ _ (by rfl) (by walk_at "v") (by decide) (by decide)) (@zh _ _ _ _) (fun _ _ => rfl)) (by with_unfolding_all rfl))) (by intro _; rfl)) (@zc _) (by rfl)) (by decide) (by decide) (by rfl) (by rfl)) (by intro _; rfl))) (@zi _ _ _ (@zy _ _ _ _ (@Qg _ _ _ _))) (@zI _))) (by intro _; rfl)) (@zi _ _ _ (@zy _ _ _ _ (@zo _ _ _ _ _ _ _ _ _ (@Ze _ K rfl (by rfl)) rfl gb.all wR (@za _ _ _ _ _ (@zW _ ["one", "T"] [none, some 0] _ _ _ _ _ _ _ _ _ _ (by exact (show zN ["T", "premises", "S", "sets", "cells", "premise"] (zf qv) ["one", "T"] [none, some 0] _ from ⟨rfl, by decide +kernel, by decide +kernel, by decide +kernel, by decide +kernel, rfl, by decide +kernel⟩)) rfl (@zH _ K _ _ _ (@zq _ _ _ _ _ _ _ _ _ _ _ d_possible_within hr (by omega) rfl (@za _ _ _ _ _ (@pv _ 4 _ _ (by rfl) (by walk_at "v") (by decide) (by decide)) (@za _ _ _ _ _ (@zC _ _ _ _ _ _ _ (@zj _ K (by rfl)) (@pv _ 0 _ _ (by rfl) (by walk_at "v") (by decide) (by decide)) (@zh _ _ _ _) (fun _ _ => rfl)) (@za _ _ _ _ _ (@pv _ 2 _ _ (by rfl) (by walk_at "v") (by decide) (by decide)) (@za _ _ _ _ _ (@pv _ 3 _ _ (by rfl) (by walk_at "v") (by decide) (by decide)) (@zc _) (by rfl)) (by rfl)) (by rfl)) (by rfl)) (by decide) (by rfl) (by rfl)) (by rfl)) (fun _ _ _ _ => (@zk _ _ 0 _ nd1 rfl (Or.inl rfl) (by walk_at "f"))) (fun _ _ _ _ => (@qG _)) (fun _ _ _ _ => (@j3 _ _ _ _ _ _ _ _ (@jp _ K (by rfl)) (@pv _ 0 _ _ (by rfl) (by walk_at "v") (by decide) (by decide)) (@zC _ _ _ _ _ _ _ (@zj _ K (by rfl)) (@pv _ 1 _ _ (by rfl) (by walk_at "v") (by decide) (by decide)) (@zh _ _ _ _) (fun _ _ => rfl)) (by with_unfolding_all rfl))) (by intro _; rfl)) (@zc _) (by rfl)) (by decide) (by decide) (by rfl) (by rfl)))))), ?_⟩
 obtain ⟨a, w0, c0, vs0, rfl, h1, h2, h3, h4⟩ := id ak.tb
 refine ⟨_, rfl, _, T, rfl, ak.tb, ak.gt, ak.nd, fun e' H1 s1 hc => ?_⟩
 refine ⟨_, rfl, pl, rfl, ⟨_, SqL.of (s1 _ _ ak.hp)⟩, ?_⟩
 refine jm (xs := ps.map Prod.fst) (fun i σ H' => (∃ x5, σ = [some (.ref a), some (.ref pl), some sv, some (.ref g), some (.ref e'), x5]) /\ zF H H' /\ zF H1 H' /\ ∀ z ∈ ps.take i, ∃ y, Jj T ls z.2 y /\ y ∈ T.ws) ⟨⟨_, rfl⟩, s1, zF.refl _, (fun z hz => by cases hz)⟩ (fun i σ H' _ h => SqL.of (h.2.1 _ _ ak.hp)) ?_ ?_
 ·rintro i x σ H0 hx' ⟨⟨x5, rfl⟩, s0, s01, hall⟩
  rw [List.getElem?_map] at hx'
  obtain ⟨z, hzi, rfl⟩ := Option.map_eq_some_iff.mp hx'
  have hzm := List.mem_of_getElem? hzi
  obtain ⟨gz, dz, _, iz⟩ := ak.ps z hzm
  refine ⟨_, rfl, _, rfl, .inr (.inl ⟨a, _, 0, _, rfl, rfl, SqT.of (s0 _ _ h1), rfl, _, rfl, _, rfl, e', g, z.1, T, L, _, ls, rfl, hc.same s01, ak.gt, ak.nd, iz.same s0, gz, ak.hL, hg.same s0, hlt, show _ <= 11 by omega, fun l xs H2 s2 hl hx x9 => ?_⟩)⟩
  refine ⟨l, rfl, ⟨_, SqL.of hl⟩, fun D hD => ?_⟩
  have h1' := s2 _ _ (s0 _ _ h1)
  have h2' := s2 _ _ (s0 _ _ h2)
  refine jo xs nV (fun y => .bl (decide (y ∈ T.ws))) hl (by omega) hD (fun y hy H' Q' s3 q' => ?_) (fun H3 s3 hD3 => ?_)
  ·refine ⟨_, rfl, _, rfl, .inr (.inl ⟨a, _, 1, _, rfl, rfl, SqT.of (s3 _ _ h1'), rfl, w0, _, rfl, .inr (SqT.of (s3 _ _ h2')), rfl, jB _, ?_⟩)⟩
   have q2 := q' H' zF.rfl'
   rw [<- Qp] at q2
   exact q2
  rw [Ja] at hD3
  refine ⟨D, _, rfl, SqL.of hD3, ?_⟩
  refine ⟨_, rfl, ?_⟩
  cases hany : (xs.map fun y => decide (y ∈ T.ws)).any id with
  | true =>
   refine ⟨⟨_, rfl⟩, s0.trans (s2.trans s3), s01.trans (s2.trans s3), fun z' hz' => ?_⟩
   rw [take_snoc hzi] at hz'
   rcases List.mem_append.mp hz' with h | h
   ·exact hall z' h
   ·rw [List.mem_singleton.mp h]
    obtain ⟨b, hb, eb⟩ := List.any_eq_true.mp hany
    obtain ⟨y, hy, rfl⟩ := List.mem_map.mp hb
    exact ⟨y, (hx y).mp hy, of_decide_eq_true eb⟩
  | false =>
   refine q1 (.inl ⟨z.2, List.mem_map.mpr ⟨z, hzm, rfl⟩, fun y hy hw => ?_⟩) _ (s0.trans (s2.trans s3))
   have : (xs.map fun y => decide (y ∈ T.ws)).any id = true := List.any_eq_true.mpr ⟨_, List.mem_map.mpr ⟨y, (hx y).mpr hy, rfl⟩, decide_eq_true hw⟩
   rw [hany] at this
   cases this
 ·rintro σ H0 ⟨⟨x5, rfl⟩, s0, s01, hall⟩
  rw [List.length_map, List.take_length] at hall
  refine ⟨_, rfl, _, rfl, .inr (.inl ⟨a, _, 0, _, rfl, rfl, SqT.of (s0 _ _ h1), rfl, _, rfl, _, rfl, e', g, sv, T, L, _, ls, rfl, hc.same s01, ak.gt, ak.nd, ak.sv.same s0, ak.gs, ak.hL, hg.same s0, hlt, show _ <= 11 from Nat.le_trans ak.sd (by decide), fun l xs H2 s2 hl hx x9 => ?_⟩)⟩
  refine ⟨l, rfl, ⟨_, SqL.of hl⟩, fun D hD => ?_⟩
  have h1' := s2 _ _ (s0 _ _ h1)
  have h2' := s2 _ _ (s0 _ _ h2)
  refine jo xs nV (fun y => .bl (decide (y ∈ T.ws))) hl (by omega) hD (fun y hy H' Q' s3 q' => ?_) (fun H3 s3 hD3 => ?_)
  ·refine ⟨_, rfl, _, rfl, .inr (.inl ⟨a, _, 1, _, rfl, rfl, SqT.of (s3 _ _ h1'), rfl, w0, _, rfl, .inr (SqT.of (s3 _ _ h2')), rfl, jB _, ?_⟩)⟩
   have q2 := q' H' zF.rfl'
   rw [<- Qp] at q2
   exact q2
  rw [Ja] at hD3
  refine ⟨D, _, rfl, SqL.of hD3, ?_⟩
  have S3 := s0.trans (s2.trans s3)
  cases hal : (xs.map fun y => decide (y ∈ T.ws)).all id with
  | true =>
   refine q1 (.inr fun y hy => ?_) _ S3
   exact of_decide_eq_true (List.all_eq_true.mp hal _ (List.mem_map.mpr ⟨y, (hx y).mpr hy, rfl⟩))
  | false =>
   refine q0 (fun clo => ?_) _ S3
   rcases clo with ⟨p, hp, hn⟩ | h
   ·obtain ⟨z, hz, rfl⟩ := List.mem_map.mp hp
    obtain ⟨y, hy, hw⟩ := hall z hz
    exact hn y hy hw
   ·have : (xs.map fun y => decide (y ∈ T.ws)).all id = true := List.all_eq_true.mpr fun b hb => by
     obtain ⟨y, hy, rfl⟩ := List.mem_map.mp hb
     exact decide_eq_true (h y ((hx y).mp hy))
    rw [hal] at this
    cases this
abbrev qK : Stmt := top 19
theorem jj : zD ["T", "premises", "S", "letters", "sets", "letter", "trees", "one", "answer"] ["T", "premises", "S", "letters", "sets"] (zf qK) := ⟨rfl, rfl, rfl, by decide +kernel, rfl, by decide +kernel, by decide +kernel⟩
theorem Wp {P : Program} {w : World} {K : PySem.W.Frag} {mg : Str -> Option Value} {base : Heap} {f : Addr} {fd : FuncData} (F : Fun K "answer_by" "answer_by" qK f fd) (gb : Gb mg) (d_is_closed : Def P w K mg base 20 "is_closed" ["T", "premises", "S", "sets"] wj) (d_with_letter : Def P w K mg base 1 "with_letter" ["by_letter", "letter", "given"] WU) (j : Nat) (d_answer_by : Def P w K mg base (22 + j) "answer_by" ["T", "premises", "S", "letters", "sets"] (QJ j)) : jT P w K mg base CX0 (22 + j + 1) f fd ["T", "premises", "S", "letters", "sets"] (QJ (j + 1)) := by
 refine F.ok jj (fun vs H Q E h => ?_) (fun cdv A outer s H vs Q E hr h => ?_)
 ·obtain ⟨v, pl, la, g, sv, T, L, ps, S, ls, rfl, _⟩ := h
  rfl
 obtain ⟨v, pl, la, g, sv, T, L, ps, S, ls, rfl, ak, nd, hla, hg, hlt, hls, hj, q1, q0⟩ := h
 have nd0 : (["letter", "sets"] : List Str).Nodup := by decide +kernel
 refine ⟨_, (@ze _ _ _ _ _ (@qR _ _ _ _ _ _ _ _ (@qF _ _ _ (@zq _ _ _ _ _ _ _ _ _ _ _ d_is_closed hr (by omega) rfl (@za _ _ _ _ _ (@pv _ 0 _ _ (by rfl) (by walk_at "v") (by decide) (by decide)) (@za _ _ _ _ _ (@pv _ 1 _ _ (by rfl) (by walk_at "v") (by decide) (by decide)) (@za _ _ _ _ _ (@pv _ 2 _ _ (by rfl) (by walk_at "v") (by decide) (by decide)) (@za _ _ _ _ _ (@pv _ 4 _ _ (by rfl) (by walk_at "v") (by decide) (by decide)) (@zc _) (by rfl)) (by rfl)) (by rfl)) (by rfl)) (by decide) (by rfl) (by rfl)) (by intro _; rfl)) (@zi _ _ _ (@zy _ _ _ _ (@qU _ _ _ _ _ (@za _ _ _ _ _ (@qO _ _ _ _) (@za _ _ _ _ _ (@qU _ _ _ _ _ (@za _ _ _ _ _ (@qO _ _ _ _) (@zc _) (by rfl))) (@zc _) (by rfl)) (by rfl))))) (@zI _)) (@ze _ _ _ _ _ (@qR _ _ _ _ _ _ _ _ (@zL _ _ _ _ _ _ _ _ (@JV _) (@zo _ _ _ _ _ _ _ _ _ (@Wh _) rfl gb.len jl (@za _ _ _ _ _ (@pv _ 4 _ _ (by rfl) (by walk_at "v") (by decide) (by decide)) (@zc _) (by rfl)) (by decide) (by decide) (by rfl) (by rfl)) (@zo _ _ _ _ _ _ _ _ _ (@zY _ K (by rfl)) rfl gb.len jl (@za _ _ _ _ _ (@pv _ 3 _ _ (by rfl) (by walk_at "v") (by decide) (by decide)) (@zc _) (by rfl)) (by decide) (by decide) (by rfl) (by rfl)) (@qm _ _ (by decide) (by decide))) (@zi _ _ _ (@zy _ _ _ _ (@qU _ _ _ _ _ (@za _ _ _ _ _ (@qO _ _ _ _) (@za _ _ _ _ _ (@pe_dictP _ K _ _ _ _ rfl gb.dict (@za _ _ _ _ _ (@zW _ ["letter", "sets"] [none, some 4] _ _ _ _ _ _ _ _ _ _ (by exact (show zN ["T", "premises", "S", "letters", "sets", "letter", "trees", "one", "answer"] (zf qK) ["letter", "sets"] [none, some 4] _ from ⟨rfl, by decide +kernel, by decide +kernel, by decide +kernel, by decide +kernel, rfl, by decide +kernel⟩)) rfl (@zH _ K _ _ _ (@pv _ 3 _ _ (by rfl) (by walk_at "v") (by decide) (by decide)) (by rfl)) (fun _ _ _ _ => (@zk _ _ 0 _ nd0 rfl (Or.inl rfl) (by walk_at "f"))) (fun _ _ _ _ => (@qG _)) (fun _ _ _ _ => (@qU _ _ _ _ _ (@za _ _ _ _ _ (@pv _ 0 _ _ (by rfl) (by walk_at "v") (by decide) (by decide)) (@za _ _ _ _ _ (@zC _ _ _ _ _ _ _ (@zj _ K (by rfl)) (@WI _ _ _ _ _ _ (@pv _ 1 _ _ (by rfl) (by walk_at "v") (by decide) (by decide)) (@pv _ 0 _ _ (by rfl) (by walk_at "v") (by decide) (by decide)) (fun _ _ => rfl)) (@zh _ _ _ _) (fun _ _ => rfl)) (@zc _) (by rfl)) (by rfl)))) (by intro _; rfl)) (@zc _) (by rfl)) (by rfl) (by rfl) (by rfl)) (@zc _) (by rfl)) (by rfl))))) (@zI _)) (@ze _ _ _ _ _ (@zv _ _ 5 _ _ _ _ jj.nd rfl (Or.inl rfl) (@zC _ _ _ _ _ _ _ (@zj _ K (by rfl)) (@pv _ 3 _ _ (by rfl) (by walk_at "v") (by decide) (by decide)) (@zo _ _ _ _ _ _ _ _ _ (@Wh _) rfl gb.len jl (@za _ _ _ _ _ (@pv _ 4 _ _ (by rfl) (by walk_at "v") (by decide) (by decide)) (@zc _) (by rfl)) (by decide) (by decide) (by rfl) (by rfl)) (fun _ _ => rfl)) (by rfl) (by walk_at "f")) (@ze _ _ _ _ _ (@zv _ _ 6 _ _ _ _ jj.nd rfl (Or.inl rfl) (@qf _ _ _ _ (@zc _)) (by rfl) (by walk_at "f")) (@ze _ _ _ _ _ (@qP _ _ _ _ _ _ _ _ PassesOwn.never rfl (@ql _ _ _ _ _ _ rfl gb.range (@za _ _ _ _ _ (@zC _ _ _ _ _ _ _ (@zj _ K (by rfl)) (@pv _ 0 _ _ (by rfl) (by walk_at "v") (by decide) (by decide)) (@zh _ _ _ _) (fun _ _ => rfl)) (@zc _) (by rfl)) (by rfl)) (@zk _ _ 7 _ jj.nd rfl (Or.inl rfl) (by walk_at "f")) (@ze _ _ _ _ _ (@zv _ _ 8 _ _ _ _ jj.nd rfl (Or.inl rfl) (@zq _ _ _ _ _ _ _ _ _ _ _ d_answer_by hr (by omega) rfl (@za _ _ _ _ _ (@pv _ 0 _ _ (by rfl) (by walk_at "v") (by decide) (by decide)) (@za _ _ _ _ _ (@pv _ 1 _ _ (by rfl) (by walk_at "v") (by decide) (by decide)) (@za _ _ _ _ _ (@pv _ 2 _ _ (by rfl) (by walk_at "v") (by decide) (by decide)) (@za _ _ _ _ _ (@pv _ 3 _ _ (by rfl) (by walk_at "v") (by decide) (by decide)) (@za _ _ _ _ _ (@zq _ _ _ _ _ _ _ _ _ _ _ d_with_letter hr (by omega) rfl (@za _ _ _ _ _ (@pv _ 4 _ _ (by rfl) (by walk_at "v") (by decide) (by decide)) (@za _ _ _ _ _ (@pv _ 5 _ _ (by rfl) (by walk_at "v") (by decide) (by decide)) (@za _ _ _ _ _ (@qU _ _ _ _ _ (@za _ _ _ _ _ (@pv _ 7 _ _ (by rfl) (by walk_at "v") (by decide) (by decide)) (@zc _) (by rfl))) (@zc _) (by rfl)) (by rfl)) (by rfl)) (by decide) (by rfl) (by rfl)) (@zc _) (by rfl)) (by rfl)) (by rfl)) (by rfl)) (by rfl)) (by decide) (by rfl) (by rfl)) (by rfl) (by walk_at "f")) (@ze _ _ _ _ _ (@qR _ _ _ _ _ _ _ _ (@zL _ _ _ _ _ _ _ _ (@JV _) (@zC _ _ _ _ _ _ _ (@zj _ K (by rfl)) (@pv _ 8 _ _ (by rfl) (by walk_at "v") (by decide) (by decide)) (@zh _ _ _ _) (fun _ _ => rfl)) (@qO _ _ _ _) (@qm _ _ (by decide) (by decide))) (@zi _ _ _ (@zy _ _ _ _ (@pv _ 8 _ _ (by rfl) (by walk_at "v") (by decide) (by decide)))) (@zI _)) (@zi _ _ _ (@jL _ _ _ _ (@ZB _ K _ _ _ _ _ _ _ _ _ _ _ PySem.F.plainAttrs_list PySem.F.slot_list_append PySem.F.type_list_append (@jv _) (@pv _ 6 _ _ (by rfl) (by walk_at "v") (by decide) (by decide)) (@za _ _ _ _ _ (@zC _ _ _ _ _ _ _ (@zj _ K (by rfl)) (@pv _ 8 _ _ (by rfl) (by walk_at "v") (by decide) (by decide)) (@zh _ _ _ _) (fun _ _ => rfl)) (@zc _) (by rfl)) (by rfl) (by rfl) (by rfl) (by rfl) (by rfl) (by rfl)) (by rfl))))) (by intro _; rfl)) (@zi _ _ _ (@zy _ _ _ _ (@qU _ _ _ _ _ (@za _ _ _ _ _ (@qO _ _ _ _) (@za _ _ _ _ _ (@qU _ _ _ _ _ (@za _ _ _ _ _ (@qO _ _ _ _) (@za _ _ _ _ _ (@pv _ 5 _ _ (by rfl) (by walk_at "v") (by decide) (by decide)) (@za _ _ _ _ _ (@zG _ _ _ _ _ _ _ _ _ (@qH _ K (by rfl)) rfl gb.tuple jJ (@za _ _ _ _ _ (@pv _ 6 _ _ (by rfl) (by walk_at "v") (by decide) (by decide)) (@zc _) (by rfl)) (by decide) (by decide) (by rfl) (by rfl)) (@zc _) (by rfl)) (by rfl)) (by rfl))) (@zc _) (by rfl)) (by rfl)))))))))), ?_⟩
 obtain ⟨a, w0, c0, vs0, rfl, h1, h2, h3, h4⟩ := id ak.tb
 have m9 := ak.gt.m9
 have m1 := ak.gt.m1
 have l5 := ak.ln
 have hll : ls.length <= L.length := by
  have := congrArg List.length hls
  rw [List.length_map, List.length_take] at this
  omega
 refine ⟨_, rfl, _, rfl, _, rfl, _, rfl, _, pl, g, sv, T, L, ps, S, ls, rfl, ak, hg, hlt, fun clo H1 s1 => ⟨_, rfl, WE ?_⟩, fun nclo H1 s1 => ⟨_, rfl, ZU ?_⟩⟩
 ·refine ⟨zu (by show 1 <= 1000; decide), fun t1 ht1 => ⟨zu (by show 2 <= 1000; decide), fun t2 ht2 => q1 (clo_fol clo) t2 (.ref t1) _ (s1.trans ((zg ht1 _).trans (zg ht2 _))) zd (ZP.closed _ ⟨t1, rfl, (zg ht2 _) _ _ zd, clo⟩)⟩⟩
 obtain ⟨kvs, hk, hP⟩ := hg.same s1
 have hkl := Paired.length hP
 refine ⟨_, rfl, g, kvs, rfl, hk, _, rfl, _, _, rfl, .inl ⟨_, SqL.of (s1 _ _ hla), rfl⟩, rfl, _, rfl, ?_⟩
 rw [List.length_map]
 by_cases hfull : ls.length = L.length
 ·refine iteDT (decide_eq_true (by rw [<- hkl, hfull])) ?_
  rw [hfull, List.take_length] at hls
  have γd : ∃ γ : Str -> Nat, Gd T γ /\ ∀ x ∈ L, ls.lookup x = some (γ x) := by
   refine ⟨fun x => (ls.lookup x).getD 0, fun x => ?_, fun x hx => ?_⟩
   ·show (ls.lookup x).getD 0 < T.m
    cases e : ls.lookup x with
    | none => exact m1
    | some o => exact hlt (x, o) (Zw e)
   ·obtain ⟨o, e⟩ := Ym nd hls hx
    show ls.lookup x = some ((ls.lookup x).getD 0)
    rw [e]
    rfl
  obtain ⟨γ, gd, hγ⟩ := γd
  have kp : Keeps γ ls := fun p hp => by
   have e1 := Xh (by rw [hls]; exact nd) hp
   have e2 := hγ p.1 (by rw [<- hls]; exact List.mem_map.mpr ⟨p, hp, rfl⟩)
   rw [e1] at e2
   exact (Option.some.inj e2).symm
  have bar : Bar T γ (ps.map Prod.snd) S := bar_of nclo (fun p hp x hx => by
   obtain ⟨z, hz, rfl⟩ := List.mem_map.mp hp
   exact hγ x ((ak.ps z hz).1.lets_in hx)) fun x hx => hγ x (ak.gs.lets_in hx)
  refine ⟨_, rfl, la, rfl, ⟨_, SqL.of (s1 _ _ hla)⟩, fun D hD => ?_⟩
  refine jz (xs := L.map V.str) (fun i ys H' => zF H1 H' /\ Prs H' ys ((L.take i).map fun x => ((Sum.inr x : Key), nV (γ x))) /\ ys.length = i) ⟨zg hD _, .nil, rfl⟩ (fun i ys H' h _ => SqL.of (h.1 _ _ (s1 _ _ hla))) ?_ ?_
  ·rintro i ys H2 y hy ⟨s2, hpr, hyl⟩ hD2
   rw [List.getElem?_map] at hy
   obtain ⟨x, hx, rfl⟩ := Option.map_eq_some_iff.mp hy
   have hi := (List.getElem?_eq_some_iff.mp hx).1
   have hv := yC hP x
   rw [hγ x (List.mem_of_getElem? hx)] at hv
   obtain ⟨u, e1, e2⟩ := hv
   refine yes ⟨_, rfl, _, rfl, _, rfl, g, kvs, Sum.inr x, _, rfl, s2 _ _ hk, rfl, e1, .inr (.inl ⟨u, _, 0, _, rfl, rfl, SqT.of (s2 _ _ e2), rfl, zu (by show 2 <= 1000; decide), fun t3 ht3 => ?_⟩)⟩
   have n3 := zg ht3 (.tup [.str x, nV (γ x)])
   have hD3 := n3 _ _ hD2
   refine wA (by rw [List.length_map]; exact hi) jU hD3 (zr (by omega)) ⟨(s2.trans n3).put hD, ?_, by rw [List.length_append, hyl]; rfl⟩
   rw [take_snoc hx, List.map_append]
   exact Prs.snoc (p := (Sum.inr x, nV (γ x))) (Prs.tk (Tk.put hD3) (Prs.tk (Tk.of n3) hpr)) (Tk.put hD3 _ _ zd)
  ·rintro ys H2 ⟨s2, hpr, hyl⟩ hD2
   rw [List.length_map, List.take_length] at hpr
   refine ⟨D, ys, _, rfl, hD2, hpr, fun dd hdd => ?_⟩
   rw [gkv_put nd]
   refine ⟨zu (by show 2 <= 1000; decide), fun t5 ht5 => q0 γ gd kp bar t5 dd _ (s1.trans (s2.trans ((zg hdd _).trans (zg ht5 _)))) zd ((zg ht5 _) _ _ zd)⟩
 refine iteDF (decide_eq_false (by rw [<- hkl]; intro z; exact hfull (by have := V.int.inj z; omega))) ?_
 have hlt2 : ls.length < L.length := by omega
 have hxl : L[ls.length]? = some L[ls.length] := List.getElem?_eq_getElem hlt2
 generalize L[ls.length] = x at hxl
 have hxn : x ∉ ls.map Prod.fst := by
  rw [hls]
  intro hm
  obtain ⟨i, hi, e⟩ := List.mem_take_iff_getElem.mp hm
  obtain ⟨hk2, e2⟩ := List.getElem?_eq_some_iff.mp hxl
  exact (List.pairwise_iff_getElem.mp nd) i ls.length (by omega) hk2 (by omega) (by rw [e, e2])
 refine ⟨_, rfl, _, rfl, g, kvs, rfl, hk, .inl ⟨la, _, _, .str x, rfl, rfl, SqL.of (s1 _ _ hla), (by rw [<- hkl]; exact jM (by rw [List.getElem?_map, hxl]; rfl)), ?_⟩⟩
 refine ⟨zu (by show 0 <= 1000; decide), fun tl htl => ?_⟩
 have n1 := zg htl (.lst [])
 refine ⟨_, rfl, .inr (.inl ⟨a, _, 0, _, rfl, rfl, SqT.of (n1 _ _ (s1 _ _ h1)), rfl, (T.m : Int), rfl, by omega, by omega, ?_⟩)⟩
 rw [Int.toNat_natCast]
 have hHtl := s1.free htl
 refine ju (fun i σ H' => (∃ x7 x8, σ = [some (.ref a), some (.ref pl), some sv, some (.ref la), some (.ref g), some (.str x), some (.ref tl), x7, x8]) /\ zF H H' /\ (∃ ys, H' tl = some (.lst ys) /\ ys.length = i /\ ∀ (o : Nat) (v' : V), ys[o]? = some v' -> ZP H' T (ps.map Prod.snd) S (j - 1) (ls ++ [(x, o)]) v') /\ ∀ o, o < i -> FolL T (ls ++ [(x, o)]) (ps.map Prod.snd) S) ⟨⟨_, _, rfl⟩, s1.trans n1, ⟨[], zd, rfl, (fun o v' h => by simp at h)⟩, fun o ho => absurd ho (Nat.not_lt_zero _)⟩ ?_ ?_
 ·rintro i σ H2 hi ⟨⟨x7, x8, rfl⟩, s2, ⟨ys, hys, hyl, hsh⟩, hfol⟩
  match j, hj, d_answer_by with
  | 0, hj, _ => exact absurd hj (by omega)
  | j + 1, hj, _ =>
  rw [show (0 : Int) + (i : Int) = ((i : Nat) : Int) by omega]
  refine ⟨_, rfl, _, rfl, _, rfl, _, rfl, _, rfl, _, rfl, _, rfl, zu (by show 1 <= 1000; decide), fun u hu => ?_⟩
  have n2 := zg hu (.tup [nV i])
  have S3 := s2.trans n2
  refine ⟨g, u, x, i, ls, rfl, hg.same S3, by omega, hxn, zd, fun g' H4 s4 hg' => ?_⟩
  have S4 := S3.trans s4
  have tl4 := s4 _ _ (n2 _ _ hys)
  refine ⟨_, pl, la, g', sv, T, L, ps, S, ls ++ [(x, i)], rfl, ak.same S4, nd, S4 _ _ hla, hg', (fun p hp => ?_), ?_, ?_, fun fol t tv H5 s5 ht sh => ?_, fun γ gd kp bar t dd H5 s5 ht hd => ?_⟩
  ·rcases List.mem_append.mp hp with hp | hp
   ·exact hlt p hp
   ·rw [List.mem_singleton.mp hp]
    exact hi
  ·rw [List.map_append, List.length_append, hls]
   exact (take_snoc hxl).symm
  ·rw [List.length_append]
   show L.length <= ls.length + 1 + j
   omega
  ·refine ⟨_, rfl, .inr (.inl ⟨t, _, 0, _, rfl, rfl, SqT.of ht, rfl, rfl, _, rfl, iteDF (by decide +kernel) ?_⟩)⟩
   have tl5 := s5 _ _ tl4
   refine ⟨_, rfl, .inl ⟨rfl, _, SqL.of tl5⟩, _, rfl, .inr (.inl ⟨t, _, 1, _, rfl, rfl, SqT.of ht, rfl, ?_⟩)⟩
   refine ⟨tl, _, _, rfl, rfl, tl5, zr (by omega), ⟨_, _, rfl⟩, (S4.trans s5).put hHtl, ⟨_, zd, by rw [List.length_append, hyl]; rfl, fun o v' hv' => ?_⟩, fun o ho => ?_⟩
   ·by_cases hoi : o < ys.length
    ·rw [List.getElem?_append_left hoi] at hv'
     exact ((hsh o v' hv').tk (Tk.of (n2.trans (s4.trans s5)))).tk (Tk.put tl5)
    ·have hol := (List.getElem?_eq_some_iff.mp hv').1
     rw [List.length_append] at hol
     have hol : o < ys.length + 1 := hol
     have eo : o = ys.length := by omega
     rw [eo, List.getElem?_append_right (Nat.le_refl _), Nat.sub_self] at hv'
     obtain rfl : tv = v' := by simpa using hv'
     rw [eo, hyl]
     exact sh.tk (Tk.put tl5)
   by_cases e : o = i
   ·rw [e]
    exact fol
   ·exact hfol o (by omega)
  ·refine ⟨_, rfl, .inr (.inl ⟨t, _, 0, _, rfl, rfl, SqT.of ht, rfl, rfl, _, rfl, iteDT (by decide +kernel) ?_⟩)⟩
   exact ⟨_, rfl, q0 γ gd (Yl kp) bar t dd H5 (S4.trans s5) ht hd⟩
 ·rintro σ H2 ⟨⟨x7, x8, rfl⟩, s2, ⟨ys, hys, hyl, hsh⟩, hfol⟩
  refine ⟨_, rfl, _, rfl, tl, ys, rfl, .inl ⟨SqL.of hys, fun t1 ht1 => ?_⟩⟩
  refine ⟨zu (by show 3 <= 1000; decide), fun t2 ht2 => ⟨zu (by show 2 <= 1000; decide), fun t3 ht3 => q1 (xS x hfol) t3 (.ref t2) _ (s2.trans ((zg ht1 _).trans ((zg ht2 _).trans (zg ht3 _)))) zd ?_⟩⟩
  match j, hj, hsh with
  | 0, hj, _ => exact absurd hj (by omega)
  | j + 1, hj, hsh =>
  refine .inr ⟨t2, t1, x, ys, rfl, (zg ht3 _) _ _ zd, ((zg ht2 _).trans (zg ht3 _)) _ _ zd, ak.hL x (List.mem_of_getElem? hxl), hxn, hyl, fun o v' hv' => (hsh o v' hv').tk (Tk.of ((zg ht1 _).trans ((zg ht2 _).trans (zg ht3 _))))⟩
abbrev j2 : Stmt := top 18
theorem Qu : zD ["T", "premises", "S", "sayings", "saying"] ["T", "premises", "S"] (zf j2) := ⟨rfl, rfl, rfl, by decide +kernel, rfl, by decide +kernel, by decide +kernel⟩
theorem Yu {P : Program} {w : World} {K : PySem.W.Frag} {mg : Str -> Option Value} {base : Heap} {f : Addr} {fd : FuncData} (F : Fun K "follows" "follows" j2 f fd) (gb : Gb mg) (d_check_names : Def P w K mg base 3 "check_names" ["shapes", "parts"] Xi) (d_cells_by_name : Def P w K mg base 1 "cells_by_name" ["H"] spCbn) (d_written_parts : Def P w K mg base 3 "written_parts" ["S"] yF) (d_letters_of_all : Def P w K mg base 4 "letters_of_all" ["sayings"] wg) (d_answer_by : Def P w K mg base 28 "answer_by" ["T", "premises", "S", "letters", "sets"] (QJ 6)) : jT P w K mg base CX0 30 f fd ["T", "premises", "S"] Qb := by
 refine F.ok Qu (fun vs H Q E h => ?_) (fun cdv A outer s H vs Q E hr h => ?_)
 ·obtain ⟨v, pl, sv, T, L, ps, S, rfl, _⟩ := h
  rfl
 obtain ⟨v, pl, sv, T, L, ps, S, rfl, ak, q1, q0⟩ := h
 refine ⟨_, (@ze _ _ _ _ _ (@zv _ _ 3 _ _ _ _ Qu.nd rfl (Or.inl rfl) (@zP _ _ _ _ _ _ _ _ (@Jv _) (@zG _ _ _ _ _ _ _ _ _ (@jn _ K (by rfl)) rfl gb.list Zd (@za _ _ _ _ _ (@pv _ 1 _ _ (by rfl) (by walk_at "v") (by decide) (by decide)) (@zc _) (by rfl)) (by decide) (by decide) (by rfl) (by rfl)) (@qf _ _ _ _ (@za _ _ _ _ _ (@pv _ 2 _ _ (by rfl) (by walk_at "v") (by decide) (by decide)) (@zc _) (by rfl)))) (by rfl) (by walk_at "f")) (@ze _ _ _ _ _ (@qP _ _ _ _ _ _ _ _ PassesOwn.never rfl (@zH _ K _ _ _ (@pv _ 3 _ _ (by rfl) (by walk_at "v") (by decide) (by decide)) (by rfl)) (@zk _ _ 4 _ Qu.nd rfl (Or.inl rfl) (by walk_at "f")) (@zi _ _ _ (@jL _ _ _ _ (@zq _ _ _ _ _ _ _ _ _ _ _ d_check_names hr (by omega) rfl (@za _ _ _ _ _ (@zq _ _ _ _ _ _ _ _ _ _ _ d_cells_by_name hr (by omega) rfl (@za _ _ _ _ _ (@pv _ 0 _ _ (by rfl) (by walk_at "v") (by decide) (by decide)) (@zc _) (by rfl)) (by decide) (by rfl) (by rfl)) (@za _ _ _ _ _ (@zq _ _ _ _ _ _ _ _ _ _ _ d_written_parts hr (by omega) rfl (@za _ _ _ _ _ (@pv _ 4 _ _ (by rfl) (by walk_at "v") (by decide) (by decide)) (@zc _) (by rfl)) (by decide) (by rfl) (by rfl)) (@zc _) (by rfl)) (by rfl)) (by decide) (by rfl) (by rfl)) (by rfl))) (by intro _; rfl)) (@zi _ _ _ (@zy _ _ _ _ (@zq _ _ _ _ _ _ _ _ _ _ _ d_answer_by hr (by omega) rfl (@za _ _ _ _ _ (@pv _ 0 _ _ (by rfl) (by walk_at "v") (by decide) (by decide)) (@za _ _ _ _ _ (@pv _ 1 _ _ (by rfl) (by walk_at "v") (by decide) (by decide)) (@za _ _ _ _ _ (@pv _ 2 _ _ (by rfl) (by walk_at "v") (by decide) (by decide)) (@za _ _ _ _ _ (@zq _ _ _ _ _ _ _ _ _ _ _ d_letters_of_all hr (by omega) rfl (@za _ _ _ _ _ (@pv _ 3 _ _ (by rfl) (by walk_at "v") (by decide) (by decide)) (@zc _) (by rfl)) (by decide) (by rfl) (by rfl)) (@za _ _ _ _ _ (@J3 _ _) (@zc _) (by rfl)) (by rfl)) (by rfl)) (by rfl)) (by rfl)) (by decide) (by rfl) (by rfl)))))), ?_⟩
 refine ⟨_, rfl, pl, _, rfl, .inl (SqL.of ak.hp), fun l1 hl1 => ?_⟩
 have n1 := zg hl1 (.lst (ps.map Prod.fst))
 refine ⟨_, rfl, zu (by show 1 <= 1000; decide), fun l2 hl2 => ?_⟩
 have n2 := zg hl2 (.lst [sv])
 have pn := ak.pn
 refine ⟨l1, l2, _, _, rfl, rfl, n2 _ _ zd, zd, by rw [List.length_map]; exact zu (by show ps.length + 1 <= 1000; omega), fun l3 hl3 => ?_⟩
 have n3 := zg hl3 (.lst (ps.map Prod.fst ++ [sv]))
 have eq3 : (ps ++ [(sv, S)]).map Prod.fst = ps.map Prod.fst ++ [sv] := by rw [List.map_append]; rfl
 have hl3' := @zd (upd (upd H l1 (.lst (ps.map Prod.fst))) l2 (.lst [sv])) l3 (.lst (ps.map Prod.fst ++ [sv]))
 rw [<- eq3] at hl3' n3 ⊢
 have S3 := n1.trans (n2.trans n3)
 generalize upd (upd (upd H l1 (.lst (ps.map Prod.fst))) l2 (.lst [sv])) l3 (.lst ((ps ++ [(sv, S)]).map Prod.fst)) = H3 at *
 have allq : ∀ z ∈ ps ++ [(sv, S)], GSt T L z.2 /\ z.2.sz <= 63 /\ jF H3 z.2 z.1 := fun z hz => by
  rcases List.mem_append.mp hz with hz | hz
  ·obtain ⟨k1, k2, k3, k4⟩ := ak.ps z hz
   exact ⟨k1, k3, k4.same S3⟩
  ·rw [List.mem_singleton.mp hz]
   exact ⟨ak.gs, ak.sz, ak.sv.same S3⟩
 refine ⟨_, rfl, l3, rfl, ⟨_, SqL.of hl3'⟩, ?_⟩
 refine jm (xs := (ps ++ [(sv, S)]).map Prod.fst) (fun i σ H' => (∃ x4, σ = [some v, some (.ref pl), some sv, some (.ref l3), x4]) /\ zF H3 H') ⟨⟨_, rfl⟩, zF.refl _⟩ (fun i σ H' _ h => SqL.of (h.2 _ _ hl3')) ?_ ?_
 ·rintro i x σ H4 hx ⟨⟨x4, rfl⟩, s4⟩
  rw [List.getElem?_map] at hx
  obtain ⟨z, hzi, rfl⟩ := Option.map_eq_some_iff.mp hx
  obtain ⟨gz, z63, iz⟩ := allq z (List.mem_of_getElem? hzi)
  refine ⟨_, rfl, v, T, rfl, ak.tb.same (S3.trans s4), ak.gt, ak.nd, fun e' H5 s5 hc => ⟨_, rfl, z.1, z.2, rfl, iz.same (s4.trans s5), wB.of ak.hL gz, z63, fun l us H6 s6 hl hP => ⟨e', l, us, z.2.sub, T, L, rfl, hc.same s6, hl, hP, (fun s hs => gz.sub hs), ak.hL, fun H7 s7 => ⟨⟨_, rfl⟩, s4.trans (s5.trans (s6.trans s7))⟩⟩⟩⟩
 ·rintro σ H4 ⟨⟨x4, rfl⟩, s4⟩
  refine ⟨_, rfl, _, rfl, _, rfl, _, rfl, l3, ps ++ [(sv, S)], L, rfl, s4 _ _ hl3', (fun z hz => ⟨wB.of ak.hL (allq z hz).1, (allq z hz).2.2.same s4⟩), by rw [List.length_append]; show ps.length + 1 <= 15; omega, (fun z hz => ⟨(allq z hz).2.1, fun x hx => (allq z hz).1.lets_in hx⟩), by have := ak.ln; omega, fun k M H5 s5 hk nd hm so => fun dd hdd => ?_⟩
  have n6 := zg hdd (.dK [])
  have S6 := S3.trans (s4.trans (s5.trans n6))
  have hm2 : ∀ x, x ∈ M ↔ (∃ z ∈ ps, x ∈ z.2.lets) \/ x ∈ S.lets := fun x => by
   rw [hm]
   constructor
   ·rintro ⟨z, hz, hx⟩
    rcases List.mem_append.mp hz with hz | hz
    ·exact .inl ⟨z, hz, hx⟩
    ·rw [List.mem_singleton.mp hz] at hx
     exact .inr hx
   ·rintro (⟨z, hz, hx⟩ | hx)
    ·exact ⟨z, List.mem_append_left _ hz, hx⟩
    ·exact ⟨(sv, S), List.mem_append_right _ (List.mem_singleton.mpr rfl), hx⟩
  have hML : ∀ x ∈ M, x ∈ L := fun x hx => by
   rcases (hm2 x).mp hx with ⟨z, hz, hx⟩ | hx
   ·exact (ak.ps z hz).1.lets_in hx
   ·exact ak.gs.lets_in hx
  have hM5 : M.length <= 5 := Nat.le_trans (Zf M L nd hML) ak.ln
  refine ⟨v, pl, k, dd, sv, T, M, ps, S, [], rfl, (ak.same S6).lets hML (fun z hz x hx => (hm2 x).mpr (.inl ⟨z, hz, hx⟩)) (fun x hx => (hm2 x).mpr (.inr hx)) hM5, nd, n6 _ _ hk, ⟨[], zd, .nil⟩, (fun p hp => by cases hp), rfl, (show M.length <= 0 + 5 by omega), fun fol t tv H7 s7 ht sh => q1 (fol_nil.mp fol) t tv H7 (S6.trans s7) ht sh, fun γ gd _ bar t d' H7 s7 ht hd => q0 γ M gd bar nd hm2 so t d' H7 (S6.trans s7) ht hd⟩
abbrev jq : Stmt := top 22
theorem W2 : zD ["_law_script", "_law_place"] ["_law_script", "_law_place"] (zf jq) := ⟨rfl, rfl, rfl, by decide +kernel, rfl, by decide +kernel, by decide +kernel⟩
theorem W3 {P : Program} {w : World} {K : PySem.W.Frag} {mg : Str -> Option Value} {base : Heap} {f : Addr} {fd : FuncData} (F : Fun K "_law_cell" "_law_cell" jq f fd) (gb : Gb mg) : jT P w K mg base CX0 1 f fd ["_law_script", "_law_place"] (WY K) := by
 refine F.ok W2 (fun vs H Q E h => ?_) (fun cdv A outer s H vs Q E hr h => ?_)
 ·obtain ⟨a, ns, k, rfl, _⟩ := h
  rfl
 obtain ⟨a, ns, k, rfl, hS, h63, k3, q⟩ := h
 refine ⟨_, (@zi _ _ _ (@zy _ _ _ _ (@zC _ _ _ _ _ _ _ (@zj _ K (by rfl)) (@zP _ _ _ _ _ _ _ _ (@Jv _) (@jI _ _ _ _ _ _ _ _ _ _ (@Y3 _ K (by rfl)) (@pv _ 0 _ _ (by rfl) (by walk_at "v") (by decide) (by decide)) (@j4 _ _ _ (@pv _ 1 _ _ (by rfl) (by walk_at "v") (by decide) (by decide))) (@j4 _ _ _ (@zP _ _ _ _ _ _ _ _ (@jg _) (@pv _ 1 _ _ (by rfl) (by walk_at "v") (by decide) (by decide)) (@zh _ _ _ _)))) (@qf _ _ _ _ (@za _ _ _ _ _ (@zh _ _ _ _) (@zc _) (by rfl)))) (@zh _ _ _ _) (fun _ _ => rfl)))), ?_⟩
 refine ⟨_, rfl, _, rfl, _, rfl, _, rfl, _, _, rfl, rfl, _, rfl, .inl ⟨a, _, rfl, hS, fun y hy => ?_⟩⟩
 obtain ⟨ms, em⟩ := cut_ints ns (some ((k : Nat) : Int)) (some (((k : Nat) : Int) + 1))
 have hml : ms.length <= 63 := by
  have h1 := ZJ (ns.map V.int) (some ((k : Nat) : Int)) (some (((k : Nat) : Int) + 1))
  rw [em, List.length_map, List.length_map] at h1
  omega
 dsimp only
 rw [em]
 have n1 := zg hy (.lst (ms.map V.int))
 refine ⟨zu (by show 1 <= 1000; decide), fun z hz => ?_⟩
 have n2 := zg hz (.lst [.int 0])
 refine ⟨y, z, _, _, rfl, rfl, n2 _ _ zd, zd, by rw [List.length_map]; exact zu (by show ms.length + 1 <= 1000; omega), fun l hl => ?_⟩
 have n3 := zg hl (.lst (ms.map V.int ++ [.int 0]))
 obtain ⟨c, hc⟩ : ∃ c : Int, atI (ms.map V.int ++ [V.int 0]) 0 = some (.int c) := by
  cases ms with
  | nil => exact ⟨0, rfl⟩
  | cons c ms => exact ⟨c, jM (j := 0) rfl⟩
 exact .inl ⟨l, _, 0, _, rfl, rfl, SqL.of zd, hc, q c _ (n1.trans (n2.trans n3))⟩
abbrev jr : Stmt := top 23
theorem j8 : zD ["_law_cell_here", "_law_rest", "_law_one"] ["_law_cell_here"] (zf jr) := ⟨rfl, rfl, rfl, by decide +kernel, rfl, by decide +kernel, by decide +kernel⟩
theorem W4 {P : Program} {w : World} {K : PySem.W.Frag} {mg : Str -> Option Value} {base : Heap} {f : Addr} {fd : FuncData} (F : Fun K "_law_pool" "_law_pool" jr f fd) (gb : Gb mg) : jT P w K mg base CX0 1 f fd ["_law_cell_here"] Y7 := by
 refine F.ok j8 (fun vs H Q E h => ?_) (fun cdv A outer s H vs Q E hr h => ?_)
 ·obtain ⟨c, rfl, _⟩ := h
  rfl
 obtain ⟨c, rfl, q⟩ := h
 refine ⟨_, (@ze _ _ _ _ _ (@zv _ _ 1 _ _ _ _ j8.nd rfl (Or.inl rfl) (@zh _ _ _ _) (by rfl) (by walk_at "f")) (@ze _ _ _ _ _ (@qR _ _ _ _ _ _ _ _ (@PW.pt _ _ _ (@Jk _ _ _ _ _ _ _ (@zL _ _ _ _ _ _ _ _ (@op_lt _) (@pv _ 0 _ _ (by rfl) (by walk_at "v") (by decide) (by decide)) (@zh _ _ _ _) (@qm _ _ (by decide) (by decide))) (@Jt _ _ _ _ (@zL _ _ _ _ _ _ _ _ (@op_ge _) (@pv _ 0 _ _ (by rfl) (by walk_at "v") (by decide) (by decide)) (@zP _ _ _ _ _ _ _ _ (@op_pow _) (@zh _ _ _ _) (@zh _ _ _ _)) (@qm _ _ (by decide) (by decide)))))) (@zi _ _ _ (@zv _ _ 1 _ _ _ _ j8.nd rfl (Or.inl rfl) (@zo _ _ _ _ _ _ _ _ _ (@call_abs _) rfl gb.abs bt_abs (@za _ _ _ _ _ (@pv _ 0 _ _ (by rfl) (by walk_at "v") (by decide) (by decide)) (@zc _) (by rfl)) (by decide) (by decide) (by rfl) (by rfl)) (by rfl) (by walk_at "f"))) (@zI _)) (@ze _ _ _ _ _ (@zv _ _ 2 _ _ _ _ j8.nd rfl (Or.inl rfl) (@zP _ _ _ _ _ _ _ _ (@Qv _) (@pv _ 0 _ _ (by rfl) (by walk_at "v") (by decide) (by decide)) (@zh _ _ _ _)) (by rfl) (by walk_at "f")) (@zi _ _ _ (@zy _ _ _ _ (@qf _ _ _ _ (@za _ _ _ _ _ (@pv _ 1 _ _ (by rfl) (by walk_at "v") (by decide) (by decide)) (@za _ _ _ _ _ (@pv _ 2 _ _ (by rfl) (by walk_at "v") (by decide) (by decide)) (@za _ _ _ _ _ (@zP _ _ _ _ _ _ _ _ (@Qv _) (@zP _ _ _ _ _ _ _ _ (@jg _) (@zP _ _ _ _ _ _ _ _ (@Zb _) (@pv _ 2 _ _ (by rfl) (by walk_at "v") (by decide) (by decide)) (@zh _ _ _ _)) (@zh _ _ _ _)) (@zh _ _ _ _)) (@zc _) (by rfl)) (by rfl)) (by rfl)))))))), ?_⟩
 walk_at "rd"
 refine ite2 (fun c1 => ?_) (fun c1 => ?_)
 ·walk_at "rd"
  exact ⟨zu (by show 3 <= 1000; decide), fun p hp => q p _ _ _ hp⟩
 ·walk_at "rd"
  refine ite2 (fun c2 => ?_) (fun c2 => ?_)
  ·walk_at "rd"
   exact ⟨zu (by show 3 <= 1000; decide), fun p hp => q p _ _ _ hp⟩
  ·walk_at "rd"
   exact ⟨zu (by show 3 <= 1000; decide), fun p hp => q p _ _ _ hp⟩
abbrev js : Stmt := top 24
theorem Je : zD ["_law_pool_here", "_law_many", "_law_found"] ["_law_pool_here", "_law_many"] (zf js) := ⟨rfl, rfl, rfl, by decide +kernel, rfl, by decide +kernel, by decide +kernel⟩
theorem W5 {P : Program} {w : World} {K : PySem.W.Frag} {mg : Str -> Option Value} {base : Heap} {f : Addr} {fd : FuncData} (F : Fun K "_law_draw" "_law_draw" js f fd) (gb : Gb mg) : jT P w K mg base CX0 1 f fd ["_law_pool_here", "_law_many"] ZW := by
 refine F.ok Je (fun vs H Q E h => ?_) (fun cdv A outer s H vs Q E hr h => ?_)
 ·obtain ⟨p, m, rfl, _⟩ := h
  rfl
 obtain ⟨p, m, rfl, ⟨r, a, b, hp⟩, m0, m1, q⟩ := h
 refine ⟨_, (@ze _ _ _ _ _ (@qR _ _ _ _ _ _ _ _ (@zL _ _ _ _ _ _ _ _ (@op_gt _) (@zC _ _ _ _ _ _ _ (@zj _ K (by rfl)) (@pv _ 0 _ _ (by rfl) (by walk_at "v") (by decide) (by decide)) (@zh _ _ _ _) (fun _ _ => rfl)) (@zh _ _ _ _) (@qm _ _ (by decide) (by decide))) (@ze _ _ _ _ _ (@zv _ _ 2 _ _ _ _ Je.nd rfl (Or.inl rfl) (@zP _ _ _ _ _ _ _ _ (@Qv _) (@zC _ _ _ _ _ _ _ (@zj _ K (by rfl)) (@pv _ 0 _ _ (by rfl) (by walk_at "v") (by decide) (by decide)) (@zh _ _ _ _) (fun _ _ => rfl)) (@pv _ 1 _ _ (by rfl) (by walk_at "v") (by decide) (by decide))) (by rfl) (by walk_at "f")) (@ze _ _ _ _ _ (@Ju _ _ _ _ _ _ (@zP _ _ _ _ _ _ _ _ (@YI _) (@zC _ _ _ _ _ _ _ (@zj _ K (by rfl)) (@pv _ 0 _ _ (by rfl) (by walk_at "v") (by decide) (by decide)) (@zh _ _ _ _) (fun _ _ => rfl)) (@pv _ 1 _ _ (by rfl) (by walk_at "v") (by decide) (by decide))) (@YD _ _ _ _ _ _ _ (@pv _ 0 _ _ (by rfl) (by walk_at "v") (by decide) (by decide)) (@zh _ _ _ _) (@JW _) (by intro _; rfl)) (by rfl) (by rfl) (by rfl)) (@zi _ _ _ (@zy _ _ _ _ (@pv _ 2 _ _ (by rfl) (by walk_at "v") (by decide) (by decide)))))) (@zI _)) (@ze _ _ _ _ _ (@Ju _ _ _ _ _ _ (@zP _ _ _ _ _ _ _ _ (@Qv _) (@zP _ _ _ _ _ _ _ _ (@jg _) (@zP _ _ _ _ _ _ _ _ (@jg _) (@zP _ _ _ _ _ _ _ _ (@Zb _) (@zC _ _ _ _ _ _ _ (@zj _ K (by rfl)) (@pv _ 0 _ _ (by rfl) (by walk_at "v") (by decide) (by decide)) (@zh _ _ _ _) (fun _ _ => rfl)) (@zh _ _ _ _)) (@zC _ _ _ _ _ _ _ (@zj _ K (by rfl)) (@pv _ 0 _ _ (by rfl) (by walk_at "v") (by decide) (by decide)) (@zh _ _ _ _) (fun _ _ => rfl))) (@zh _ _ _ _)) (@zh _ _ _ _)) (@YD _ _ _ _ _ _ _ (@pv _ 0 _ _ (by rfl) (by walk_at "v") (by decide) (by decide)) (@zh _ _ _ _) (@JW _) (by intro _; rfl)) (by rfl) (by rfl) (by rfl)) (@ze _ _ _ _ _ (@Ju _ _ _ _ _ _ (@zP _ _ _ _ _ _ _ _ (@Qv _) (@zP _ _ _ _ _ _ _ _ (@jg _) (@zP _ _ _ _ _ _ _ _ (@jg _) (@zP _ _ _ _ _ _ _ _ (@Zb _) (@zC _ _ _ _ _ _ _ (@zj _ K (by rfl)) (@pv _ 0 _ _ (by rfl) (by walk_at "v") (by decide) (by decide)) (@zh _ _ _ _) (fun _ _ => rfl)) (@zh _ _ _ _)) (@zP _ _ _ _ _ _ _ _ (@Qv _) (@zP _ _ _ _ _ _ _ _ (@Zb _) (@zC _ _ _ _ _ _ _ (@zj _ K (by rfl)) (@pv _ 0 _ _ (by rfl) (by walk_at "v") (by decide) (by decide)) (@zh _ _ _ _) (fun _ _ => rfl)) (@zC _ _ _ _ _ _ _ (@zj _ K (by rfl)) (@pv _ 0 _ _ (by rfl) (by walk_at "v") (by decide) (by decide)) (@zh _ _ _ _) (fun _ _ => rfl))) (@zh _ _ _ _))) (@zh _ _ _ _)) (@zh _ _ _ _)) (@YD _ _ _ _ _ _ _ (@pv _ 0 _ _ (by rfl) (by walk_at "v") (by decide) (by decide)) (@zh _ _ _ _) (@JW _) (by intro _; rfl)) (by rfl) (by rfl) (by rfl)) (@zi _ _ _ (@zy _ _ _ _ (@zP _ _ _ _ _ _ _ _ (@Qv _) (@zP _ _ _ _ _ _ _ _ (@YI _) (@zP _ _ _ _ _ _ _ _ (@jg _) (@zC _ _ _ _ _ _ _ (@zj _ K (by rfl)) (@pv _ 0 _ _ (by rfl) (by walk_at "v") (by decide) (by decide)) (@zh _ _ _ _) (fun _ _ => rfl)) (@zP _ _ _ _ _ _ _ _ (@Zb _) (@zh _ _ _ _) (@zC _ _ _ _ _ _ _ (@zj _ K (by rfl)) (@pv _ 0 _ _ (by rfl) (by walk_at "v") (by decide) (by decide)) (@zh _ _ _ _) (fun _ _ => rfl)))) (@zh _ _ _ _)) (@pv _ 1 _ _ (by rfl) (by walk_at "v") (by decide) (by decide)))))))), ?_⟩
 walk_at "rd"
 refine ite2 (fun c => ?_) (fun c => ?_)
 ·walk_at "rd"
  exact q _ _ (Int.emod_nonneg _ (by omega)) (Int.emod_lt_of_pos _ m0) Off.put ⟨_, _, _, zd⟩
 ·walk_at "rd"
  exact q _ _ (Int.emod_nonneg _ (by omega)) (Int.emod_lt_of_pos _ m0) (Off.put.trans Off.put) ⟨_, _, _, zd⟩
abbrev qE : Stmt := top 25
theorem jD : zD ["_law_pool_here", "_law_names", "_law_letters_here", "_law_name_here", "_law_some"] ["_law_pool_here", "_law_names"] (zf qE) := ⟨rfl, rfl, rfl, by decide +kernel, rfl, by decide +kernel, by decide +kernel⟩
theorem inV_str (s : Str) (ns : List Str) : inV (.str s) (ns.map V.str) = decide (s ∈ ns) := by
 induction ns with
 | nil => rfl
 | cons n ns ih =>
  have e : inV (.str s) ((n :: ns).map V.str) = ((n == s) || inV (.str s) (ns.map V.str)) := rfl
  rw [e, ih]
  by_cases h : s = n
  ·subst h; simp
  ·have h' : (n == s) = false := by simpa using fun z => h z.symm
   rw [h', Bool.false_or]
   simp [h]
theorem Xx (ns : List Str) : (ns.map V.str).all Qh = true := by
 rw [List.all_eq_true]
 intro x hx
 obtain ⟨n, _, rfl⟩ := List.mem_map.mp hx
 rfl
theorem jh.same {H H' : Hp} {p : Addr} (h : jh H p) (s : zF H H') : jh H' p := by
 obtain ⟨r, a, b, e⟩ := h
 exact ⟨r, a, b, s _ _ e⟩
theorem Wq {K : PySem.W.Frag} {p l : Addr} {ns : List Str} {Q : VK} {H : Hp} {z : Str} (hz : Zg z) (pl : jh H p) (hl : H l = some (.lst (ns.map .str))) (hn : ns.length <= 8) (q : ∀ x H', zF H H' -> x ∉ ns -> Zg x -> Q (.str x) H') :
  tSeq
   (tAsg (tOp rCat (tLst (tCons (tVar 3) tNil)) (tComp [none, some 3] (iStr (tVar 2)) (Za 0) tYes (tOp (fun x y H Q => ∃ i j, x = V.str i /\ y = V.str j /\ i.length + j.length <= sizeLine /\ Q (V.str (i ++ j)) H) (tSl (fun x lo hi H Q => rSlL K x lo hi H Q \/ rSlT K x lo hi H Q \/ rSlS x lo hi H Q) (tVar 1) YT (tPart (tC (V.int 7)))) (tVar 0)))) (Za 4))
   (tRet (tOp (rIx K) (tComp [none, some 1] (iList K (tVar 4)) (Za 0) (tTest (tOp (rIn K true) (tVar 0) (tVar 1))) (tVar 0)) (tC (V.int 0))))
   { nx := fun _ H' => Q V.non H', rt := Q } [some (.ref p), some (.ref l), some (.str jC), some (.str z), none] H := by
 refine ⟨_, rfl, zu (by show 1 <= 1000; decide), fun g hg => ?_⟩
 refine ⟨_, rfl, jC, rfl, fun D hD => ?_⟩
 have g1 : zF H (upd H g (.lst [.str z])) := zg hg _
 refine yh (fun i ys H' => zF (upd H g (.lst [.str z])) H' /\ ys = (jC.cps.toList.take i).map fun c => V.str (yn (PySem.Txt.slice z none (some 7)) c)) ⟨zg hD _, rfl⟩ ?_ ?_
 ·rintro i ys H' c hc ⟨s1, rfl⟩ hD'
  have hi : i < jC.cps.size := (Array.getElem?_eq_some_iff.mp hc).1
  have hi26 : i < 26 := by have := Zn; simp at this; omega
  refine yes ?_
  have hsl := PySem.Txt.slice_le z none (some 7)
  have hz8 := hz.2.1
  refine ⟨_, rfl, _, rfl, .inr (.inr ⟨z, rfl, zu (by omega), _, rfl, _, _, rfl, rfl, ?_, ?_⟩)⟩
  ·refine zu ?_
   have e1 : (Str.mk #[c]).length = 1 := rfl
   rw [e1]
   omega
  ·refine wA hi jU hD' ?_ ⟨fun b o qb => ?_, ?_⟩
   ·rw [List.length_map, List.length_take]
    exact zr (by omega)
   ·rw [zn (zx qb hD)]
    exact s1 b o qb
   ·rw [take_snoc (show jC.cps.toList[i]? = some c by simpa using hc), List.map_append]
    rfl
 ·rintro ys H' ⟨s1, rfl⟩ hD'
  rw [List.take_of_length_le (by simp)] at hD'
  refine ⟨g, D, _, _, rfl, rfl, s1 _ _ zd, hD', ?_, fun e he => ?_⟩
  ·rw [List.length_map, Zn]
   exact zu (by show 1 + 26 <= 1000; decide)
  have s2 : zF H (upd H' e (.lst ([.str z] ++ (jC.cps.toList.map fun c => V.str (yn (PySem.Txt.slice z none (some 7)) c))))) := (g1.trans s1).trans (zg he _)
  have ec : (.lst ([.str z] ++ (jC.cps.toList.map fun c => V.str (yn (PySem.Txt.slice z none (some 7)) c))) : HO) = .lst ((z :: jC.cps.toList.map (yn (PySem.Txt.slice z none (some 7)))).map V.str) := by
   rw [List.map_cons, List.map_map]
   rfl
  generalize hcs : (z :: jC.cps.toList.map (yn (PySem.Txt.slice z none (some 7)))) = cs at ec
  have hcl : cs.length = 27 := by rw [<- hcs, List.length_cons, List.length_map, Zn]
  rw [ec] at s2 ⊢
  refine ⟨_, rfl, e, rfl, ⟨_, SqL.of zd⟩, fun D2 hD2 => ?_⟩
  refine jz (xs := cs.map V.str) (fun i ys H2 => zF (upd H' e (.lst (cs.map V.str))) H2 /\ ys = ((cs.take i).filter fun s => decide (s ∉ ns)).map V.str) ⟨zg hD2 _, rfl⟩ (fun i ys H2 h _ => SqL.of (h.1 _ _ zd)) ?_ ?_
  ·rintro i ys H2 x hx ⟨s3, rfl⟩ hD3
   have hi : i < (cs.map V.str).length := (List.getElem?_eq_some_iff.mp hx).1
   rw [List.getElem?_map] at hx
   obtain ⟨s, hs, rfl⟩ := Option.map_eq_some_iff.mp hx
   refine ⟨_, rfl, _, rfl, l, _, rfl, .inl (SqL.of (s3 _ _ (s2 _ _ hl))), rfl, Xx ns, _, rfl, ?_⟩
   rw [inV_str]
   have keep : ∀ (o : HO), zF (upd H' e (.lst (cs.map V.str))) (upd H2 D2 o) := fun o b u qb => by
    rw [zn (zx qb hD2)]
    exact s3 b u qb
   have hlen : (((cs.take i).filter fun s => decide (s ∉ ns)).map V.str).length < sizeLine := by
    rw [List.length_map]
    refine zr ?_
    have h1 := List.length_filter_le (fun s => decide (s ∉ ns)) (cs.take i)
    rw [List.length_take] at h1
    omega
   refine ite2 (fun c => ?_) (fun c => ?_)
   ·have hm : s ∉ ns := by simpa using c
    refine ⟨_, rfl, wA hi jU hD3 hlen ⟨keep _, ?_⟩⟩
    rw [take_snoc hs, List.filter_append, List.map_append]
    simp [hm]
   ·have hm : s ∈ ns := by simpa using c
    refine cno hi jU hD3 ⟨s3, ?_⟩
    rw [take_snoc hs, List.filter_append]
    simp [hm]
  ·rintro ys H2 ⟨s3, rfl⟩ hD3
   rw [List.length_map, List.take_length] at hD3
   obtain ⟨c, hc, hnew⟩ := pick_new (PySem.Txt.slice z none (some 7)) jC.cps.toList alpha_nd ns (by rw [Zn]; omega)
   have hmem : yn (PySem.Txt.slice z none (some 7)) c ∈ cs.filter fun s => decide (s ∉ ns) := by
    rw [<- hcs]
    exact List.mem_filter.mpr ⟨List.mem_cons_of_mem _ (List.mem_map.mpr ⟨c, hc, rfl⟩), by simpa using hnew⟩
   cases hf : cs.filter (fun s => decide (s ∉ ns)) with
   | nil => rw [hf] at hmem; cases hmem
   | cons s0 rest =>
    rw [hf] at hD3
    have hs0 : s0 ∉ ns := by
     have : s0 ∈ cs.filter fun s => decide (s ∉ ns) := by rw [hf]; exact List.mem_cons_self
     simpa using (List.mem_filter.mp this).2
    have hn0 : Zg s0 := by
     have hm0 : s0 ∈ cs.filter fun s => decide (s ∉ ns) := by rw [hf]; exact List.mem_cons_self
     have hm1 := (List.mem_filter.mp hm0).1
     rw [<- hcs] at hm1
     rcases List.mem_cons.mp hm1 with e1 | hm2
     ·rw [e1]
      exact hz
     ·obtain ⟨c', hc', e1⟩ := List.mem_map.mp hm2
      rw [<- e1]
      exact xa hz (ZO c' hc').1 (ZO c' hc').2
    exact .inl ⟨D2, _, 0, _, rfl, rfl, SqL.of hD3, jM (j := 0) rfl, q s0 H2 (s2.trans s3) hs0 hn0⟩
theorem W6 {P : Program} {w : World} {K : PySem.W.Frag} {mg : Str -> Option Value} {base : Heap} {f : Addr} {fd : FuncData} (F : Fun K "_law_name" "_law_name" qE f fd) (gb : Gb mg) (d_law_draw : Def P w K mg base 1 "_law_draw" ["_law_pool_here", "_law_many"] ZW) : jT P w K mg base CX0 2 f fd ["_law_pool_here", "_law_names"] Xb := by
 refine F.ok jD (fun vs H Q E h => ?_) (fun cdv A outer s H vs Q E hr h => ?_)
 ·obtain ⟨p, l, ns, rfl, _⟩ := h
  rfl
 obtain ⟨p, l, ns, rfl, pl, hl, hn, q⟩ := h
 have nd0 : (["_law_k", "_law_letters_here", "_law_pool_here"] : List Str).Nodup := by decide +kernel
 have nd1 : (["_law_sign", "_law_name_here"] : List Str).Nodup := by decide +kernel
 have nd2 : (["_law_one", "_law_names"] : List Str).Nodup := by decide +kernel
 refine ⟨_, (@ze _ _ _ _ _ (@zv _ _ 2 _ _ _ _ jD.nd rfl (Or.inr rfl) (@qO _ _ _ _) (by rfl) (by walk_at "f")) (@ze _ _ _ _ _ (@zv _ _ 3 _ _ _ _ jD.nd rfl (Or.inr rfl) (@ZB _ K _ _ _ _ _ _ _ _ _ _ _ PySem.F.plainAttrs_str PySem.F.slot_str_join PySem.F.type_str_join (@kmt_join _ K (by rfl)) (@qO _ _ _ _) (@za _ _ _ _ _ (@zW _ ["_law_k", "_law_letters_here", "_law_pool_here"] [none, some 2, some 0] _ _ _ _ _ _ _ _ _ _ (by exact (show zN ["_law_pool_here", "_law_names", "_law_letters_here", "_law_name_here", "_law_some"] (zf qE) ["_law_k", "_law_letters_here", "_law_pool_here"] [none, some 2, some 0] _ from ⟨rfl, by decide +kernel, by decide +kernel, by decide +kernel, by decide +kernel, rfl, by decide +kernel⟩)) rfl (@ql _ _ _ _ _ _ rfl gb.range (@za _ _ _ _ _ (@zP _ _ _ _ _ _ _ _ (@jg _) (@zh _ _ _ _) (@zq _ _ _ _ _ _ _ _ _ _ _ d_law_draw hr (by omega) rfl (@za _ _ _ _ _ (@pv _ 0 _ _ (by rfl) (by walk_at "v") (by decide) (by decide)) (@za _ _ _ _ _ (@zh _ _ _ _) (@zc _) (by rfl)) (by rfl)) (by decide) (by rfl) (by rfl))) (@zc _) (by rfl)) (by rfl)) (fun _ _ _ _ => (@zk _ _ 0 _ nd0 rfl (Or.inl rfl) (by walk_at "f"))) (fun _ _ _ _ => (@qG _)) (fun _ _ _ _ => (@zC _ _ _ _ _ _ _ (@zj _ K (by rfl)) (@pv _ 1 _ _ (by rfl) (by walk_at "v") (by decide) (by decide)) (@zq _ _ _ _ _ _ _ _ _ _ _ d_law_draw hr (by omega) rfl (@za _ _ _ _ _ (@pv _ 2 _ _ (by rfl) (by walk_at "v") (by decide) (by decide)) (@za _ _ _ _ _ (@zh _ _ _ _) (@zc _) (by rfl)) (by rfl)) (by decide) (by rfl) (by rfl)) (fun _ _ => rfl))) (by intro _; rfl)) (@zc _) (by rfl)) (by rfl) (by rfl) (by rfl) (by rfl) (by rfl) (by rfl)) (by rfl) (by walk_at "f")) (@ze _ _ _ _ _ (@qR _ _ _ _ _ _ _ _ (@zL _ _ _ _ _ _ _ _ (@JV _) (@zq _ _ _ _ _ _ _ _ _ _ _ d_law_draw hr (by omega) rfl (@za _ _ _ _ _ (@pv _ 0 _ _ (by rfl) (by walk_at "v") (by decide) (by decide)) (@za _ _ _ _ _ (@zh _ _ _ _) (@zc _) (by rfl)) (by rfl)) (by decide) (by rfl) (by rfl)) (@zh _ _ _ _) (@qm _ _ (by decide) (by decide))) (@zi _ _ _ (@zv _ _ 3 _ _ _ _ jD.nd rfl (Or.inr rfl) (@zC _ _ _ _ _ _ _ (@zj _ K (by rfl)) (@qf _ _ _ _ (@za _ _ _ _ _ (@qO _ _ _ _) (@za _ _ _ _ _ (@qO _ _ _ _) (@zc _) (by rfl)) (by rfl))) (@zq _ _ _ _ _ _ _ _ _ _ _ d_law_draw hr (by omega) rfl (@za _ _ _ _ _ (@pv _ 0 _ _ (by rfl) (by walk_at "v") (by decide) (by decide)) (@za _ _ _ _ _ (@zh _ _ _ _) (@zc _) (by rfl)) (by rfl)) (by decide) (by rfl) (by rfl)) (fun _ _ => rfl)) (by rfl) (by walk_at "f"))) (@zI _)) (@ze _ _ _ _ _ (@zv _ _ 4 _ _ _ _ jD.nd rfl (Or.inl rfl) (@zP _ _ _ _ _ _ _ _ (@Jv _) (@qf _ _ _ _ (@za _ _ _ _ _ (@pv _ 3 _ _ (by rfl) (by walk_at "v") (by decide) (by decide)) (@zc _) (by rfl))) (@zW _ ["_law_sign", "_law_name_here"] [none, some 3] _ _ _ _ _ _ _ _ _ _ (by exact (show zN ["_law_pool_here", "_law_names", "_law_letters_here", "_law_name_here", "_law_some"] (zf qE) ["_law_sign", "_law_name_here"] [none, some 3] _ from ⟨rfl, by decide +kernel, by decide +kernel, by decide +kernel, by decide +kernel, rfl, by decide +kernel⟩)) rfl (@pi_str _ _ _ _ (@pv _ 2 _ _ (by rfl) (by walk_at "v") (by decide) (by decide))) (fun _ _ _ _ => (@zk _ _ 0 _ nd1 rfl (Or.inl rfl) (by walk_at "f"))) (fun _ _ _ _ => (@qG _)) (fun _ _ _ _ => (@zP _ _ _ _ _ _ _ _ (@yP _) (@jI _ _ _ _ _ _ _ _ _ _ (@Y3 _ K (by rfl)) (@pv _ 1 _ _ (by rfl) (by walk_at "v") (by decide) (by decide)) (@ZI _) (@j4 _ _ _ (@zh _ _ _ _))) (@pv _ 0 _ _ (by rfl) (by walk_at "v") (by decide) (by decide)))) (by intro _; rfl))) (by rfl) (by walk_at "f")) (@zi _ _ _ (@zy _ _ _ _ (@zC _ _ _ _ _ _ _ (@zj _ K (by rfl)) (@zW _ ["_law_one", "_law_names"] [none, some 1] _ _ _ _ _ _ _ _ _ _ (by exact (show zN ["_law_pool_here", "_law_names", "_law_letters_here", "_law_name_here", "_law_some"] (zf qE) ["_law_one", "_law_names"] [none, some 1] _ from ⟨rfl, by decide +kernel, by decide +kernel, by decide +kernel, by decide +kernel, rfl, by decide +kernel⟩)) rfl (@zH _ K _ _ _ (@pv _ 4 _ _ (by rfl) (by walk_at "v") (by decide) (by decide)) (by rfl)) (fun _ _ _ _ => (@zk _ _ 0 _ nd2 rfl (Or.inl rfl) (by walk_at "f"))) (fun _ _ _ _ => (@wQ _ _ _ (@zL _ _ _ _ _ _ _ _ (@ZV _ K (by rfl)) (@pv _ 0 _ _ (by rfl) (by walk_at "v") (by decide) (by decide)) (@pv _ 1 _ _ (by rfl) (by walk_at "v") (by decide) (by decide)) (by with_unfolding_all rfl)))) (fun _ _ _ _ => (@pv _ 0 _ _ (by rfl) (by walk_at "v") (by decide) (by decide))) (by intro _; rfl)) (@zh _ _ _ _) (fun _ _ => rfl)))))))), ?_⟩
 refine ⟨rfl, ?_⟩
 refine ⟨_, rfl, p, 7, rfl, pl, by decide, by decide, fun v H1 v0 v1 o1 pl1 => ?_⟩
 refine ⟨_, _, rfl, rfl, _, rfl, by omega, by omega, fun D hD => ?_⟩
 have pnl : l ≠ p := fun z => by
  obtain ⟨r, a, b, e⟩ := pl
  rw [<- z, hl] at e
  cases ns with
  | nil => cases e
  | cons n ns => cases e
 have pnD : D ≠ p := fun z => by
  obtain ⟨r, a, b, e⟩ := pl1
  rw [<- z, hD] at e
  cases e
 refine jV (fun i ys H => Off p H1 H /\ jh H p /\ ∃ cs : List Nat, ys = (cs.map WS).map V.str /\ cs.length = i /\ ∀ d ∈ cs, 97 <= d /\ d <= 122) ⟨Off.new hD, pl1.new hD, [], rfl, rfl, by simp⟩ ?_ ?_
 ·rintro i ys H2 hi ⟨o2, p2, cs, rfl, hc, hs⟩ hD2
  refine yes ?_
  refine ⟨_, rfl, _, rfl, p, 26, rfl, p2, by decide, by decide, fun u H3 u0 u1 o3 p3 => ?_⟩
  obtain ⟨c, hat, c0, c1⟩ := alpha_at u0 u1
  refine .inr (.inr ⟨jC, u, c, rfl, rfl, zu (by decide +kernel), hat, ?_⟩)
  refine wA hi jU (o3 _ _ pnD hD2) (by rw [List.length_map, List.length_map, hc]; exact zr (by omega)) ⟨?_, p3.off (Ne.symm pnD), cs ++ [c], by rw [List.map_append, List.map_append]; rfl, by rw [List.length_append, hc]; rfl, ?_⟩
  ·exact (o2.trans o3).fresh hD
  ·intro d hd
   rcases List.mem_append.mp hd with hd | hd
   ·exact hs d hd
   ·rw [List.mem_singleton.mp hd]
    exact ⟨c0, c1⟩
 ·rintro ys H2 ⟨o2, p2, cs, rfl, hc, hs⟩ hD2
  refine ⟨_, D, cs.map WS, rfl, rfl, SqL.of hD2, ?_, ?_⟩
  ·rw [yD]
   show _ + (cs.map WS).length * 0 <= _
   omega
  have hz := Xd hs (by omega) (by omega)
  refine ⟨_, rfl, p, 16, rfl, p2, by decide, by decide, fun u H3 u0 u1 o3 p3 => ⟨rfl, _, rfl, ?_⟩⟩
  have o03 : Off p H H3 := (o1.trans o2).trans o3
  refine ite2 (fun c => ?_) (fun c => ?_)
  ·refine ⟨zu (by show 2 <= 1000; decide), fun g hg => ⟨_, rfl, p, 2, rfl, p3.new hg, by decide, by decide, fun y H4 y0 y1 o4 p4 => ?_⟩⟩
   have gp : g ≠ p := fun z => by
    obtain ⟨r, a, b, e⟩ := p3
    rw [<- z, hg] at e
    cases e
   obtain ⟨z, hat, hz8⟩ := at2 y0 y1
   have o04 : Off p H H4 := (o03.trans (Off.new hg)).trans o4
   exact .inl ⟨g, _, y, _, rfl, rfl, SqL.of (o4 _ _ gp zd), hat, Wq hz8 p4 (o04 _ _ pnl hl) hn fun x H' s5 hx hnm => q x H' (o04.trans (Off.of s5)) (jh.same p4 s5) hx hnm⟩
  ·exact Wq hz p3 (o03 _ _ pnl hl) hn fun x H' s5 hx hnm => q x H' (o03.trans (Off.of s5)) (jh.same p3 s5) hx hnm
abbrev qY : Stmt := top 26
theorem jk : zD ["_law_pool_here", "_law_many", "_law_places", "_law_often", "_law_found", "_law_k", "_law_one"] ["_law_pool_here", "_law_many", "_law_places", "_law_often"] (zf qY) := ⟨rfl, rfl, rfl, by decide +kernel, rfl, by decide +kernel, by decide +kernel⟩
theorem Wr {P : Program} {w : World} {K : PySem.W.Frag} {mg : Str -> Option Value} {base : Heap} {f : Addr} {fd : FuncData} (F : Fun K "_law_cells" "_law_cells" qY f fd) (gb : Gb mg) (d_law_draw : Def P w K mg base 1 "_law_draw" ["_law_pool_here", "_law_many"] ZW) : jT P w K mg base CX0 2 f fd ["_law_pool_here", "_law_many", "_law_places", "_law_often"] WR := by
 refine F.ok jk (fun vs H Q E h => ?_) (fun cdv A outer s H vs Q E hr h => ?_)
 ·obtain ⟨p, m, pl, often, rfl, _⟩ := h
  rfl
 obtain ⟨p, m, pl, often, rfl, hp, m1, m9, p0, p2, o0, o9, q⟩ := h
 refine ⟨_, (@ze _ _ _ _ _ (@zv _ _ 4 _ _ _ _ jk.nd rfl (Or.inl rfl) (@qf _ _ _ _ (@zc _)) (by rfl) (by walk_at "f")) (@ze _ _ _ _ _ (@qP _ _ _ _ _ _ _ _ PassesOwn.never rfl (@ql _ _ _ _ _ _ rfl gb.range (@za _ _ _ _ _ (@zC _ _ _ _ _ _ _ (@zj _ K (by rfl)) (@qf _ _ _ _ (@za _ _ _ _ _ (@zh _ _ _ _) (@za _ _ _ _ _ (@pv _ 1 _ _ (by rfl) (by walk_at "v") (by decide) (by decide)) (@za _ _ _ _ _ (@zP _ _ _ _ _ _ _ _ (@Zb _) (@pv _ 1 _ _ (by rfl) (by walk_at "v") (by decide) (by decide)) (@pv _ 1 _ _ (by rfl) (by walk_at "v") (by decide) (by decide))) (@zc _) (by rfl)) (by rfl)) (by rfl))) (@pv _ 2 _ _ (by rfl) (by walk_at "v") (by decide) (by decide)) (fun _ _ => rfl)) (@zc _) (by rfl)) (by rfl)) (@zk _ _ 5 _ jk.nd rfl (Or.inl rfl) (by walk_at "f")) (@ze _ _ _ _ _ (@zv _ _ 6 _ _ _ _ jk.nd rfl (Or.inl rfl) (@zq _ _ _ _ _ _ _ _ _ _ _ d_law_draw hr (by omega) rfl (@za _ _ _ _ _ (@pv _ 0 _ _ (by rfl) (by walk_at "v") (by decide) (by decide)) (@za _ _ _ _ _ (@pv _ 1 _ _ (by rfl) (by walk_at "v") (by decide) (by decide)) (@zc _) (by rfl)) (by rfl)) (by decide) (by rfl) (by rfl)) (by rfl) (by walk_at "f")) (@ze _ _ _ _ _ (@qR _ _ _ _ _ _ _ _ (@PW.pt _ _ _ (@pw_and _ _ _ _ _ _ _ (@zL _ _ _ _ _ _ _ _ (@op_gt _) (@pv _ 3 _ _ (by rfl) (by walk_at "v") (by decide) (by decide)) (@zh _ _ _ _) (@qm _ _ (by decide) (by decide))) (@YB _ _ _ _ (@zL _ _ _ _ _ _ _ _ (@JV _) (@zq _ _ _ _ _ _ _ _ _ _ _ d_law_draw hr (by omega) rfl (@za _ _ _ _ _ (@pv _ 0 _ _ (by rfl) (by walk_at "v") (by decide) (by decide)) (@za _ _ _ _ _ (@pv _ 3 _ _ (by rfl) (by walk_at "v") (by decide) (by decide)) (@zc _) (by rfl)) (by rfl)) (by decide) (by rfl) (by rfl)) (@zh _ _ _ _) (@qm _ _ (by decide) (by decide)))))) (@zi _ _ _ (@zv _ _ 6 _ _ _ _ jk.nd rfl (Or.inl rfl) (@pe_non _ _ _) (by rfl) (by walk_at "f"))) (@zI _)) (@zi _ _ _ (@jL _ _ _ _ (@ZB _ K _ _ _ _ _ _ _ _ _ _ _ PySem.F.plainAttrs_list PySem.F.slot_list_append PySem.F.type_list_append (@jv _) (@pv _ 4 _ _ (by rfl) (by walk_at "v") (by decide) (by decide)) (@za _ _ _ _ _ (@pv _ 6 _ _ (by rfl) (by walk_at "v") (by decide) (by decide)) (@zc _) (by rfl)) (by rfl) (by rfl) (by rfl) (by rfl) (by rfl) (by rfl)) (by rfl))))) (by intro _; rfl)) (@zi _ _ _ (@zy _ _ _ _ (@zG _ _ _ _ _ _ _ _ _ (@qH _ K (by rfl)) rfl gb.tuple jJ (@za _ _ _ _ _ (@pv _ 4 _ _ (by rfl) (by walk_at "v") (by decide) (by decide)) (@zc _) (by rfl)) (by decide) (by decide) (by rfl) (by rfl)))))), ?_⟩
 obtain ⟨n, hat, n0, n81, hnm⟩ := Yn m1 m9 p0 p2
 refine ⟨Nat.zero_le _, fun f hf => ?_⟩
 have fp : f ≠ p := fun z => by
  obtain ⟨r, a, b, e⟩ := hp
  rw [<- z, hf] at e
  cases e
 refine ⟨_, rfl, _, rfl, _, rfl, _, _, rfl, rfl, .inr ⟨by omega, by omega⟩, zu (by show 3 <= 1000; decide), fun g hg => ?_⟩
 have fg : f ≠ g := fun z => by
  rw [<- z, zd] at hg
  cases hg
 have hg0 : H g = none := by
  rw [zn (Ne.symm fg)] at hg
  exact hg
 refine ⟨_, rfl, .inl ⟨g, _, pl, _, rfl, rfl, SqL.of zd, hat, _, rfl, by omega, by omega, ?_⟩⟩
 refine ju (fun i σ H' => ∃ (cs : List (Option Int)) (x5 x6 : Option V), σ = [some (.ref p), some (.int m), some (.int pl), some (.int often), some (.ref f), x5, x6] /\ Off p H H' /\ jh H' p /\ H' f = some (.lst (cs.map Zz)) /\ cs.length = i /\ (∀ o ∈ cs, wX m o) /\ (often = 0 -> ∀ o ∈ cs, o ≠ none))
  ⟨[], none, none, rfl, ((Off.refl.fresh hf).fresh hg0), (hp.new hf).new hg, by rw [zn fg, zd]; rfl, rfl, by simp, by simp⟩ ?_ ?_
 ·rintro i σ H' hi ⟨cs, x5, x6, rfl, o1, p1, hc, hl, hok, hno⟩
  have hz : (cs.map Zz).length < sizeLine := by
   rw [List.length_map, hl]
   exact zr (by omega)
  refine ⟨_, rfl, _, rfl, p, m, rfl, p1, by omega, by omega, fun v H2 v0 v1 o2 p2 => ?_⟩
  have hc2 := o2 _ _ fp hc
  have fin : ∀ (o : Option Int) (H3 : Hp), wX m o -> (often = 0 -> o ≠ none) -> Off p H H3 -> jh H3 p -> H3 f = some (.lst (cs.map Zz)) ->
    ∃ (cs' : List (Option Int)) (x5 x6 : Option V), [some (V.ref p), some (.int m), some (.int pl), some (.int often), some (.ref f), some (.int (0 + i)), some (Zz o)] = [some (.ref p), some (.int m), some (.int pl), some (.int often), some (.ref f), x5, x6] /\
     Off p H (upd H3 f (.lst (cs.map Zz ++ [Zz o]))) /\ jh (upd H3 f (.lst (cs.map Zz ++ [Zz o]))) p /\ (upd H3 f (.lst (cs.map Zz ++ [Zz o]))) f = some (.lst (cs'.map Zz)) /\ cs'.length = i + 1 /\ (∀ o ∈ cs', wX m o) /\ (often = 0 -> ∀ o ∈ cs', o ≠ none) := fun o H3 b1 b2 a1 a2 a3 =>
   ⟨cs ++ [o], _, _, rfl, a1.fresh hf, a2.off (Ne.symm fp), by rw [zd, List.map_append]; rfl, by rw [List.length_append, hl]; rfl, fun z hz' => by
    rcases List.mem_append.mp hz' with q1 | q1
    ·exact hok z q1
    ·rw [List.mem_singleton.mp q1]; exact b1, fun h0 z hz' => by
    rcases List.mem_append.mp hz' with q1 | q1
    ·exact hno h0 z q1
    ·rw [List.mem_singleton.mp q1]; exact b2 h0⟩
  refine ⟨_, rfl, _, _, rfl, rfl, _, rfl, ?_⟩
  refine ite2 (fun c1 => ?_) (fun c1 => ?_)
  ·have c1' : 0 < often := of_decide_eq_true c1
   refine ⟨_, rfl, _, rfl, p, often, rfl, p2, c1', by omega, fun u H3 u0 u1 o3 p3 => ?_⟩
   have hc3 := o3 _ _ fp hc2
   refine ⟨rfl, _, rfl, ?_⟩
   refine ite2 (fun c2 => ?_) (fun c2 => ?_)
   ·exact ⟨_, rfl, .inl ⟨rfl, _, SqL.of hc3⟩, _, rfl, f, _, _, rfl, rfl, hc3, hz, fin none H3 (fun i e => nomatch e) (fun h0 => by omega) ((o1.trans o2).trans o3) p3 hc3⟩
   ·exact ⟨_, rfl, .inl ⟨rfl, _, SqL.of hc3⟩, _, rfl, f, _, _, rfl, rfl, hc3, hz, fin (some v) H3 (fun i e => by cases e; exact ⟨v0, v1⟩) (fun _ e => nomatch e) ((o1.trans o2).trans o3) p3 hc3⟩
  ·exact ⟨_, rfl, .inl ⟨rfl, _, SqL.of hc2⟩, _, rfl, f, _, _, rfl, rfl, hc2, hz, fin (some v) H2 (fun i e => by cases e; exact ⟨v0, v1⟩) (fun _ e => nomatch e) (o1.trans o2) p2 hc2⟩
 ·rintro σ H' ⟨cs, x5, x6, rfl, o1, p1, hc, hl, hok, hno⟩
  refine ⟨_, rfl, f, _, rfl, .inl ⟨SqL.of hc, fun t ht => ?_⟩⟩
  have tf : H t = none \/ ∃ o, H t = some o := by cases e : H t with
   | none => exact .inl rfl
   | some o => exact .inr ⟨o, rfl⟩
  refine q t cs _ (fun b o hb e => ?_) (p1.new ht) zd (by rw [<- hnm]; omega) hok hno
  rw [zn (fun z => by rw [z] at e hb; have := o1 t o hb e; rw [ht] at this; cases this)]
  exact o1 b o hb e
abbrev qQ : Stmt := top 27
theorem qL : zD ["_law_pool_here", "_law_most", "_law_connectives", "_law_often", "_law_many", "_law_wished", "_law_found", "_law_k", "_law_name_here", "_law_places"] ["_law_pool_here", "_law_most", "_law_connectives", "_law_often"] (zf qQ) := ⟨rfl, rfl, rfl, by decide +kernel, rfl, by decide +kernel, by decide +kernel⟩
theorem W7 {P : Program} {w : World} {K : PySem.W.Frag} {mg : Str -> Option Value} {base : Heap} {f : Addr} {fd : FuncData} (F : Fun K "_law_half" "_law_half" qQ f fd) (gb : Gb mg) (d_law_draw : Def P w K mg base 1 "_law_draw" ["_law_pool_here", "_law_many"] ZW) (d_law_name : Def P w K mg base 2 "_law_name" ["_law_pool_here", "_law_names"] Xb) (d_law_cells : Def P w K mg base 2 "_law_cells" ["_law_pool_here", "_law_many", "_law_places", "_law_often"] WR) : jT P w K mg base CX0 3 f fd ["_law_pool_here", "_law_most", "_law_connectives", "_law_often"] Xc := by
 refine F.ok qL (fun vs H Q E h => ?_) (fun cdv A outer s H vs Q E hr h => ?_)
 ·obtain ⟨p, most, conn, often, rfl, _⟩ := h
  rfl
 obtain ⟨p, most, conn, often, rfl, hp, m1, m9, c0, c8, o0, o9, q⟩ := h
 have nd0 : (["_law_one", "_law_pool_here"] : List Str).Nodup := by decide +kernel
 have nd1 : (["_law_one"] : List Str).Nodup := by decide +kernel
 refine ⟨_, (@ze _ _ _ _ _ (@zv _ _ 4 _ _ _ _ qL.nd rfl (Or.inl rfl) (@zP _ _ _ _ _ _ _ _ (@jg _) (@zh _ _ _ _) (@zq _ _ _ _ _ _ _ _ _ _ _ d_law_draw hr (by omega) rfl (@za _ _ _ _ _ (@pv _ 0 _ _ (by rfl) (by walk_at "v") (by decide) (by decide)) (@za _ _ _ _ _ (@pv _ 1 _ _ (by rfl) (by walk_at "v") (by decide) (by decide)) (@zc _) (by rfl)) (by rfl)) (by decide) (by rfl) (by rfl))) (by rfl) (by walk_at "f")) (@ze _ _ _ _ _ (@zv _ _ 5 _ _ _ _ qL.nd rfl (Or.inl rfl) (@zG _ _ _ _ _ _ _ _ _ (@qH _ K (by rfl)) rfl gb.tuple jJ (@za _ _ _ _ _ (@zW _ ["_law_one", "_law_pool_here"] [none, some 0] _ _ _ _ _ _ _ _ _ _ (by exact (show zN ["_law_pool_here", "_law_most", "_law_connectives", "_law_often", "_law_many", "_law_wished", "_law_found", "_law_k", "_law_name_here", "_law_places"] (zf qQ) ["_law_one", "_law_pool_here"] [none, some 0] _ from ⟨rfl, by decide +kernel, by decide +kernel, by decide +kernel, by decide +kernel, rfl, by decide +kernel⟩)) rfl (@ql _ _ _ _ _ _ rfl gb.range (@za _ _ _ _ _ (@pv _ 4 _ _ (by rfl) (by walk_at "v") (by decide) (by decide)) (@zc _) (by rfl)) (by rfl)) (fun _ _ _ _ => (@zk _ _ 0 _ nd0 rfl (Or.inl rfl) (by walk_at "f"))) (fun _ _ _ _ => (@wQ _ _ _ (@zL _ _ _ _ _ _ _ _ (@JV _) (@zq _ _ _ _ _ _ _ _ _ _ _ d_law_draw hr (by omega) rfl (@za _ _ _ _ _ (@pv _ 1 _ _ (by rfl) (by walk_at "v") (by decide) (by decide)) (@za _ _ _ _ _ (@zh _ _ _ _) (@zc _) (by rfl)) (by rfl)) (by decide) (by rfl) (by rfl)) (@zh _ _ _ _) (@qm _ _ (by decide) (by decide))))) (fun _ _ _ _ => (@pv _ 0 _ _ (by rfl) (by walk_at "v") (by decide) (by decide))) (by intro _; rfl)) (@zc _) (by rfl)) (by decide) (by decide) (by rfl) (by rfl)) (by rfl) (by walk_at "f")) (@ze _ _ _ _ _ (@zv _ _ 6 _ _ _ _ qL.nd rfl (Or.inl rfl) (@qf _ _ _ _ (@zc _)) (by rfl) (by walk_at "f")) (@ze _ _ _ _ _ (@qP _ _ _ _ _ _ _ _ PassesOwn.never rfl (@ql _ _ _ _ _ _ rfl gb.range (@za _ _ _ _ _ (@zq _ _ _ _ _ _ _ _ _ _ _ d_law_draw hr (by omega) rfl (@za _ _ _ _ _ (@pv _ 0 _ _ (by rfl) (by walk_at "v") (by decide) (by decide)) (@za _ _ _ _ _ (@zP _ _ _ _ _ _ _ _ (@jg _) (@pv _ 2 _ _ (by rfl) (by walk_at "v") (by decide) (by decide)) (@zh _ _ _ _)) (@zc _) (by rfl)) (by rfl)) (by decide) (by rfl) (by rfl)) (@zc _) (by rfl)) (by rfl)) (@zk _ _ 7 _ qL.nd rfl (Or.inl rfl) (by walk_at "f")) (@ze _ _ _ _ _ (@zv _ _ 8 _ _ _ _ qL.nd rfl (Or.inl rfl) (@zq _ _ _ _ _ _ _ _ _ _ _ d_law_name hr (by omega) rfl (@za _ _ _ _ _ (@pv _ 0 _ _ (by rfl) (by walk_at "v") (by decide) (by decide)) (@za _ _ _ _ _ (@zW _ ["_law_one"] [none] _ _ _ _ _ _ _ _ _ _ (by exact (show zN ["_law_pool_here", "_law_most", "_law_connectives", "_law_often", "_law_many", "_law_wished", "_law_found", "_law_k", "_law_name_here", "_law_places"] (zf qQ) ["_law_one"] [none] _ from ⟨rfl, by decide +kernel, by decide +kernel, by decide +kernel, by decide +kernel, rfl, by decide +kernel⟩)) rfl (@zH _ K _ _ _ (@pv _ 6 _ _ (by rfl) (by walk_at "v") (by decide) (by decide)) (by rfl)) (fun _ _ _ _ => (@zk _ _ 0 _ nd1 rfl (Or.inl rfl) (by walk_at "f"))) (fun _ _ _ _ => (@qG _)) (fun _ _ _ _ => (@zC _ _ _ _ _ _ _ (@zj _ K (by rfl)) (@pv _ 0 _ _ (by rfl) (by walk_at "v") (by decide) (by decide)) (@zh _ _ _ _) (fun _ _ => rfl))) (by intro _; rfl)) (@zc _) (by rfl)) (by rfl)) (by decide) (by rfl) (by rfl)) (by rfl) (by walk_at "f")) (@ze _ _ _ _ _ (@zv _ _ 9 _ _ _ _ qL.nd rfl (Or.inl rfl) (@zC _ _ _ _ _ _ _ (@zj _ K (by rfl)) (@qf _ _ _ _ (@za _ _ _ _ _ (@zh _ _ _ _) (@za _ _ _ _ _ (@zh _ _ _ _) (@za _ _ _ _ _ (@zh _ _ _ _) (@za _ _ _ _ _ (@zh _ _ _ _) (@zc _) (by rfl)) (by rfl)) (by rfl)) (by rfl))) (@zq _ _ _ _ _ _ _ _ _ _ _ d_law_draw hr (by omega) rfl (@za _ _ _ _ _ (@pv _ 0 _ _ (by rfl) (by walk_at "v") (by decide) (by decide)) (@za _ _ _ _ _ (@zh _ _ _ _) (@zc _) (by rfl)) (by rfl)) (by decide) (by rfl) (by rfl)) (fun _ _ => rfl)) (by rfl) (by walk_at "f")) (@zi _ _ _ (@jL _ _ _ _ (@ZB _ K _ _ _ _ _ _ _ _ _ _ _ PySem.F.plainAttrs_list PySem.F.slot_list_append PySem.F.type_list_append (@jv _) (@pv _ 6 _ _ (by rfl) (by walk_at "v") (by decide) (by decide)) (@za _ _ _ _ _ (@qU _ _ _ _ _ (@za _ _ _ _ _ (@pv _ 8 _ _ (by rfl) (by walk_at "v") (by decide) (by decide)) (@za _ _ _ _ _ (@pv _ 9 _ _ (by rfl) (by walk_at "v") (by decide) (by decide)) (@za _ _ _ _ _ (@zq _ _ _ _ _ _ _ _ _ _ _ d_law_cells hr (by omega) rfl (@za _ _ _ _ _ (@pv _ 0 _ _ (by rfl) (by walk_at "v") (by decide) (by decide)) (@za _ _ _ _ _ (@pv _ 4 _ _ (by rfl) (by walk_at "v") (by decide) (by decide)) (@za _ _ _ _ _ (@pv _ 9 _ _ (by rfl) (by walk_at "v") (by decide) (by decide)) (@za _ _ _ _ _ (@pv _ 3 _ _ (by rfl) (by walk_at "v") (by decide) (by decide)) (@zc _) (by rfl)) (by rfl)) (by rfl)) (by rfl)) (by decide) (by rfl) (by rfl)) (@zc _) (by rfl)) (by rfl)) (by rfl))) (@zc _) (by rfl)) (by rfl) (by rfl) (by rfl) (by rfl) (by rfl) (by rfl)) (by rfl))))) (by intro _; rfl)) (@zi _ _ _ (@zy _ _ _ _ (@qU _ _ _ _ _ (@za _ _ _ _ _ (@pv _ 4 _ _ (by rfl) (by walk_at "v") (by decide) (by decide)) (@za _ _ _ _ _ (@pv _ 5 _ _ (by rfl) (by walk_at "v") (by decide) (by decide)) (@za _ _ _ _ _ (@zG _ _ _ _ _ _ _ _ _ (@qH _ K (by rfl)) rfl gb.tuple jJ (@za _ _ _ _ _ (@pv _ 6 _ _ (by rfl) (by walk_at "v") (by decide) (by decide)) (@zc _) (by rfl)) (by decide) (by decide) (by rfl) (by rfl)) (@zc _) (by rfl)) (by rfl)) (by rfl))))))))), ?_⟩
 refine ⟨_, rfl, _, rfl, p, most, rfl, hp, by omega, by omega, fun v H1 v0 v1 o1 pl1 => ?_⟩
 refine ⟨_, _, rfl, rfl, ?_⟩
 refine ⟨_, rfl, _, rfl, by omega, by omega, fun D hD => ?_⟩
 have ne : ∀ {H0 : Hp} {t : Addr}, jh H0 p -> H0 t = none -> t ≠ p := fun {H0 t} hq ht z => by
  obtain ⟨r, a, b, e⟩ := hq
  rw [<- z, ht] at e
  cases e
 have pnD := ne pl1 hD
 refine jV (fun i ys H => Off p H1 H /\ jh H p /\ ∃ ws : List Int, ys = ws.map V.int /\ ws.length <= i /\ (∀ w ∈ ws, 0 <= w /\ w < (i : Int)) /\ ws.Pairwise (· < ·)) ⟨Off.new hD, pl1.new hD, [], rfl, Nat.le_refl _, by simp, List.Pairwise.nil⟩ ?_ ?_
 ·rintro i ys H2 hi ⟨o2, p2, ws, rfl, hw, hwb, hwr⟩ hD2
  refine ⟨_, rfl, p, 2, rfl, p2, by decide, by decide, fun u H3 u0 u1 o3 p3 => ⟨rfl, _, rfl, ?_⟩⟩
  refine ite2 (fun c => ?_) (fun c => ?_)
  ·refine ⟨_, rfl, wA hi jU (o3 _ _ pnD hD2) (by rw [List.length_map]; exact zr (by omega)) ⟨(o2.trans o3).fresh hD, p3.off (Ne.symm pnD), ws ++ [0 + (i : Int)], by rw [List.map_append]; rfl, ?_, fun z hz => ?_, ?_⟩⟩
   ·rw [List.length_append, List.length_singleton]
    omega
   ·rcases List.mem_append.mp hz with hz | hz
    ·have := hwb z hz
     omega
    ·rw [List.mem_singleton.mp hz]
     omega
   ·refine List.pairwise_append.mpr ⟨hwr, List.pairwise_singleton _ _, fun a ha b hb => ?_⟩
    rw [List.mem_singleton.mp hb]
    have := hwb a ha
    omega
  ·exact cno hi jU (o3 _ _ pnD hD2) ⟨o2.trans o3, p3, ws, rfl, by omega, fun z hz => by have := hwb z hz; omega, hwr⟩
 ·rintro ys H2 ⟨o2, p2, ws, rfl, hw, hwb, hwr⟩ hD2
  refine ⟨D, _, rfl, .inl ⟨SqL.of hD2, fun w1 hw1 => ?_⟩⟩
  refine ⟨Nat.zero_le _, fun f hf => ?_⟩
  have fw : f ≠ w1 := fun z => by
   rw [z, zd] at hf
   cases hf
  have p3 : jh (upd H2 w1 (.tup (ws.map V.int))) p := p2.new hw1
  have p4 : jh (upd (upd H2 w1 (.tup (ws.map V.int))) f (.lst [])) p := p3.new hf
  have fp := ne p3 hf
  have wp := ne p2 hw1
  have nf : ∀ b o, b ≠ p -> H b = some o -> b ≠ f := fun b o hb e z => by
   have e3 : (upd H2 w1 (.tup (ws.map V.int))) b = some o := ((o1.trans o2).trans (Off.new hw1)) b o hb e
   rw [z, hf] at e3
   cases e3
  have o4 : Off p H (upd (upd H2 w1 (.tup (ws.map V.int))) f (.lst [])) := ((o1.trans o2).trans (Off.new hw1)).trans (Off.new hf)
  refine ⟨_, rfl, _, rfl, _, _, rfl, rfl, p, _, rfl, p4, by omega, by omega, fun nc H5 n0 n1 o5 p5 => ⟨_, rfl, by omega, by omega, ?_⟩⟩
  have hw5 : H5 w1 = some (.tup (ws.map V.int)) := o5 _ _ wp (by rw [zn (Ne.symm fw)]; exact zd)
  have hf5 : H5 f = some (.lst []) := o5 _ _ fp zd
  refine ju (fun i σ H6 => ∃ (cs : List yU) (vs : List V) (x7 x8 x9 : Option V), σ = [some (.ref p), some (.int most), some (.int conn), some (.int often), some (.int (1 + v)), some (.ref w1), some (.ref f), x7, x8, x9] /\
   Off p H H6 /\ jh H6 p /\ H6 w1 = some (.tup (ws.map V.int)) /\ H6 f = some (.lst vs) /\ ZX H6 cs vs /\ cs.length = i /\ (∀ c ∈ cs, GoodC (1 + v) c) /\ (cs.map (·.nm)).Nodup /\ (often = 0 -> ∀ c ∈ cs, ∀ o ∈ c.cs, o ≠ none)) ⟨[], [], none, none, none, rfl, o4.trans o5, p5, hw5, hf5, rfl, rfl, by simp, by simp, by simp⟩ ?_ ?_
  ·rintro i σ H6 hi ⟨cs, vs, x7, x8, x9, rfl, o6, p6, hw6, hf6, hC, hl, hgc, hnd, hfu⟩
   refine ⟨_, rfl, _, rfl, f, rfl, ⟨_, SqL.of hf6⟩, fun D2 hD2 => ?_⟩
   have hvl := hC.len
   have nD2 := ne p6 hD2
   refine jz (xs := vs) (fun j ys H7 => zF H6 H7 /\ ys = (cs.take j).map fun c => V.str c.nm) ⟨zg hD2 _, rfl⟩ (fun j ys H7 h _ => SqL.of (h.1 _ _ hf6)) ?_ ?_
   ·rintro j ys H7 x hx ⟨s7, rfl⟩ hD7
    have hj : j < vs.length := (List.getElem?_eq_some_iff.mp hx).1
    have hcj : cs[j]? = some (cs.getD j ⟨"", 0, []⟩) := by simp [List.getD, show j < cs.length by omega]
    obtain ⟨t, u, e1, e2, e3⟩ := hC.get hcj
    rw [hx] at e1
    cases e1
    refine yes ?_
    refine ⟨_, rfl, .inr (.inl ⟨t, _, 0, _, rfl, rfl, SqT.of (s7 _ _ e2), rfl, ?_⟩)⟩
    refine wA hj jU hD7 (by rw [List.length_map, List.length_take]; exact zr (by omega)) ⟨fun b o qb => ?_, ?_⟩
    ·rw [zn (zx qb hD2)]
     exact s7 b o qb
    ·rw [take_snoc hcj, List.map_append]
     rfl
   ·rintro ys H7 ⟨s7, rfl⟩ hD7
    rw [hvl, List.take_length] at hD7
    have p7 : jh H7 p := by
     obtain ⟨r, a, b, e⟩ := p6
     exact ⟨r, a, b, s7 _ _ e⟩
    refine ⟨p, D2, cs.map (·.nm), rfl, p7, by rw [List.map_map]; exact hD7, by rw [List.length_map]; omega, fun x H8 o8 p8 hx8 hxn => ?_⟩
    refine ⟨zu (by show 4 <= 1000; decide), fun g hg => ⟨_, rfl, p, 4, rfl, p8.new hg, by decide, by decide, fun y H9 y0 y1 o9' p9 => ?_⟩⟩
    have gp := ne p8 hg
    obtain ⟨pp, hat, pp0, pp2⟩ := at4 y0 y1
    refine .inl ⟨g, _, y, _, rfl, rfl, SqL.of (o9' _ _ gp zd), hat, ?_⟩
    have o69 : Off p H6 H9 := ((Off.of s7).trans o8).trans ((Off.new hg).trans o9')
    have hf9 := o69 _ _ fp hf6
    refine ⟨_, rfl, .inl ⟨rfl, _, SqL.of hf9⟩, _, rfl, _, rfl, _, rfl, _, rfl, _, rfl, _, rfl, p, _, _, _, rfl, p9, by omega, by omega, pp0, pp2, o0, o9, fun t cl H10 o10 p10 ht hcl hck hcf => ?_⟩
    refine ⟨zu (by show 3 <= 1000; decide), fun tt htt => ?_⟩
    have o610 : Off p H6 H10 := o69.trans o10
    have hf10 := o610 _ _ fp hf6
    have nft : f ≠ tt := fun z => by
     rw [<- z, hf10] at htt
     cases htt
    have tk6 : Tk H6 (upd H10 tt (.tup [.str x, .int pp, .ref t])) := (o610.tk p6).trans (Tk.new htt)
    have hfT : (upd H10 tt (.tup [.str x, .int pp, .ref t])) f = some (.lst vs) := by rw [zn nft]; exact hf10
    refine ⟨f, vs, _, rfl, rfl, hfT, zr (by omega), ?_⟩
    have tkf : Tk H6 (upd (upd H10 tt (.tup [.str x, .int pp, .ref t])) f (.lst (vs ++ [.ref tt]))) := tk6.trans (Tk.put hfT)
    have ntp := ne p10 htt
    refine ⟨cs ++ [⟨x, pp, cl⟩], vs ++ [.ref tt], some (.int (0 + i)), some (.str x), some (.int pp), rfl, ?_, (p10.new htt).off (Ne.symm fp), tkf _ _ hw6, zd, ?_, ?_, ?_, ?_, ?_⟩
    ·intro b o hb hbo
     have e10 := o610 b o hb (o6 b o hb hbo)
     rw [zn (nf b o hb hbo), zn (zx e10 htt)]
     exact e10
    ·refine (hC.tk tkf).snoc (c := ⟨x, pp, cl⟩) (u := t) ?_ ?_
     ·rw [zn (Ne.symm nft)]
      exact zd
     ·have := Tk.new (o := .tup [.str x, .int pp, .ref t]) htt _ _ ht
      exact Tk.put hfT _ _ this
    ·rw [List.length_append, hl]
     rfl
    ·intro c hc
     rcases List.mem_append.mp hc with hc | hc
     ·exact hgc c hc
     ·have := List.mem_singleton.mp hc
      rw [this]
      exact ⟨hxn, pp0, pp2, hcl, hck⟩
    ·rw [List.map_append]
     refine List.nodup_append.mpr ⟨hnd, by simp, fun a ha b hb => ?_⟩
     have e2 : b = x := List.mem_singleton.mp hb
     rw [e2]
     intro e3
     rw [e3] at ha
     exact hx8 ha
    ·intro h0 c hc
     rcases List.mem_append.mp hc with hc | hc
     ·exact hfu h0 c hc
     ·have := List.mem_singleton.mp hc
      rw [this]
      exact hcf h0
  ·rintro σ H6 ⟨cs, vs, x7, x8, x9, rfl, o6, p6, hw6, hf6, hC, hl, hgc, hnd, hfu⟩
   refine ⟨_, rfl, _, rfl, _, rfl, f, _, rfl, .inl ⟨SqL.of hf6, fun c hc => ?_⟩⟩
   refine ⟨zu (by show 3 <= 1000; decide), fun tt htt => ?_⟩
   have tk1 : Tk H6 (upd (upd H6 c (.tup vs)) tt (.tup [.int (1 + v), .ref w1, .ref c])) := (Tk.new hc).trans (Tk.new htt)
   refine q _ ⟨1 + v, ws, cs⟩ _ ((o6.trans (Off.new hc)).trans (Off.new htt)) ((p6.new hc).new htt) ⟨tt, w1, c, vs, rfl, zd, tk1 _ _ hw6, Tk.new htt _ _ zd, hC.tk tk1⟩ ⟨by show 1 <= 1 + v; omega, by show 1 + v <= 9; omega, fun w hw' => by show 0 <= w /\ w < 1 + v; have := hwb w hw'; omega, hwr, by show ws.length <= 9; omega, by show cs.length <= 8; omega, hnd, hgc⟩ hfu (by show 1 + v <= most; omega) (by show (cs.length : Int) <= conn; omega)
abbrev qM : Stmt := top 28
theorem Ws : zD ["_law_saying"] ["_law_saying"] (zf qM) := ⟨rfl, rfl, rfl, by decide +kernel, rfl, by decide +kernel, by decide +kernel⟩
theorem Wt {P : Program} {w : World} {K : PySem.W.Frag} {mg : Str -> Option Value} {base : Heap} {f : Addr} {fd : FuncData} (F : Fun K "_law_words" "_law_words" qM f fd) (gb : Gb mg) (j : Nat) (d_law_words : Def P w K mg base (6 + j) "_law_words" ["_law_saying"] (wm j)) : jT P w K mg base CX0 (6 + j + 1) f fd ["_law_saying"] (wm (j + 1)) := by
 refine F.ok Ws (fun vs H Q E h => ?_) (fun cdv A outer s H vs Q E hr h => ?_)
 ·obtain ⟨v, s, rfl, _⟩ := h
  rfl
 obtain ⟨v, s, rfl, ih, hj, q⟩ := h
 have nd0 : (["_law_part"] : List Str).Nodup := by decide +kernel
 refine ⟨_, (@ze _ _ _ _ _ (@qR _ _ _ _ _ _ _ _ (@qF _ _ _ (@zo _ _ _ _ _ _ _ _ _ (@qc _ K (by rfl)) rfl gb.isinstance zJ (@za _ _ _ _ _ (@pv _ 0 _ _ (by rfl) (by walk_at "v") (by decide) (by decide)) (@za _ _ _ _ _ (@jt _ _ (.ty "str") _ _ rfl gb.str Jz rfl (by decide) (by decide)) (@zc _) (by rfl)) (by rfl)) (by decide) (by decide) (by rfl) (by rfl)) (by intro _; rfl)) (@zi _ _ _ (@zy _ _ _ _ (@zh _ _ _ _))) (@zI _)) (@zi _ _ _ (@zy _ _ _ _ (@zP _ _ _ _ _ _ _ _ (@jg _) (@zh _ _ _ _) (@zo _ _ _ _ _ _ _ _ _ (@Y4 _ K rfl (by rfl)) rfl gb.sum bt_sum (@za _ _ _ _ _ (@zW _ ["_law_part"] [none] _ _ _ _ _ _ _ _ _ _ (by exact (show zN ["_law_saying"] (zf qM) ["_law_part"] [none] _ from ⟨rfl, by decide +kernel, by decide +kernel, by decide +kernel, by decide +kernel, rfl, by decide +kernel⟩)) rfl (@ZK _ K _ _ _ (@jI _ _ _ _ _ _ _ _ _ _ (@kslT _ K (by rfl)) (@pv _ 0 _ _ (by rfl) (by walk_at "v") (by decide) (by decide)) (@j4 _ _ _ (@zh _ _ _ _)) (@ZI _)) (by rfl)) (fun _ _ _ _ => (@zk _ _ 0 _ nd0 rfl (Or.inl rfl) (by walk_at "f"))) (fun _ _ _ _ => (@qG _)) (fun _ _ _ _ => (@zq _ _ _ _ _ _ _ _ _ _ _ d_law_words hr (by omega) rfl (@za _ _ _ _ _ (@pv _ 0 _ _ (by rfl) (by walk_at "v") (by decide) (by decide)) (@zc _) (by rfl)) (by decide) (by rfl) (by rfl))) (by intro _; rfl)) (@zc _) (by rfl)) (by decide) (by decide) (by rfl) (by rfl)))))), ?_⟩
 cases hs : s.isL with
 | true =>
  have ev := ih.letter hs
  refine ⟨_, rfl, _, _, _, true, rfl, by rw [ev]; exact .str _, qI "str", _, rfl, WE ?_⟩
  have q2 := q H (zF.refl H)
  rw [Xl hs] at q2
  exact q2
 | false =>
  obtain ⟨t, us, ev, ht, hP⟩ := ih.node hs
  have hul := Paired.length hP
  have a2 := Sy.ps_le s
  rw [ev]
  refine ⟨_, rfl, _, _, _, false, rfl, .tup ht, QS (K := K) (.tup []), _, rfl, ZU ?_⟩
  refine ⟨_, rfl, _, rfl, ?_⟩
  refine JR ht fun t2 H2 s2 ht2 => ?_
  rw [jY (by simp)] at ht2
  refine ⟨t2, rfl, ⟨_, SqT.of ht2⟩, fun D hD => ?_⟩
  refine comp_tup (xs := us) (fun i ys H' => zF H2 H' /\ ys = ((s.ps.take i).map fun a => ((a.sz : Nat) : Int)).map V.int) ⟨zg hD _, rfl⟩ (fun i ys H' h _ => SqT.of (h.1 _ _ ht2)) ?_ ?_
  ·rintro i ys H3 x hx ⟨s3, rfl⟩ hD3
   have hi : i < us.length := (List.getElem?_eq_some_iff.mp hx).1
   have ha : s.ps[i]? = some s.ps[i] := List.getElem?_eq_getElem (by omega)
   generalize s.ps[i] = a at ha
   have hia := Paired.at hP i _ _ ha hx
   have hda := Sy.dp_lt (List.mem_of_getElem? ha)
   match j, hj, d_law_words with
   | 0, hj, _ => exact absurd hj (by omega)
   | j + 1, hj, _ =>
   refine yes ⟨_, rfl, x, a, rfl, hia.same (s2.trans s3), by omega, fun H4 s4 => ?_⟩
   refine wA hi jU (s4 _ _ hD3) (by rw [List.length_map, List.length_map, List.length_take]; exact zr (by omega)) ⟨(s3.trans s4).put hD, ?_⟩
   rw [take_snoc ha, List.map_append, List.map_append]
   rfl
  ·rintro ys H3 ⟨s3, rfl⟩ hD3
   rw [<- hul, List.take_length] at hD3
   refine ⟨D, _, rfl, SqL.of hD3, _, _, rfl, rfl, ?_⟩
   have q2 := q H3 (s2.trans s3)
   rw [show nV s.sz = V.int ((1 : Int) + (s.ps.map fun a => ((a.sz : Nat) : Int)).sum) by rw [sz_sum hs]] at q2
   exact q2
abbrev qk : Stmt := top 29
theorem jQ : zD ["_law_pool_here", "_law_many", "_law_start", "_law_step"] ["_law_pool_here", "_law_many"] (zf qk) := ⟨rfl, rfl, rfl, by decide +kernel, rfl, by decide +kernel, by decide +kernel⟩
theorem Js {P : Program} {w : World} {K : PySem.W.Frag} {mg : Str -> Option Value} {base : Heap} {f : Addr} {fd : FuncData} (F : Fun K "_law_letters" "_law_letters" qk f fd) (gb : Gb mg) (d_law_draw : Def P w K mg base 1 "_law_draw" ["_law_pool_here", "_law_many"] ZW) : jT P w K mg base CX0 2 f fd ["_law_pool_here", "_law_many"] Qq := by
 refine F.ok jQ (fun vs H Q E h => ?_) (fun cdv A outer s H vs Q E hr h => ?_)
 ·obtain ⟨p, m, rfl, _⟩ := h
  rfl
 obtain ⟨p, m, rfl, hp, m1, m5, q⟩ := h
 have nd0 : (["_law_k", "_law_start", "_law_step"] : List Str).Nodup := by decide +kernel
 refine ⟨_, (@ze _ _ _ _ _ (@zv _ _ 2 _ _ _ _ jQ.nd rfl (Or.inr rfl) (@zq _ _ _ _ _ _ _ _ _ _ _ d_law_draw hr (by omega) rfl (@za _ _ _ _ _ (@pv _ 0 _ _ (by rfl) (by walk_at "v") (by decide) (by decide)) (@za _ _ _ _ _ (@zh _ _ _ _) (@zc _) (by rfl)) (by rfl)) (by decide) (by rfl) (by rfl)) (by rfl) (by walk_at "f")) (@ze _ _ _ _ _ (@zv _ _ 3 _ _ _ _ jQ.nd rfl (Or.inr rfl) (@zC _ _ _ _ _ _ _ (@zj _ K (by rfl)) (@qf _ _ _ _ (@za _ _ _ _ _ (@zh _ _ _ _) (@za _ _ _ _ _ (@zh _ _ _ _) (@za _ _ _ _ _ (@zh _ _ _ _) (@za _ _ _ _ _ (@zh _ _ _ _) (@za _ _ _ _ _ (@zh _ _ _ _) (@zc _) (by rfl)) (by rfl)) (by rfl)) (by rfl)) (by rfl))) (@zq _ _ _ _ _ _ _ _ _ _ _ d_law_draw hr (by omega) rfl (@za _ _ _ _ _ (@pv _ 0 _ _ (by rfl) (by walk_at "v") (by decide) (by decide)) (@za _ _ _ _ _ (@zh _ _ _ _) (@zc _) (by rfl)) (by rfl)) (by decide) (by rfl) (by rfl)) (fun _ _ => rfl)) (by rfl) (by walk_at "f")) (@zi _ _ _ (@zy _ _ _ _ (@zW _ ["_law_k", "_law_start", "_law_step"] [none, some 2, some 3] _ _ _ _ _ _ _ _ _ _ (by exact (show zN ["_law_pool_here", "_law_many", "_law_start", "_law_step"] (zf qk) ["_law_k", "_law_start", "_law_step"] [none, some 2, some 3] _ from ⟨rfl, by decide +kernel, by decide +kernel, by decide +kernel, by decide +kernel, rfl, by decide +kernel⟩)) rfl (@ql _ _ _ _ _ _ rfl gb.range (@za _ _ _ _ _ (@pv _ 1 _ _ (by rfl) (by walk_at "v") (by decide) (by decide)) (@zc _) (by rfl)) (by rfl)) (fun _ _ _ _ => (@zk _ _ 0 _ nd0 rfl (Or.inl rfl) (by walk_at "f"))) (fun _ _ _ _ => (@qG _)) (fun _ _ _ _ => (@zC _ _ _ _ _ _ _ (@zj _ K (by rfl)) (@qO _ _ _ _) (@zP _ _ _ _ _ _ _ _ (@Qv _) (@zP _ _ _ _ _ _ _ _ (@jg _) (@pv _ 1 _ _ (by rfl) (by walk_at "v") (by decide) (by decide)) (@zP _ _ _ _ _ _ _ _ (@Zb _) (@pv _ 2 _ _ (by rfl) (by walk_at "v") (by decide) (by decide)) (@pv _ 0 _ _ (by rfl) (by walk_at "v") (by decide) (by decide)))) (@zh _ _ _ _)) (fun _ _ => rfl))) (by intro _; rfl)))))), ?_⟩
 refine ⟨_, rfl, p, 26, rfl, hp, by decide, by decide, fun v H1 v0 v1 o1 p1 => ?_⟩
 refine ⟨zu (by show 5 <= 1000; decide), fun g hg => ⟨_, rfl, p, 5, rfl, p1.new hg, by decide, by decide, fun y H2 y0 y1 o2 p2 => ?_⟩⟩
 have gp := ZQ p1 hg
 obtain ⟨st, hat, hst⟩ := at5 y0 y1
 refine .inl ⟨g, _, y, _, rfl, rfl, SqL.of (o2 _ _ gp zd), hat, ?_⟩
 have o02 : Off p H H2 := (o1.trans (Off.new hg)).trans o2
 refine ⟨_, rfl, m, rfl, by omega, by omega, fun D hD => ?_⟩
 have Dp := ZQ p2 hD
 refine jV (fun i ys H' => zF H2 H' /\ ys = ((List.range i).map fun k => WS (WV v st k)).map V.str) ⟨zg hD _, rfl⟩ ?_ ?_
 ·rintro i ys H3 hi ⟨s3, rfl⟩ hD3
  have e0 : (0 : Int) + (i : Int) = (i : Int) := by omega
  refine yes ⟨_, rfl, _, rfl, _, rfl, _, _, rfl, rfl, .inr ⟨by omega, by omega⟩, _, _, rfl, rfl, _, _, rfl, rfl, (show (0 : Int) < 26 by decide), ?_⟩
  rw [e0]
  have u0 := Int.emod_nonneg (v + st * (i : Int)) (show (26 : Int) ≠ 0 by decide)
  have u1 := Int.emod_lt_of_pos (v + st * (i : Int)) (show (0 : Int) < 26 by decide)
  refine .inr (.inr ⟨jC, _, _, rfl, rfl, zu (by decide +kernel), Yr u0 u1, ?_⟩)
  refine wA hi jU hD3 (by rw [List.length_map, List.length_map, List.length_range]; exact zr (by omega)) ⟨s3.put hD, ?_⟩
  rw [List.range_succ, List.map_append, List.map_append]
  rfl
 ·rintro ys H3 ⟨s3, rfl⟩ hD3
  have p3 : jh H3 p := Jb p2 s3
  refine q D _ H3 (o02.trans (Off.of s3)) p3 (yH o02 hD Dp) Dp hD3 (by rw [List.length_map, List.length_range]; omega) (Ys hst (by omega)) fun x hx => ?_
  obtain ⟨k, hk, rfl⟩ := List.mem_map.mp hx
  have u0 := Int.emod_nonneg (v + st * (k : Int)) (show (26 : Int) ≠ 0 by decide)
  have u1 := Int.emod_lt_of_pos (v + st * (k : Int)) (show (0 : Int) < 26 by decide)
  exact one_ltr (by unfold WV; omega) (by unfold WV; omega)
abbrev qN : Stmt := top 30
theorem qw : zD ["_law_pool_here", "_law_table", "_law_letters_here", "_law_steps", "_law_most", "_law_found", "_law_k", "_law_name_here", "_law_places", "_law_cells_here", "_law_more"] ["_law_pool_here", "_law_table", "_law_letters_here", "_law_steps", "_law_most"] (zf qN) := ⟨rfl, rfl, rfl, by decide +kernel, rfl, by decide +kernel, by decide +kernel⟩
theorem Wu {P : Program} {w : World} {K : PySem.W.Frag} {mg : Str -> Option Value} {base : Heap} {f : Addr} {fd : FuncData} (F : Fun K "_law_grown" "_law_grown" qN f fd) (gb : Gb mg) (d_law_draw : Def P w K mg base 1 "_law_draw" ["_law_pool_here", "_law_many"] ZW) (d_law_words : Def P w K mg base 18 "_law_words" ["_law_saying"] (wm 12)) : jT P w K mg base CX0 20 f fd ["_law_pool_here", "_law_table", "_law_letters_here", "_law_steps", "_law_most"] WX := by
 refine F.ok qw (fun vs H Q E h => ?_) (fun cdv A outer s H vs Q E hr h => ?_)
 ·obtain ⟨p, ll, v, T, L, steps, most, rfl, _⟩ := h
  rfl
 obtain ⟨p, ll, v, T, L, steps, most, rfl, hp, tb, gT, np, hll, l1, l5, s8, o1, o9, q⟩ := h
 have nd0 : (["_law_j", "_law_found", "_law_pool_here"] : List Str).Nodup := by decide +kernel
 refine ⟨_, (@ze _ _ _ _ _ (@zv _ _ 5 _ _ _ _ qw.nd rfl (Or.inr rfl) (@zG _ _ _ _ _ _ _ _ _ (@jn _ K (by rfl)) rfl gb.list Zd (@za _ _ _ _ _ (@pv _ 2 _ _ (by rfl) (by walk_at "v") (by decide) (by decide)) (@zc _) (by rfl)) (by decide) (by decide) (by rfl) (by rfl)) (by rfl) (by walk_at "f")) (@ze _ _ _ _ _ (@qP _ _ _ _ _ _ _ _ PassesOwn.never rfl (@ql _ _ _ _ _ _ rfl gb.range (@za _ _ _ _ _ (@zP _ _ _ _ _ _ _ _ (@Zb _) (@pv _ 3 _ _ (by rfl) (by walk_at "v") (by decide) (by decide)) (@zG _ _ _ _ _ _ _ _ _ (@YN _) rfl gb.int bt_int (@za _ _ _ _ _ (@j3 _ _ _ _ _ _ _ _ (@op_neE _ _ hr) (@zC _ _ _ _ _ _ _ (@zj _ K (by rfl)) (@pv _ 1 _ _ (by rfl) (by walk_at "v") (by decide) (by decide)) (@zh _ _ _ _) (fun _ _ => rfl)) (@qU _ _ _ _ _ (@zc _)) (@qm _ _ (by decide) (by decide))) (@zc _) (by rfl)) (by decide) (by decide) (by rfl) (by rfl))) (@zc _) (by rfl)) (by rfl)) (@zk _ _ 6 _ qw.nd rfl (Or.inl rfl) (by walk_at "f")) (@ze _ _ _ _ _ (@Ju _ _ _ _ _ _ (@zC _ _ _ _ _ _ _ (@zj _ K (by rfl)) (@zC _ _ _ _ _ _ _ (@zj _ K (by rfl)) (@pv _ 1 _ _ (by rfl) (by walk_at "v") (by decide) (by decide)) (@zh _ _ _ _) (fun _ _ => rfl)) (@zq _ _ _ _ _ _ _ _ _ _ _ d_law_draw hr (by omega) rfl (@za _ _ _ _ _ (@pv _ 0 _ _ (by rfl) (by walk_at "v") (by decide) (by decide)) (@za _ _ _ _ _ (@zo _ _ _ _ _ _ _ _ _ (@zY _ K (by rfl)) rfl gb.len jl (@za _ _ _ _ _ (@zC _ _ _ _ _ _ _ (@zj _ K (by rfl)) (@pv _ 1 _ _ (by rfl) (by walk_at "v") (by decide) (by decide)) (@zh _ _ _ _) (fun _ _ => rfl)) (@zc _) (by rfl)) (by decide) (by decide) (by rfl) (by rfl)) (@zc _) (by rfl)) (by rfl)) (by decide) (by rfl) (by rfl)) (fun _ _ => rfl)) (@QP _ K _ _ _ _ 3 rfl (@qr _ _ _ _ _ (@zk _ _ 7 _ qw.nd rfl (Or.inl rfl) (by walk_at "f")) (@qr _ _ _ _ _ (@zk _ _ 8 _ qw.nd rfl (Or.inl rfl) (by walk_at "f")) (@qr _ _ _ _ _ (@zk _ _ 9 _ qw.nd rfl (Or.inl rfl) (by walk_at "f")) (@QL _) (by rfl)) (by rfl)) (by rfl)) (by rfl) (by rfl) (by rfl)) (by rfl) (by rfl) (by rfl)) (@ze _ _ _ _ _ (@zv _ _ 10 _ _ _ _ qw.nd rfl (Or.inl rfl) (@zP _ _ _ _ _ _ _ _ (@op_catA _ K (by rfl)) (@qU _ _ _ _ _ (@za _ _ _ _ _ (@pv _ 7 _ _ (by rfl) (by walk_at "v") (by decide) (by decide)) (@zc _) (by rfl))) (@zG _ _ _ _ _ _ _ _ _ (@qH _ K (by rfl)) rfl gb.tuple jJ (@za _ _ _ _ _ (@zW _ ["_law_j", "_law_found", "_law_pool_here"] [none, some 5, some 0] _ _ _ _ _ _ _ _ _ _ (by exact (show zN ["_law_pool_here", "_law_table", "_law_letters_here", "_law_steps", "_law_most", "_law_found", "_law_k", "_law_name_here", "_law_places", "_law_cells_here", "_law_more"] (zf qN) ["_law_j", "_law_found", "_law_pool_here"] [none, some 5, some 0] _ from ⟨rfl, by decide +kernel, by decide +kernel, by decide +kernel, by decide +kernel, rfl, by decide +kernel⟩)) rfl (@ql _ _ _ _ _ _ rfl gb.range (@za _ _ _ _ _ (@pv _ 8 _ _ (by rfl) (by walk_at "v") (by decide) (by decide)) (@zc _) (by rfl)) (by rfl)) (fun _ _ _ _ => (@zk _ _ 0 _ nd0 rfl (Or.inl rfl) (by walk_at "f"))) (fun _ _ _ _ => (@qG _)) (fun _ _ _ _ => (@zC _ _ _ _ _ _ _ (@zj _ K (by rfl)) (@pv _ 1 _ _ (by rfl) (by walk_at "v") (by decide) (by decide)) (@zq _ _ _ _ _ _ _ _ _ _ _ d_law_draw hr (by omega) rfl (@za _ _ _ _ _ (@pv _ 2 _ _ (by rfl) (by walk_at "v") (by decide) (by decide)) (@za _ _ _ _ _ (@zo _ _ _ _ _ _ _ _ _ (@zY _ K (by rfl)) rfl gb.len jl (@za _ _ _ _ _ (@pv _ 1 _ _ (by rfl) (by walk_at "v") (by decide) (by decide)) (@zc _) (by rfl)) (by decide) (by decide) (by rfl) (by rfl)) (@zc _) (by rfl)) (by rfl)) (by decide) (by rfl) (by rfl)) (fun _ _ => rfl))) (by intro _; rfl)) (@zc _) (by rfl)) (by decide) (by decide) (by rfl) (by rfl))) (by rfl) (by walk_at "f")) (@zi _ _ _ (@qR _ _ _ _ _ _ _ _ (@zL _ _ _ _ _ _ _ _ (@op_le _) (@zq _ _ _ _ _ _ _ _ _ _ _ d_law_words hr (by omega) rfl (@za _ _ _ _ _ (@pv _ 10 _ _ (by rfl) (by walk_at "v") (by decide) (by decide)) (@zc _) (by rfl)) (by decide) (by rfl) (by rfl)) (@pv _ 4 _ _ (by rfl) (by walk_at "v") (by decide) (by decide)) (@qm _ _ (by decide) (by decide))) (@zi _ _ _ (@jL _ _ _ _ (@ZB _ K _ _ _ _ _ _ _ _ _ _ _ PySem.F.plainAttrs_list PySem.F.slot_list_append PySem.F.type_list_append (@jv _) (@pv _ 5 _ _ (by rfl) (by walk_at "v") (by decide) (by decide)) (@za _ _ _ _ _ (@pv _ 10 _ _ (by rfl) (by walk_at "v") (by decide) (by decide)) (@zc _) (by rfl)) (by rfl) (by rfl) (by rfl) (by rfl) (by rfl) (by rfl)) (by rfl))) (@zI _))))) (by intro _; rfl)) (@zi _ _ _ (@zy _ _ _ _ (@pv _ 5 _ _ (by rfl) (by walk_at "v") (by decide) (by decide)))))), ?_⟩
 obtain ⟨a, w0, c0, vs, rfl, h1, h2, h3, h4⟩ := id tb
 have hvl := h4.len
 have cl16 := gT.cl
 refine ⟨_, rfl, ll, _, rfl, .inl (SqL.of hll), fun f hf => ?_⟩
 have n0 := zg hf (.lst (L.map V.str))
 have fp := ZQ hp hf
 have p0 : jh (upd H f (.lst (L.map V.str))) p := hp.new hf
 refine ⟨_, rfl, _, rfl, .inr (.inl ⟨a, _, 2, _, rfl, rfl, SqT.of (n0 _ _ h1), rfl, zu (by show 0 <= 1000; decide), fun e0 he0 => ?_⟩)⟩
 have n1 := zg he0 (.tup [])
 have p1 : jh (upd (upd H f (.lst (L.map V.str))) e0 (.tup [])) p := p0.new he0
 have s01 := n0.trans n1
 have hf1 := n1 _ _ (@zd H f (.lst (L.map V.str)))
 have he1 := @zd (upd H f (.lst (L.map V.str))) e0 (.tup [])
 generalize upd (upd H f (.lst (L.map V.str))) e0 (.tup []) = H1 at *
 refine ⟨c0, e0, vs, rfl, rfl, s01 _ _ h3, he1, .inr ⟨_, rfl, ?_⟩⟩
 have nn : ∃ n : Nat, (steps : Int) * (if (!vs.isEmpty) = true then 1 else 0) = ((n : Nat) : Int) /\ n <= 8 /\ (0 < n -> 0 < vs.length) := by
  cases hv : vs with
  | nil => exact ⟨0, by simp, by omega, fun h => absurd h (by decide)⟩
  | cons x xs => exact ⟨steps, by simp, s8, fun _ => Nat.succ_pos _⟩
 obtain ⟨n, en, n8, npos⟩ := nn
 refine ⟨_, _, rfl, rfl, .inr ⟨by split <;> omega, by split <;> omega⟩, ?_⟩
 refine ⟨(n : Int), by rw [<- en], by omega, by omega, ?_⟩
 rw [Int.toNat_natCast]
 have l0 : (L.map V.str) = (L.map fun x => ((V.str x, Sy.ltr x) : V × Sy)).map Prod.fst := by rw [List.map_map]; rfl
 refine ju (fun i σ H' => (∃ x6 x7 x8 x9 x10, σ = [some (.ref p), some (.ref a), some (.ref ll), some (nV steps), some (nV most), some (.ref f), x6, x7, x8, x9, x10]) /\ Off p H H' /\ jh H' p /\ ∃ fs : List (V × Sy), H' f = some (.lst (fs.map Prod.fst)) /\ 1 <= fs.length /\ fs.length <= 5 + i /\ ∀ z ∈ fs, GSt T L z.2 /\ z.2.sz <= most /\ jF H' z.2 z.1) ⟨⟨_, _, _, _, _, rfl⟩, Off.of s01, p1, L.map fun x => (V.str x, Sy.ltr x), by rw [<- l0]; exact hf1, by rw [List.length_map]; exact l1, by rw [List.length_map]; exact l5, fun z hz => ?_⟩ ?_ ?_
 ·obtain ⟨x, hx, rfl⟩ := List.mem_map.mp hz
  exact ⟨hx, o1, rfl⟩
 ·rintro i σ H2 hi ⟨⟨x6, x7, x8, x9, x10, rfl⟩, o2, p2, fs, hfs, fl1, fl5, hgood⟩
  have vpos := npos (by omega)
  have tk2 := o2.tk hp
  have h12 := tk2 _ _ h1
  have h32 := tk2 _ _ h3
  refine ⟨_, rfl, .inr (.inl ⟨a, _, 2, _, rfl, rfl, SqT.of h12, rfl, _, rfl, _, rfl, .inr (.inl ⟨a, _, 2, _, rfl, rfl, SqT.of h12, rfl, _, _, rfl, .inr ⟨_, SqT.of h32, rfl⟩, p, _, rfl, p2, by omega, by omega, fun u H3 u0 u1 o3 p3 => ?_⟩)⟩)⟩
  have hu : u.toNat < T.cs.length := by omega
  have hcc : T.cs[u.toNat]? = some T.cs[u.toNat] := List.getElem?_eq_getElem hu
  have hcm := List.getElem_mem hu
  generalize T.cs[u.toNat] = c at hcc hcm
  obtain ⟨_, cp2, _⟩ := gT.cn c hcm
  have o03 := o2.trans o3
  have tk3 := o03.tk hp
  obtain ⟨t, cu, e1, k1, k2⟩ := h4.get hcc
  have k13 := tk3 _ _ k1
  have eu : u = ((u.toNat : Nat) : Int) := by omega
  refine .inr (.inl ⟨c0, vs, u, .ref t, rfl, rfl, SqT.of (tk3 _ _ h3), by rw [eu]; exact jM e1, ?_⟩)
  refine ⟨t, _, rfl, SqT.of k13, rfl, _, _, rfl, _, _, rfl, _, _, rfl, rfl, ?_⟩
  refine ⟨_, rfl, zu (by show 1 <= 1000; decide), fun t1 ht1 => ?_⟩
  have p4 : jh (upd H3 t1 (.tup [.str c.nm])) p := p3.new ht1
  have n4 := zg ht1 (.tup [.str c.nm])
  have t1p := ZQ p3 ht1
  have ht1' := @zd H3 t1 (.tup [.str c.nm])
  have o04 := o03.trans (Off.of n4)
  have o24 := o3.trans (Off.of n4)
  generalize upd H3 t1 (.tup [.str c.nm]) = H4 at *
  have hfs4 := o24 _ _ fp hfs
  have hg4 : ∀ z ∈ fs, GSt T L z.2 /\ z.2.sz <= most /\ jF H4 z.2 z.1 := fun z hz => by
   obtain ⟨z1, z2, z3⟩ := hgood z hz
   exact ⟨z1, z2, z3.tk (o24.tk p2)⟩
  refine ⟨_, rfl, ((c.pl : Nat) : Int), rfl, by omega, by omega, fun D hD => ?_⟩
  rw [Int.toNat_natCast]
  have Dp := ZQ p4 hD
  refine jV (fun j ys H' => Off p H4 H' /\ jh H' p /\ ∃ ps : List (V × Sy), ys = ps.map Prod.fst /\ ps.length = j /\ ∀ y ∈ ps, y ∈ fs) ⟨Off.new hD, p4.new hD, [], rfl, rfl, (fun y hy => by cases hy)⟩ ?_ ?_
  ·rintro j ys H5 hj ⟨o5, p5, ps, rfl, pl, hps⟩ hD5
   refine yes ⟨_, rfl, _, rfl, _, rfl, _, _, rfl, .inl ⟨_, SqL.of (o5 _ _ fp hfs4), rfl⟩, p, _, rfl, p5, by rw [List.length_map]; omega, by rw [List.length_map]; omega, fun y H6 y0 y1 o6 p6 => ?_⟩
   rw [List.length_map] at y1
   obtain ⟨z, hz, hat⟩ := WW y0 y1
   refine .inl ⟨f, _, y, _, rfl, rfl, SqL.of ((o5.trans o6) _ _ fp hfs4), hat, ?_⟩
   refine wA hj jU (o6 _ _ Dp hD5) (by rw [List.length_map]; exact zr (by omega)) ⟨(o5.trans o6).fresh hD, p6.off (Ne.symm Dp), ps ++ [z], by rw [List.map_append]; rfl, by rw [List.length_append, pl]; rfl, fun y hy => ?_⟩
   rcases List.mem_append.mp hy with h | h
   ·exact hps y h
   ·rw [List.mem_singleton.mp h]
    exact hz
  ·rintro ys H5 ⟨o5, p5, ps, rfl, pl, hps⟩ hD5
   refine ⟨D, _, rfl, .inl ⟨SqL.of hD5, fun t2 ht2 => ?_⟩⟩
   have n6 := zg ht2 (.tup (ps.map Prod.fst))
   refine catA_of (n6 _ _ (o5 _ _ t1p ht1')) zd (by rw [List.length_map]; show 1 + ps.length <= 1000; omega) fun t3 H7 s7 ht3 => ?_
   have o47 := o5.trans (Off.of (n6.trans s7))
   have p7 : jh H7 p := Jb p5 (n6.trans s7)
   have hfs7 := o47 _ _ fp hfs4
   have hg7 : ∀ z ∈ fs, GSt T L z.2 /\ z.2.sz <= most /\ jF H7 z.2 z.1 := fun z hz => by
    obtain ⟨z1, z2, z3⟩ := hg4 z hz
    exact ⟨z1, z2, z3.tk (o47.tk p4)⟩
   have pair : ∀ qs : List (V × Sy), (∀ y ∈ qs, y ∈ fs) -> Paired (jF H7) (qs.map Prod.snd) (qs.map Prod.fst) := by
    intro qs
    induction qs with
    | nil => exact fun _ => .nil
    | cons y qs ih => exact fun h => .cons (hg7 y (h y List.mem_cons_self)).2.2 (ih fun z hz => h z (List.mem_cons_of_mem _ hz))
   have l2 : (ps.map Prod.snd).length <= 2 := by rw [List.length_map]; omega
   have isy : jF H7 (Sy.mk c.nm (ps.map Prod.snd)) (.ref t3) := jF.of ht3 (pair ps hps) l2
   have hzz : ∀ b ∈ ps.map Prod.snd, GSt T L b /\ b.sz <= most := fun b hb => by
    obtain ⟨y, hy, rfl⟩ := List.mem_map.mp hb
    obtain ⟨z1, z2, _⟩ := hg7 y (hps y hy)
    exact ⟨z1, z2⟩
   have gsm : GSt T L (Sy.mk c.nm (ps.map Prod.snd)) := GSt.of hcm (by rw [List.length_map, pl]) (fun b hb => (hzz b hb).1) l2
   have dpm : (Sy.mk c.nm (ps.map Prod.snd)).dp <= 10 := dp_mk fun b hb => Nat.le_trans (Sy.dp_sz b) (Nat.le_trans (hzz b hb).2 o9)
   refine ⟨_, rfl, _, _, rfl, isy, (show _ <= 11 by omega), fun H8 s8' => ?_⟩
   refine ⟨_, rfl, _, _, rfl, rfl, _, rfl, ?_⟩
   have hfs8 := s8' _ _ hfs7
   have o8 := o04.trans (o47.trans (Off.of s8'))
   have p8 := Jb p7 s8'
   have hg8 : ∀ z ∈ fs, GSt T L z.2 /\ z.2.sz <= most /\ jF H8 z.2 z.1 := fun z hz => by
    obtain ⟨z1, z2, z3⟩ := hg7 z hz
    exact ⟨z1, z2, z3.same s8'⟩
   refine ite2 (fun c1 => ?_) (fun c1 => ?_)
   ·have hsz : (Sy.mk c.nm (ps.map Prod.snd)).sz <= most := by
     have := of_decide_eq_true c1
     omega
    refine ⟨_, rfl, .inl ⟨rfl, _, SqL.of hfs8⟩, _, rfl, f, _, _, rfl, rfl, hfs8, by rw [List.length_map]; exact zr (by omega), ⟨_, _, _, _, _, rfl⟩, o8.fresh hf, p8.off (Ne.symm fp), fs ++ [(.ref t3, Sy.mk c.nm (ps.map Prod.snd))], by rw [zd, List.map_append]; rfl, by rw [List.length_append]; omega, by rw [List.length_append]; show fs.length + 1 <= _; omega, fun z hz => ?_⟩
    rcases List.mem_append.mp hz with hz | hz
    ·obtain ⟨z1, z2, z3⟩ := hg8 z hz
     exact ⟨z1, z2, z3.tk (Tk.put hfs8)⟩
    ·rw [List.mem_singleton.mp hz]
     exact ⟨gsm, hsz, (isy.same s8').tk (Tk.put hfs8)⟩
   ·exact ⟨⟨_, _, _, _, _, rfl⟩, o8, p8, fs, hfs8, fl1, by omega, hg8⟩
 ·rintro σ H2 ⟨⟨x6, x7, x8, x9, x10, rfl⟩, o2, p2, fs, hfs, fl1, fl5, hgood⟩
  exact ⟨_, rfl, q f fs H2 o2 p2 hf fp ⟨hfs, fl1, by omega, hgood⟩⟩
abbrev qx : Stmt := top 31
theorem Qe : zD ["_law_pool_here", "_law_found", "_law_most", "_law_some"] ["_law_pool_here", "_law_found", "_law_most"] (zf qx) := ⟨rfl, rfl, rfl, by decide +kernel, rfl, by decide +kernel, by decide +kernel⟩
theorem wx {P : Program} {w : World} {K : PySem.W.Frag} {mg : Str -> Option Value} {base : Heap} {f : Addr} {fd : FuncData} (F : Fun K "_law_picked" "_law_picked" qx f fd) (gb : Gb mg) (d_law_draw : Def P w K mg base 1 "_law_draw" ["_law_pool_here", "_law_many"] ZW) : jT P w K mg base CX0 2 f fd ["_law_pool_here", "_law_found", "_law_most"] wn := by
 refine F.ok Qe (fun vs H Q E h => ?_) (fun cdv A outer s H vs Q E hr h => ?_)
 ·obtain ⟨p, l, T, L, most, fs, n, rfl, _⟩ := h
  rfl
 obtain ⟨p, l, T, L, most, fs, n, rfl, hp, np, hf, n3, q⟩ := h
 have nd0 : (["_law_k", "_law_found", "_law_pool_here"] : List Str).Nodup := by decide +kernel
 refine ⟨_, (@ze _ _ _ _ _ (@Qi _ ["_law_k", "_law_found", "_law_pool_here"] [none, some 1, some 0] _ 3 _ _ _ _ _ _ _ _ _ _ _ _ (by exact (show zN ["_law_pool_here", "_law_found", "_law_most", "_law_some"] (zf qx) ["_law_k", "_law_found", "_law_pool_here"] [none, some 1, some 0] _ from ⟨rfl, by decide +kernel, by decide +kernel, by decide +kernel, by decide +kernel, rfl, by decide +kernel⟩)) rfl (@ql _ _ _ _ _ _ rfl gb.range (@za _ _ _ _ _ (@zq _ _ _ _ _ _ _ _ _ _ _ d_law_draw hr (by omega) rfl (@za _ _ _ _ _ (@pv _ 0 _ _ (by rfl) (by walk_at "v") (by decide) (by decide)) (@za _ _ _ _ _ (@zP _ _ _ _ _ _ _ _ (@jg _) (@pv _ 2 _ _ (by rfl) (by walk_at "v") (by decide) (by decide)) (@zh _ _ _ _)) (@zc _) (by rfl)) (by rfl)) (by decide) (by rfl) (by rfl)) (@zc _) (by rfl)) (by rfl)) (fun _ _ _ _ => (@zk _ _ 0 _ nd0 rfl (Or.inl rfl) (by walk_at "f"))) (fun _ _ _ _ => (@qG _)) (fun _ _ _ _ => (@zC _ _ _ _ _ _ _ (@zj _ K (by rfl)) (@pv _ 1 _ _ (by rfl) (by walk_at "v") (by decide) (by decide)) (@zq _ _ _ _ _ _ _ _ _ _ _ d_law_draw hr (by omega) rfl (@za _ _ _ _ _ (@pv _ 2 _ _ (by rfl) (by walk_at "v") (by decide) (by decide)) (@za _ _ _ _ _ (@zo _ _ _ _ _ _ _ _ _ (@zY _ K (by rfl)) rfl gb.len jl (@za _ _ _ _ _ (@pv _ 1 _ _ (by rfl) (by walk_at "v") (by decide) (by decide)) (@zc _) (by rfl)) (by decide) (by decide) (by rfl) (by rfl)) (@zc _) (by rfl)) (by rfl)) (by decide) (by rfl) (by rfl)) (fun _ _ => rfl))) Qe.nd rfl rfl rfl (by intro _; rfl)) (@zi _ _ _ (@zy _ _ _ _ (@qU _ _ _ _ _ (@za _ _ _ _ _ (@pv _ 3 _ _ (by rfl) (by walk_at "v") (by decide) (by decide)) (@za _ _ _ _ _ (@zC _ _ _ _ _ _ _ (@zj _ K (by rfl)) (@pv _ 1 _ _ (by rfl) (by walk_at "v") (by decide) (by decide)) (@zP _ _ _ _ _ _ _ _ (@wF _) (@zP _ _ _ _ _ _ _ _ (@wF _) (@zo _ _ _ _ _ _ _ _ _ (@zY _ K (by rfl)) rfl gb.len jl (@za _ _ _ _ _ (@pv _ 1 _ _ (by rfl) (by walk_at "v") (by decide) (by decide)) (@zc _) (by rfl)) (by decide) (by decide) (by rfl) (by rfl)) (@zh _ _ _ _)) (@zq _ _ _ _ _ _ _ _ _ _ _ d_law_draw hr (by omega) rfl (@za _ _ _ _ _ (@pv _ 0 _ _ (by rfl) (by walk_at "v") (by decide) (by decide)) (@za _ _ _ _ _ (@zo _ _ _ _ _ _ _ _ _ (@yX _ K rfl) rfl gb.min bt_min (@za _ _ _ _ _ (@zh _ _ _ _) (@za _ _ _ _ _ (@zo _ _ _ _ _ _ _ _ _ (@zY _ K (by rfl)) rfl gb.len jl (@za _ _ _ _ _ (@pv _ 1 _ _ (by rfl) (by walk_at "v") (by decide) (by decide)) (@zc _) (by rfl)) (by decide) (by decide) (by rfl) (by rfl)) (@zc _) (by rfl)) (by rfl)) (by decide) (by decide) (by rfl) (by rfl)) (@zc _) (by rfl)) (by rfl)) (by decide) (by rfl) (by rfl))) (fun _ _ => rfl)) (@zc _) (by rfl)) (by rfl)))))), ?_⟩
 obtain ⟨hfs, f1, f20, hgood⟩ := hf
 refine ⟨_, rfl, _, rfl, _, _, rfl, rfl, p, _, rfl, hp, by omega, by omega, fun k H1 k0 k1 o1 p1 => ?_⟩
 refine ⟨k, rfl, by omega, by omega, fun D hD => ?_⟩
 have Dp := ZQ p1 hD
 refine jV (fun j ys H' => Off p H1 H' /\ jh H' p /\ ∃ ps : List (V × Sy), ys = ps.map Prod.fst /\ ps.length = j /\ ∀ y ∈ ps, y ∈ fs) ⟨Off.new hD, p1.new hD, [], rfl, rfl, (fun y hy => by cases hy)⟩ ?_ ?_
 ·rintro j ys H5 hj ⟨o5, p5, ps, rfl, pl, hps⟩ hD5
  have hfs5 := (o1.trans o5) _ _ np hfs
  refine yes ⟨_, rfl, _, rfl, _, rfl, _, _, rfl, .inl ⟨_, SqL.of hfs5, rfl⟩, p, _, rfl, p5, by rw [List.length_map]; omega, by rw [List.length_map]; omega, fun y H6 y0 y1 o6 p6 => ?_⟩
  rw [List.length_map] at y1
  obtain ⟨z, hz, hat⟩ := WW y0 y1
  refine .inl ⟨l, _, y, _, rfl, rfl, SqL.of (o6 _ _ np hfs5), hat, ?_⟩
  refine wA hj jU (o6 _ _ Dp hD5) (by rw [List.length_map]; exact zr (by omega)) ⟨(o5.trans o6).fresh hD, p6.off (Ne.symm Dp), ps ++ [z], by rw [List.map_append]; rfl, by rw [List.length_append, pl]; rfl, fun y hy => ?_⟩
  rcases List.mem_append.mp hy with h | h
  ·exact hps y h
  ·rw [List.mem_singleton.mp h]
   exact hz
 ·rintro ys H5 ⟨o5, p5, ps, rfl, pl, hps⟩ hD5
  have hfs5 := (o1.trans o5) _ _ np hfs
  have lenv : LenV K (.ref l) H5 fs.length := .inl ⟨_, SqL.of hfs5, by rw [List.length_map]⟩
  refine ⟨_, rfl, _, rfl, _, rfl, _, _, rfl, lenv, _, _, rfl, rfl, _, rfl, _, rfl, _, _, rfl, lenv, _, _, rfl, p, _, rfl, p5, by split <;> omega, by split <;> omega, fun y H6 y0 y1 o6 p6 => ?_⟩
  have y1' : y < fs.length := by
   split at y1 <;> omega
  obtain ⟨z, hz, hat⟩ := WW (fs := fs) (u := (fs.length : Int) - 1 - y) (by omega) (by omega)
  refine ⟨_, _, rfl, rfl, .inl ⟨l, _, _, _, rfl, rfl, SqL.of (o6 _ _ np hfs5), hat, zu (by show 2 <= 1000; decide), fun t ht => ?_⟩⟩
  have o06 := o1.trans (o5.trans o6)
  have n7 := zg ht (.tup [.ref D, z.1])
  exact q t D ps z _ (o06.trans (Off.of n7)) (p6.new ht) (yH o1 hD Dp) Dp zd (n7 _ _ (o6 _ _ Dp hD5)) (by omega) hps hz
abbrev zZ : Stmt := top 32
theorem Jf : zD ["_law_table", "_law_saying"] ["_law_table", "_law_saying"] (zf zZ) := ⟨rfl, rfl, rfl, by decide +kernel, rfl, by decide +kernel, by decide +kernel⟩
theorem Jg {P : Program} {w : World} {K : PySem.W.Frag} {mg : Str -> Option Value} {base : Heap} {f : Addr} {fd : FuncData} (F : Fun K "_law_cells_of" "_law_cells_of" zZ f fd) (gb : Gb mg) : jT P w K mg base CX0 1 f fd ["_law_table", "_law_saying"] Qc := by
 refine F.ok Jf (fun vs H Q E h => ?_) (fun cdv A outer s H vs Q E hr h => ?_)
 ·obtain ⟨v, t, s, us, T, L, rfl, _⟩ := h
  rfl
 obtain ⟨v, t, s, us, T, L, rfl, tb, gT, nT, ht, gs, hs, q⟩ := h
 have nd0 : (["_law_name_here", "_law_places", "_law_cells_here", "_law_saying"] : List Str).Nodup := by decide +kernel
 refine ⟨_, (@zi _ _ _ (@zy _ _ _ _ (@zC _ _ _ _ _ _ _ (@zj _ K (by rfl)) (@zW _ ["_law_name_here", "_law_places", "_law_cells_here", "_law_saying"] [none, none, none, some 1] _ _ _ _ _ _ _ _ _ _ (by exact (show zN ["_law_table", "_law_saying"] (zf zZ) ["_law_name_here", "_law_places", "_law_cells_here", "_law_saying"] [none, none, none, some 1] _ from ⟨rfl, by decide +kernel, by decide +kernel, by decide +kernel, by decide +kernel, rfl, by decide +kernel⟩)) rfl (@ZK _ K _ _ _ (@zC _ _ _ _ _ _ _ (@zj _ K (by rfl)) (@pv _ 0 _ _ (by rfl) (by walk_at "v") (by decide) (by decide)) (@zh _ _ _ _) (fun _ _ => rfl)) (by rfl)) (fun _ _ _ _ => (@QP _ K _ _ _ _ 3 rfl (@qr _ _ _ _ _ (@zk _ _ 0 _ nd0 rfl (Or.inl rfl) (by walk_at "f")) (@qr _ _ _ _ _ (@zk _ _ 1 _ nd0 rfl (Or.inl rfl) (by walk_at "f")) (@qr _ _ _ _ _ (@zk _ _ 2 _ nd0 rfl (Or.inl rfl) (by walk_at "f")) (@QL _) (by rfl)) (by rfl)) (by rfl)) (by rfl) (by rfl) (by rfl))) (fun _ _ _ _ => (@wQ _ _ _ (@zL _ _ _ _ _ _ _ _ (@JV _) (@pv _ 0 _ _ (by rfl) (by walk_at "v") (by decide) (by decide)) (@zC _ _ _ _ _ _ _ (@zj _ K (by rfl)) (@pv _ 3 _ _ (by rfl) (by walk_at "v") (by decide) (by decide)) (@zh _ _ _ _) (fun _ _ => rfl)) (@qm _ _ (by decide) (by decide))))) (fun _ _ _ _ => (@pv _ 2 _ _ (by rfl) (by walk_at "v") (by decide) (by decide))) (by intro _; rfl)) (@zh _ _ _ _) (fun _ _ => rfl)))), ?_⟩
 obtain ⟨⟨c, hcm, cn, cp⟩, gps⟩ := gs.node hs
 obtain ⟨a, w0, c0, vs, rfl, h1, h2, h3, h4⟩ := id tb
 have cl := gT.cl
 have hvl := h4.len
 have gx : ∀ i, ∃ t u : Addr, i < T.cs.length -> vs[i]? = some (.ref t) /\ H t = some (.tup [.str (T.cs.getD i d0).nm, nV (T.cs.getD i d0).pl, .ref u]) /\ H u = some (.tup ((T.cs.getD i d0).cs.map nV)) := fun i => by
  by_cases hi : i < T.cs.length
  ·have hc : T.cs[i]? = some (T.cs.getD i d0) := by simp [List.getD, hi]
   obtain ⟨t, u, h⟩ := h4.get hc
   exact ⟨t, u, fun _ => h⟩
  ·exact ⟨0, 0, fun h => absurd h hi⟩
 obtain ⟨ad, gx⟩ := Classical.axiomOfChoice gx
 obtain ⟨au, gx⟩ := Classical.axiomOfChoice gx
 have ge : ∀ i, i < T.cs.length -> T.cs[i]? = some (T.cs.getD i d0) := fun i hi => by simp [List.getD, hi]
 obtain ⟨k, hk⟩ := List.mem_iff_getElem?.mp hcm
 have hkl := (List.getElem?_eq_some_iff.mp hk).1
 have ek : T.cs.getD k d0 = c := by
  have := ge k hkl
  rw [hk] at this
  exact (Option.some.inj this).symm
 have onl : ∀ i, i < T.cs.length -> ((T.cs.getD i d0).nm = s.nm ↔ i = k) := fun i hi => by
  refine ⟨fun e => ?_, fun e => by rw [e, ek, cn]⟩
  have r1 : (jX T)[i]? = some s.nm := by
   unfold jX
   rw [List.getElem?_map, ge i hi]
   show some _ = _
   rw [e]
  have r2 : (jX T)[k]? = some s.nm := by
   unfold jX
   rw [List.getElem?_map, hk]
   show some _ = _
   rw [cn]
  obtain ⟨l1, e1⟩ := List.getElem?_eq_some_iff.mp r1
  obtain ⟨l2, e2⟩ := List.getElem?_eq_some_iff.mp r2
  have m1 := nT.idxOf_getElem i l1
  have m2 := nT.idxOf_getElem k l2
  rw [e1] at m1
  rw [e2] at m2
  omega
 refine ⟨_, rfl, .inr (.inl ⟨a, _, 2, _, rfl, rfl, SqT.of h1, rfl, c0, rfl, ⟨_, SqT.of h3⟩, fun D hD => ?_⟩)⟩
 refine wY (n := T.cs.length) (ad := ad) (v1 := fun i => .str (T.cs.getD i d0).nm) (v2 := fun i => nV (T.cs.getD i d0).pl) (v3 := fun i => .ref (au i)) (more := [some (.ref t)]) (fun i ys H' => zF H H' /\ ys = if k < i then [V.ref (au k)] else []) ⟨zg hD _, by simp⟩ hvl.symm (fun i hi => (gx i hi).1) (fun i ys H' h _ => SqT.of (h.1 _ _ h3)) (fun i ys H' hi h => SqT.of (h.1 _ _ (gx i hi).2.1)) ?_ ?_
 ·rintro i ys H4 hi ⟨s4, rfl⟩ hD4
  refine ⟨_, rfl, _, rfl, .inr (.inl ⟨t, _, 0, _, rfl, rfl, SqT.of (s4 _ _ ht), at0, rfl, _, rfl, ?_⟩)⟩
  by_cases hik : i = k
  ·rw [show decide (V.str (T.cs.getD i d0).nm = V.str s.nm) = true from decide_eq_true (by rw [(onl i hi).mpr hik])]
   refine WE ⟨_, rfl, ?_⟩
   refine wA hi ⟨_, _, _, rfl⟩ hD4 (by rw [if_neg (by omega)]; exact zr (by show 0 <= 1000; decide)) ⟨s4.put hD, ?_⟩
   rw [if_neg (by omega), if_pos (by omega), hik]
   rfl
  ·rw [show decide (V.str (T.cs.getD i d0).nm = V.str s.nm) = false from decide_eq_false fun e => hik ((onl i hi).mp (V.str.inj e))]
   refine ZU (cno hi ⟨_, _, _, rfl⟩ hD4 ⟨s4, ?_⟩)
   by_cases h : k < i
   ·rw [if_pos h, if_pos (by omega)]
   ·rw [if_neg h, if_neg (by omega)]
 ·rintro ys H4 ⟨s4, rfl⟩ hD4
  rw [if_pos hkl] at hD4
  have hau := s4 _ _ (gx k hkl).2.2
  rw [ek] at hau
  exact .inl ⟨D, _, 0, _, rfl, rfl, SqL.of hD4, rfl, q (au k) c H4 s4 hcm cn cp hau⟩
abbrev qZ : Stmt := top 33
theorem jK : zD ["_law_table", "_law_saying", "_law_grading", "_law_place", "_law_part"] ["_law_table", "_law_saying", "_law_grading"] (zf qZ) := ⟨rfl, rfl, rfl, by decide +kernel, rfl, by decide +kernel, by decide +kernel⟩
theorem Wv {P : Program} {w : World} {K : PySem.W.Frag} {mg : Str -> Option Value} {base : Heap} {f : Addr} {fd : FuncData} (F : Fun K "_law_grade" "_law_grade" qZ f fd) (gb : Gb mg) (d_law_cells_of : Def P w K mg base 1 "_law_cells_of" ["_law_table", "_law_saying"] Qc) (j : Nat) (d_law_grade : Def P w K mg base (6 + j) "_law_grade" ["_law_table", "_law_saying", "_law_grading"] (wo j)) : jT P w K mg base CX0 (6 + j + 1) f fd ["_law_table", "_law_saying", "_law_grading"] (wo (j + 1)) := by
 refine F.ok jK (fun vs H Q E h => ?_) (fun cdv A outer s H vs Q E hr h => ?_)
 ·obtain ⟨v, sv, g, s, T, L, γ, rfl, _⟩ := h
  rfl
 obtain ⟨v, sv, g, s, T, L, γ, rfl, tb, gT, nT, ih, gs, hg, hj, q⟩ := h
 refine ⟨_, (@ze _ _ _ _ _ (@qR _ _ _ _ _ _ _ _ (@qF _ _ _ (@zo _ _ _ _ _ _ _ _ _ (@qc _ K (by rfl)) rfl gb.isinstance zJ (@za _ _ _ _ _ (@pv _ 1 _ _ (by rfl) (by walk_at "v") (by decide) (by decide)) (@za _ _ _ _ _ (@jt _ _ (.ty "str") _ _ rfl gb.str Jz rfl (by decide) (by decide)) (@zc _) (by rfl)) (by rfl)) (by decide) (by decide) (by rfl) (by rfl)) (by intro _; rfl)) (@zi _ _ _ (@zy _ _ _ _ (@WI _ _ _ _ _ _ (@pv _ 2 _ _ (by rfl) (by walk_at "v") (by decide) (by decide)) (@pv _ 1 _ _ (by rfl) (by walk_at "v") (by decide) (by decide)) (fun _ _ => rfl)))) (@zI _)) (@ze _ _ _ _ _ (@zv _ _ 3 _ _ _ _ jK.nd rfl (Or.inl rfl) (@zh _ _ _ _) (by rfl) (by walk_at "f")) (@ze _ _ _ _ _ (@qP _ _ _ _ _ _ _ _ PassesOwn.never rfl (@ZK _ K _ _ _ (@jI _ _ _ _ _ _ _ _ _ _ (@kslT _ K (by rfl)) (@pv _ 1 _ _ (by rfl) (by walk_at "v") (by decide) (by decide)) (@j4 _ _ _ (@zh _ _ _ _)) (@ZI _)) (by rfl)) (@zk _ _ 4 _ jK.nd rfl (Or.inl rfl) (by walk_at "f")) (@zi _ _ _ (@zv _ _ 3 _ _ _ _ jK.nd rfl (Or.inl rfl) (@zP _ _ _ _ _ _ _ _ (@jg _) (@zP _ _ _ _ _ _ _ _ (@Zb _) (@pv _ 3 _ _ (by rfl) (by walk_at "v") (by decide) (by decide)) (@zC _ _ _ _ _ _ _ (@zj _ K (by rfl)) (@pv _ 0 _ _ (by rfl) (by walk_at "v") (by decide) (by decide)) (@zh _ _ _ _) (fun _ _ => rfl))) (@zq _ _ _ _ _ _ _ _ _ _ _ d_law_grade hr (by omega) rfl (@za _ _ _ _ _ (@pv _ 0 _ _ (by rfl) (by walk_at "v") (by decide) (by decide)) (@za _ _ _ _ _ (@pv _ 4 _ _ (by rfl) (by walk_at "v") (by decide) (by decide)) (@za _ _ _ _ _ (@pv _ 2 _ _ (by rfl) (by walk_at "v") (by decide) (by decide)) (@zc _) (by rfl)) (by rfl)) (by rfl)) (by decide) (by rfl) (by rfl))) (by rfl) (by walk_at "f"))) (by intro _; rfl)) (@zi _ _ _ (@zy _ _ _ _ (@zC _ _ _ _ _ _ _ (@zj _ K (by rfl)) (@zq _ _ _ _ _ _ _ _ _ _ _ d_law_cells_of hr (by omega) rfl (@za _ _ _ _ _ (@pv _ 0 _ _ (by rfl) (by walk_at "v") (by decide) (by decide)) (@za _ _ _ _ _ (@pv _ 1 _ _ (by rfl) (by walk_at "v") (by decide) (by decide)) (@zc _) (by rfl)) (by rfl)) (by decide) (by rfl) (by rfl)) (@pv _ 3 _ _ (by rfl) (by walk_at "v") (by decide) (by decide)) (fun _ _ => rfl))))))), ?_⟩
 cases hs : s.isL with
 | true =>
  have ev := ih.letter hs
  obtain ⟨kvs, hn, hv⟩ := hg
  obtain ⟨hu1, hu2⟩ := hv s.nm (gs.letter hs)
  refine ⟨_, rfl, _, _, _, true, rfl, by rw [ev]; exact .str _, qI "str", _, rfl, WE ⟨_, rfl, _, rfl, g, kvs, Sum.inr s.nm, _, rfl, hn, ev, hu1, ?_⟩⟩
  have q2 := q H (zF.refl H)
  rw [Yk hs] at q2
  exact q2
 | false =>
  obtain ⟨t, us, ev, ht, hP⟩ := ih.node hs
  obtain ⟨⟨c, hcm, cn, cp⟩, gps⟩ := gs.node hs
  have hul := Paired.length hP
  have a2 := Sy.ps_le s
  obtain ⟨a, w0, c0, vs, rfl, h1, h2, h3, h4⟩ := id tb
  have m9 := gT.m9
  have cl := gT.cl
  have hvl := h4.len
  have gl : ∀ b ∈ s.ps, grT T γ b < T.m := fun b hb => yz gT nT (fun x hx => (hg.choose_spec.2 x hx).2) (gps b hb)
  rw [ev]
  refine ⟨_, rfl, _, _, _, false, rfl, .tup ht, QS (K := K) (.tup []), _, rfl, ZU ?_⟩
  refine ⟨_, rfl, _, rfl, ?_⟩
  refine JR ht fun t2 H2 s2 ht2 => ?_
  rw [jY (by simp)] at ht2
  refine ⟨t2, rfl, ⟨_, SqT.of ht2⟩, ?_⟩
  refine JU (xs := us) (fun i σ H' => (∃ x4, σ = [some (.ref a), some (.ref t), some (.ref g), some (nV (Tn.place T.m ((s.ps.take i).map (grT T γ)))), x4]) /\ zF H2 H') ⟨⟨_, rfl⟩, zF.refl _⟩ (fun i σ H' _ h => SqT.of (h.2 _ _ ht2)) ?_ ?_
  ·rintro i x σ H3 hx ⟨⟨x4, rfl⟩, s3⟩
   have hi : i < us.length := (List.getElem?_eq_some_iff.mp hx).1
   have ha : s.ps[i]? = some s.ps[i] := List.getElem?_eq_getElem (by omega)
   generalize s.ps[i] = b at ha
   have hib := Paired.at hP i _ _ ha hx
   have hbm := List.mem_of_getElem? ha
   have hdb := Sy.dp_lt hbm
   have S3 := s2.trans s3
   have e : V.int (((Tn.place T.m ((s.ps.take i).map (grT T γ)) : Nat) : Int) * ((T.m : Nat) : Int) + ((grT T γ b : Nat) : Int)) = nV (Tn.place T.m ((s.ps.take (i + 1)).map (grT T γ))) := by
    rw [take_snoc ha, List.map_append, List.map_cons, List.map_nil, Tn.place_snoc]
    show V.int _ = V.int _
    rw [Int.natCast_add, Int.natCast_mul]
   match j, hj, d_law_grade with
   | 0, hj, _ => exact absurd hj (by omega)
   | j + 1, hj, _ =>
   refine ⟨_, rfl, _, rfl, .inr (.inl ⟨a, _, 0, _, rfl, rfl, SqT.of (S3 _ _ h1), rfl, _, _, rfl, rfl, .inr ⟨by omega, by omega⟩, _, rfl, _, rfl, _, rfl, .ref a, x, g, b, T, L, γ, rfl, tb.same S3, gT, nT, hib.same S3, gps b hbm, hg.same S3, by omega, fun H4 s4 => ⟨_, _, rfl, rfl, ?_⟩⟩)⟩
   refine ⟨⟨some x, ?_⟩, s3.trans s4⟩
   rw [<- e]
   rfl
  ·rintro σ H3 ⟨⟨x4, rfl⟩, s3⟩
   have S3 := s2.trans s3
   have e0 : s.ps.take us.length = s.ps := by rw [<- hul, List.take_length]
   rw [e0]
   refine ⟨_, rfl, _, rfl, .ref a, t, s, us, T, L, rfl, tb.same S3, gT, nT, S3 _ _ ht, gs, hs, fun u c' H4 s4 hc' cn' cp' hu => ?_⟩
   have gc := gT.cn c' hc'
   have e : grT T γ s = Tn.at' c'.cs (Tn.place T.m (s.ps.map (grT T γ))) := by
    rw [grT_node hs, <- cn']
    unfold L4.cellOf
    rw [QH nT hc']
   refine ⟨_, rfl, .inr (.inl ⟨u, _, _, _, rfl, rfl, SqT.of hu, at_nV ?_, ?_⟩)⟩
   ·rw [gc.2.2.len, cp']
    exact Tn.place_lt _ _ ⟨by rw [List.length_map], fun x hx => by
     obtain ⟨b, hb, rfl⟩ := List.mem_map.mp hx
     exact gl b hb⟩
   ·rw [<- e]
    exact q H4 (S3.trans s4)
abbrev Zy : Stmt := top 34
theorem Qf : zD ["_law_saying", "_law_found", "_law_part"] ["_law_saying"] (zf Zy) := ⟨rfl, rfl, rfl, by decide +kernel, rfl, by decide +kernel, by decide +kernel⟩
theorem Xy {P : Program} {w : World} {K : PySem.W.Frag} {mg : Str -> Option Value} {base : Heap} {f : Addr} {fd : FuncData} (F : Fun K "_law_of" "_law_of" Zy f fd) (gb : Gb mg) (j : Nat) (d_law_of : Def P w K mg base (6 + j) "_law_of" ["_law_saying"] (spOfL j)) : jT P w K mg base CX0 (6 + j + 1) f fd ["_law_saying"] (spOfL (j + 1)) := by
 refine F.ok Qf (fun vs H Q E h => ?_) (fun cdv A outer s H vs Q E hr h => ?_)
 ·obtain ⟨sv, s, rfl, _⟩ := h
  rfl
 obtain ⟨sv, s, rfl, ih, h63, hj, q⟩ := h
 refine ⟨_, (@ze _ _ _ _ _ (@qR _ _ _ _ _ _ _ _ (@qF _ _ _ (@zo _ _ _ _ _ _ _ _ _ (@qc _ K (by rfl)) rfl gb.isinstance zJ (@za _ _ _ _ _ (@pv _ 0 _ _ (by rfl) (by walk_at "v") (by decide) (by decide)) (@za _ _ _ _ _ (@jt _ _ (.ty "str") _ _ rfl gb.str Jz rfl (by decide) (by decide)) (@zc _) (by rfl)) (by rfl)) (by decide) (by decide) (by rfl) (by rfl)) (by intro _; rfl)) (@zi _ _ _ (@zy _ _ _ _ (@qf _ _ _ _ (@za _ _ _ _ _ (@pv _ 0 _ _ (by rfl) (by walk_at "v") (by decide) (by decide)) (@zc _) (by rfl))))) (@zI _)) (@ze _ _ _ _ _ (@zv _ _ 1 _ _ _ _ Qf.nd rfl (Or.inl rfl) (@qf _ _ _ _ (@zc _)) (by rfl) (by walk_at "f")) (@ze _ _ _ _ _ (@qP _ _ _ _ _ _ _ _ PassesOwn.never rfl (@ZK _ K _ _ _ (@jI _ _ _ _ _ _ _ _ _ _ (@kslT _ K (by rfl)) (@pv _ 0 _ _ (by rfl) (by walk_at "v") (by decide) (by decide)) (@j4 _ _ _ (@zh _ _ _ _)) (@ZI _)) (by rfl)) (@zk _ _ 2 _ Qf.nd rfl (Or.inl rfl) (by walk_at "f")) (@zi _ _ _ (@zv _ _ 1 _ _ _ _ Qf.nd rfl (Or.inl rfl) (@zP _ _ _ _ _ _ _ _ (@Jv _) (@pv _ 1 _ _ (by rfl) (by walk_at "v") (by decide) (by decide)) (@zq _ _ _ _ _ _ _ _ _ _ _ d_law_of hr (by omega) rfl (@za _ _ _ _ _ (@pv _ 2 _ _ (by rfl) (by walk_at "v") (by decide) (by decide)) (@zc _) (by rfl)) (by decide) (by rfl) (by rfl))) (by rfl) (by walk_at "f"))) (by intro _; rfl)) (@zi _ _ _ (@zy _ _ _ _ (@pv _ 1 _ _ (by rfl) (by walk_at "v") (by decide) (by decide))))))), ?_⟩
 cases hs : s.isL with
 | true =>
  have ev := ih.letter hs
  refine ⟨_, rfl, _, _, _, true, rfl, by rw [ev]; exact .str _, qI "str", _, rfl, WE ⟨_, rfl, zu (by show 1 <= 1000; decide), fun l hl => ?_⟩⟩
  refine q l _ (zg hl _) hl ?_
  rw [zd, ev]
  cases s with
  | ltr x => rfl
  | _ => cases hs
 | false =>
  obtain ⟨t, us, ev, ht, hP⟩ := ih.node hs
  have hul := Paired.length hP
  have a2 := Sy.ps_le s
  have hls := jO s
  rw [ev]
  refine ⟨_, rfl, _, _, _, false, rfl, .tup ht, QS (K := K) (.tup []), _, rfl, ZU ?_⟩
  refine ⟨zu (by show 0 <= 1000; decide), fun l0 hl0 => ?_⟩
  have n1 := zg hl0 (.lst [])
  refine ⟨_, rfl, _, rfl, ?_⟩
  refine JR (n1 _ _ ht) fun t2 H2 s2 ht2 => ?_
  rw [jY (by simp)] at ht2
  have S2 := n1.trans s2
  refine ⟨t2, rfl, ⟨_, SqT.of ht2⟩, ?_⟩
  refine JU (xs := us) (fun i σ H' => (∃ l x2, σ = [some (.ref t), some (.ref l), x2] /\ H l = none /\ H' l = some (.lst (((s.ps.take i).flatMap Sy.lets).map V.str))) /\ zF H2 H') ⟨⟨l0, _, rfl, hl0, s2 _ _ zd⟩, zF.refl _⟩ (fun i σ H' _ h => SqT.of (h.2 _ _ ht2)) ?_ ?_
  ·rintro i x σ H3 hx ⟨⟨l, x2, rfl, hl, hl3⟩, s3⟩
   have hi : i < us.length := (List.getElem?_eq_some_iff.mp hx).1
   have ha : s.ps[i]? = some s.ps[i] := List.getElem?_eq_getElem (by omega)
   generalize s.ps[i] = b at ha
   have hib := Paired.at hP i _ _ ha hx
   have hbm := List.mem_of_getElem? ha
   have hdb := Sy.dp_lt hbm
   have hsb := sz_part hbm
   have hlb := jO b
   have ft := Xn s.ps Sy.lets i
   rw [<- Xm hs] at ft
   have S3 := S2.trans s3
   match j, hj, d_law_of with
   | 0, hj, _ => exact absurd hj (by omega)
   | j + 1, hj, _ =>
   refine ⟨_, rfl, _, rfl, x, b, rfl, hib.same S3, by omega, by omega, fun l2 H4 s4 hn2 hl2 => ⟨l, l2, _, _, rfl, rfl, s4 _ _ hl3, hl2, by rw [List.length_map, List.length_map]; exact zu (by omega), fun l3 hl3' => ?_⟩⟩
   refine ⟨⟨l3, some x, rfl, (S3.trans s4).free hl3', ?_⟩, (s3.trans s4).trans (zg hl3' _)⟩
   rw [zd, take_snoc ha, List.flatMap_append, List.map_append]
   simp
  ·rintro σ H3 ⟨⟨l, x2, rfl, hl, hl3⟩, s3⟩
   rw [<- hul, List.take_length, <- Xm hs] at hl3
   exact ⟨_, rfl, q l H3 (S2.trans s3) hl hl3⟩
abbrev ja : Stmt := top 36
theorem W8 : zD ["_law_table", "_law_premises", "_law_saying", "_law_grading"] ["_law_table", "_law_premises", "_law_saying", "_law_grading"] (zf ja) := ⟨rfl, rfl, rfl, by decide +kernel, rfl, by decide +kernel, by decide +kernel⟩
theorem W9 {P : Program} {w : World} {K : PySem.W.Frag} {mg : Str -> Option Value} {base : Heap} {f : Addr} {fd : FuncData} (F : Fun K "_law_bars" "_law_bars" ja f fd) (gb : Gb mg) (d_law_grade : Def P w K mg base 18 "_law_grade" ["_law_table", "_law_saying", "_law_grading"] (wo 12)) : jT P w K mg base CX0 20 f fd ["_law_table", "_law_premises", "_law_saying", "_law_grading"] WZ := by
 refine F.ok W8 (fun vs H Q E h => ?_) (fun cdv A outer s H vs Q E hr h => ?_)
 ·obtain ⟨v, pl, sv, g, T, L, ps, S, γ, rfl, _⟩ := h
  rfl
 obtain ⟨v, pl, sv, g, T, L, ps, S, γ, rfl, ak, hg, q⟩ := h
 have nd0 : (["_law_one", "_law_table", "_law_grading"] : List Str).Nodup := by decide +kernel
 refine ⟨_, (@ze _ _ _ _ _ (@qR _ _ _ _ _ _ _ _ (@jR _ _ _ _ (@qF _ _ _ (@zo _ _ _ _ _ _ _ _ _ (@Ze _ K rfl (by rfl)) rfl gb.all wR (@za _ _ _ _ _ (@zW _ ["_law_one", "_law_table", "_law_grading"] [none, some 0, some 3] _ _ _ _ _ _ _ _ _ _ (by exact (show zN ["_law_table", "_law_premises", "_law_saying", "_law_grading"] (zf ja) ["_law_one", "_law_table", "_law_grading"] [none, some 0, some 3] _ from ⟨rfl, by decide +kernel, by decide +kernel, by decide +kernel, by decide +kernel, rfl, by decide +kernel⟩)) rfl (@zH _ K _ _ _ (@pv _ 1 _ _ (by rfl) (by walk_at "v") (by decide) (by decide)) (by rfl)) (fun _ _ _ _ => (@zk _ _ 0 _ nd0 rfl (Or.inl rfl) (by walk_at "f"))) (fun _ _ _ _ => (@qG _)) (fun _ _ _ _ => (@j3 _ _ _ _ _ _ _ _ (@jp _ K (by rfl)) (@zq _ _ _ _ _ _ _ _ _ _ _ d_law_grade hr (by omega) rfl (@za _ _ _ _ _ (@pv _ 1 _ _ (by rfl) (by walk_at "v") (by decide) (by decide)) (@za _ _ _ _ _ (@pv _ 0 _ _ (by rfl) (by walk_at "v") (by decide) (by decide)) (@za _ _ _ _ _ (@pv _ 2 _ _ (by rfl) (by walk_at "v") (by decide) (by decide)) (@zc _) (by rfl)) (by rfl)) (by rfl)) (by decide) (by rfl) (by rfl)) (@zC _ _ _ _ _ _ _ (@zj _ K (by rfl)) (@pv _ 1 _ _ (by rfl) (by walk_at "v") (by decide) (by decide)) (@zh _ _ _ _) (fun _ _ => rfl)) (by with_unfolding_all rfl))) (by intro _; rfl)) (@zc _) (by rfl)) (by decide) (by decide) (by rfl) (by rfl)) (by intro _; rfl))) (@zi _ _ _ (@zy _ _ _ _ (@Qg _ _ _ _))) (@zI _)) (@zi _ _ _ (@zy _ _ _ _ (@j3 _ _ _ _ _ _ _ _ (@ZV _ K (by rfl)) (@zq _ _ _ _ _ _ _ _ _ _ _ d_law_grade hr (by omega) rfl (@za _ _ _ _ _ (@pv _ 0 _ _ (by rfl) (by walk_at "v") (by decide) (by decide)) (@za _ _ _ _ _ (@pv _ 2 _ _ (by rfl) (by walk_at "v") (by decide) (by decide)) (@za _ _ _ _ _ (@pv _ 3 _ _ (by rfl) (by walk_at "v") (by decide) (by decide)) (@zc _) (by rfl)) (by rfl)) (by rfl)) (by decide) (by rfl) (by rfl)) (@zC _ _ _ _ _ _ _ (@zj _ K (by rfl)) (@pv _ 0 _ _ (by rfl) (by walk_at "v") (by decide) (by decide)) (@zh _ _ _ _) (fun _ _ => rfl)) (by with_unfolding_all rfl))))), ?_⟩
 obtain ⟨a, w0, c0, vs, rfl, h1, h2, h3, h4⟩ := id ak.tb
 refine ⟨_, rfl, pl, rfl, ⟨_, SqL.of ak.hp⟩, fun D hD => ?_⟩
 refine jo ps Prod.fst (fun x => .bl (decide (grT T γ x.2 ∈ T.ws))) ak.hp (by have := ak.pn; omega) hD (fun x hx H' Q' s1 q' => ?_) (fun H1 s1 hD1 => ?_)
 ·obtain ⟨k1, k2, k3, k4⟩ := ak.ps x hx
  refine ⟨_, rfl, _, rfl, _, rfl, .ref a, x.1, g, x.2, T, L, γ, rfl, ak.tb.same s1, ak.gt, ak.nd, k4.same s1, k1, hg.same s1, (show _ <= 11 by omega), fun H2 s2 => ?_⟩
  refine ⟨_, rfl, .inr (.inl ⟨a, _, 1, _, rfl, rfl, SqT.of ((s1.trans s2) _ _ h1), rfl, w0, _, rfl, .inr (SqT.of ((s1.trans s2) _ _ h2)), rfl, jB _, ?_⟩)⟩
  rw [if_neg (by decide), Qp]
  exact q' _ s2
 have eb : (ps.map fun x => V.bl (decide (grT T γ x.2 ∈ T.ws))) = (ps.map fun x => decide (grT T γ x.2 ∈ T.ws)).map V.bl := by rw [List.map_map]; rfl
 rw [eb] at hD1
 refine ⟨D, _, rfl, SqL.of hD1, _, rfl, ?_⟩
 have ea : (ps.map fun x => decide (grT T γ x.2 ∈ T.ws)).all id = (ps.map Prod.snd).all fun p => decide (grT T γ p ∈ T.ws) := by rw [List.all_map, List.all_map]; rfl
 rw [ea]
 cases hall : (ps.map Prod.snd).all fun p => decide (grT T γ p ∈ T.ws) with
 | false =>
  refine WE ?_
  have q2 := q _ s1
  unfold barB at q2
  rw [hall, Bool.false_and] at q2
  exact q2
 | true =>
  refine ZU ?_
  refine ⟨_, rfl, _, rfl, _, rfl, .ref a, sv, g, S, T, L, γ, rfl, ak.tb.same s1, ak.gt, ak.nd, ak.sv.same s1, ak.gs, hg.same s1, (show _ <= 11 from Nat.le_trans ak.sd (by decide)), fun H2 s2 => ?_⟩
  refine ⟨_, rfl, .inr (.inl ⟨a, _, 1, _, rfl, rfl, SqT.of ((s1.trans s2) _ _ h1), rfl, w0, _, rfl, .inr (SqT.of ((s1.trans s2) _ _ h2)), rfl, jB _, ?_⟩)⟩
  rw [if_pos rfl, Qp]
  have q2 := q _ (s1.trans s2)
  unfold barB at q2
  rw [hall, Bool.true_and] at q2
  exact q2
abbrev qq : Stmt := top 35
theorem zO : zD ["_law_table", "_law_letters_here", "_law_found", "_law_letter", "_law_more", "_law_grading", "_law_one", "_law_longer"] ["_law_table", "_law_letters_here"] (zf qq) := ⟨rfl, rfl, rfl, by decide +kernel, rfl, by decide +kernel, by decide +kernel⟩
theorem Jh {P : Program} {w : World} {K : PySem.W.Frag} {mg : Str -> Option Value} {base : Heap} {f : Addr} {fd : FuncData} (F : Fun K "_law_gradings" "_law_gradings" qq f fd) (gb : Gb mg) : jT P w K mg base CX0 1 f fd ["_law_table", "_law_letters_here"] Qs := by
 refine F.ok zO (fun vs H Q E h => ?_) (fun cdv A outer s H vs Q E hr h => ?_)
 ·obtain ⟨v, la, T, LT, rfl, _⟩ := h
  rfl
 obtain ⟨v, la, T, LT, rfl, tb, gT, hla, nL, l5, p125, q⟩ := h
 refine ⟨_, (@ze _ _ _ _ _ (@zv _ _ 2 _ _ _ _ zO.nd rfl (Or.inl rfl) (@qf _ _ _ _ (@za _ _ _ _ _ (@J3 _ _) (@zc _) (by rfl))) (by rfl) (by walk_at "f")) (@ze _ _ _ _ _ (@qP _ _ _ _ _ _ _ _ PassesOwn.never rfl (@zH _ K _ _ _ (@pv _ 1 _ _ (by rfl) (by walk_at "v") (by decide) (by decide)) (by rfl)) (@zk _ _ 3 _ zO.nd rfl (Or.inl rfl) (by walk_at "f")) (@ze _ _ _ _ _ (@zv _ _ 4 _ _ _ _ zO.nd rfl (Or.inl rfl) (@qf _ _ _ _ (@zc _)) (by rfl) (by walk_at "f")) (@ze _ _ _ _ _ (@qP _ _ _ _ _ _ _ _ PassesOwn.never rfl (@zH _ K _ _ _ (@pv _ 2 _ _ (by rfl) (by walk_at "v") (by decide) (by decide)) (by rfl)) (@zk _ _ 5 _ zO.nd rfl (Or.inl rfl) (by walk_at "f")) (@zi _ _ _ (@qP _ _ _ _ _ _ _ _ PassesOwn.never rfl (@ql _ _ _ _ _ _ rfl gb.range (@za _ _ _ _ _ (@zC _ _ _ _ _ _ _ (@zj _ K (by rfl)) (@pv _ 0 _ _ (by rfl) (by walk_at "v") (by decide) (by decide)) (@zh _ _ _ _) (fun _ _ => rfl)) (@zc _) (by rfl)) (by rfl)) (@zk _ _ 6 _ zO.nd rfl (Or.inl rfl) (by walk_at "f")) (@ze _ _ _ _ _ (@zv _ _ 7 _ _ _ _ zO.nd rfl (Or.inl rfl) (@zG _ _ _ _ _ _ _ _ _ (@Ql _) rfl gb.dict Qk (@za _ _ _ _ _ (@pv _ 5 _ _ (by rfl) (by walk_at "v") (by decide) (by decide)) (@zc _) (by rfl)) (by decide) (by decide) (by rfl) (by rfl)) (by rfl) (by walk_at "f")) (@ze _ _ _ _ _ (@J8 _ _ _ _ _ _ _ _ _ _ hr (@pv _ 7 _ _ (by rfl) (by walk_at "v") (by decide) (by decide)) (@pv _ 3 _ _ (by rfl) (by walk_at "v") (by decide) (by decide)) (@pv _ 6 _ _ (by rfl) (by walk_at "v") (by decide) (by decide)) rfl) (@zi _ _ _ (@jL _ _ _ _ (@ZB _ K _ _ _ _ _ _ _ _ _ _ _ PySem.F.plainAttrs_list PySem.F.slot_list_append PySem.F.type_list_append (@jv _) (@pv _ 4 _ _ (by rfl) (by walk_at "v") (by decide) (by decide)) (@za _ _ _ _ _ (@pv _ 7 _ _ (by rfl) (by walk_at "v") (by decide) (by decide)) (@zc _) (by rfl)) (by rfl) (by rfl) (by rfl) (by rfl) (by rfl) (by rfl)) (by rfl))))) (by intro _; rfl))) (by intro _; rfl)) (@zi _ _ _ (@zv _ _ 2 _ _ _ _ zO.nd rfl (Or.inl rfl) (@pv _ 4 _ _ (by rfl) (by walk_at "v") (by decide) (by decide)) (by rfl) (by walk_at "f"))))) (by intro _; rfl)) (@zi _ _ _ (@zy _ _ _ _ (@pv _ 2 _ _ (by rfl) (by walk_at "v") (by decide) (by decide)))))), ?_⟩
 obtain ⟨a, w0, c0, vs, rfl, h1, h2, h3, h4⟩ := id tb
 have m1 := gT.m1
 have m9 := gT.m9
 refine fun dd hd => ⟨zu (by show 1 <= 1000; decide), fun fl hfl => ?_⟩
 have n1 := zg hd (.dK [])
 have n2 := zg hfl (.lst [.ref dd])
 have S2 := n1.trans n2
 refine ⟨_, rfl, la, rfl, ⟨_, SqL.of (S2 _ _ hla)⟩, ?_⟩
 refine jm (xs := LT.map V.str) (fun i σ H' => (∃ fl x3 x4 x5 x6 x7 gs, σ = [some (.ref a), some (.ref la), some (.ref fl), x3, x4, x5, x6, x7] /\ zF H H' /\ H' fl = some (.lst (jZ gs)) /\ gs.map Prod.snd = wq T.m i /\ GnsR H' gs (LT.take i))) ⟨fl, none, none, none, none, none, [(dd, [])], rfl, S2, zd, rfl, fun z hz => by rw [List.mem_singleton.mp hz]; exact n2 _ _ zd⟩ (fun i σ H' _ h => by obtain ⟨_, _, _, _, _, _, _, _, s, _⟩ := h; exact SqL.of (s _ _ hla)) ?_ ?_
 ·rintro i x σ H1 hx ⟨fl, x3, x4, x5, x6, x7, gs, rfl, s1, hf, es, hg⟩
  rw [List.getElem?_map] at hx
  obtain ⟨y, hy, rfl⟩ := Option.map_eq_some_iff.mp hx
  have hi : i < LT.length := (List.getElem?_eq_some_iff.mp hy).1
  have hyn : y ∉ LT.take i := fun hm => by
   obtain ⟨j, hj, e⟩ := List.mem_take_iff_getElem.mp hm
   obtain ⟨h1, h2⟩ := List.getElem?_eq_some_iff.mp hy
   exact (List.pairwise_iff_getElem.mp nL) j i (by omega) h1 (by omega) (by rw [e, h2])
  have gl : gs.length = T.m ^ i := by
   have := congrArg List.length es
   rwa [List.length_map, Jc] at this
  have pw : T.m ^ (i + 1) <= 125 := Nat.le_trans (Nat.pow_le_pow_right m1 (by omega)) p125
  have pw' : gs.length * T.m <= 125 := by rw [gl, <- Nat.pow_succ]; exact pw
  have tkl : (LT.take i).length = i := by rw [List.length_take]; omega
  have rl : ∀ z ∈ gs, z.2.length = i := fun z hz => (Zp.mp (es ▸ List.mem_map.mpr ⟨z, hz, rfl⟩ : z.2 ∈ wq T.m i)).1
  refine ⟨zu (by show 0 <= 1000; decide), fun lo hlo => ?_⟩
  have n3 := zg hlo (.lst [])
  refine ⟨_, rfl, fl, rfl, ⟨_, SqL.of (n3 _ _ hf)⟩, ?_⟩
  refine jm (xs := jZ gs) (fun j σ H' => (∃ x5 x6 x7 hs, σ = [some (.ref a), some (.ref la), some (.ref fl), some (.str y), some (.ref lo), x5, x6, x7] /\ zF H1 H' /\ H' lo = some (.lst (jZ hs)) /\ hs.map Prod.snd = ((gs.take j).map Prod.snd).flatMap (fun r => (List.range T.m).map fun o => r ++ [o]) /\ GnsR H' hs (LT.take i ++ [y]))) ⟨x5, x6, x7, [], rfl, n3, zd, rfl, fun z hz => by cases hz⟩ (fun j σ H' _ h => by obtain ⟨_, _, _, _, _, s, _⟩ := h; exact SqL.of (s _ _ hf)) ?_ ?_
  ·rintro j x σ H2 hx ⟨x5, x6, x7, hs, rfl, s2, hl2, eh, hh⟩
   have hxj : (gs.map fun z => V.ref z.1)[j]? = some x := hx
   rw [List.getElem?_map] at hxj
   obtain ⟨z, hz, rfl⟩ := Option.map_eq_some_iff.mp hxj
   have hj : j < gs.length := (List.getElem?_eq_some_iff.mp hz).1
   have hk := hg z (List.mem_of_getElem? hz)
   have zl := rl z (List.mem_of_getElem? hz)
   have hsl : hs.length <= gs.length * T.m := by
    have := congrArg List.length eh
    rw [List.length_map] at this
    rw [this]
    have e2 : (((gs.take j).map Prod.snd).flatMap fun r => (List.range T.m).map fun o => r ++ [o]).length = j * T.m := by
     rw [Xo, List.length_map, List.length_take, show min j gs.length = j by omega]
    rw [e2]
    exact Nat.mul_le_mul_right _ (by omega)
   refine ⟨_, rfl, .inr (.inl ⟨a, _, 0, _, rfl, rfl, SqT.of ((s1.trans s2) _ _ h1), rfl, (T.m : Int), rfl, by omega, by omega, ?_⟩)⟩
   rw [Int.toNat_natCast]
   refine ju (fun k σ H' => (∃ x6 x7 hs', σ = [some (.ref a), some (.ref la), some (.ref fl), some (.str y), some (.ref lo), some (.ref z.1), x6, x7] /\ zF H1 H' /\ H' lo = some (.lst (jZ hs')) /\ hs'.map Prod.snd = hs.map Prod.snd ++ (List.range k).map (fun o => z.2 ++ [o]) /\ GnsR H' hs' (LT.take i ++ [y]))) ⟨x6, x7, hs, rfl, s2, hl2, by rw [show (List.range 0).map (fun o => z.2 ++ [o]) = [] from rfl, List.append_nil], hh⟩ ?_ ?_
   ·rintro k σ H3 hk9 ⟨x6, x7, hs', rfl, s3, hl3, eh', hh'⟩
    have hk3 := s3 _ _ hk
    have hs'l : hs'.length = hs.length + k := by
     have := congrArg List.length eh'
     rw [List.length_map, List.length_append, List.length_map, List.length_map, List.length_range] at this
     exact this
    refine ⟨_, rfl, z.1, _, rfl, hk3, fun e he => ?_⟩
    refine ⟨_, rfl, _, rfl, _, rfl, e, _, Sum.inr y, rfl, rfl, zd, by rw [Xp (by omega)]; exact zr (by omega), ?_⟩
    rw [upd_upd, show V.int (0 + (k : Int)) = nV k by show V.int _ = V.int _; rw [Int.zero_add], zkv_put (by omega) hyn]
    have n5 := zg he (.dK (zkv (LT.take i ++ [y]) (z.2 ++ [k])))
    have hl5 := n5 _ _ hl3
    refine ⟨_, rfl, .inl ⟨rfl, _, SqL.of hl5⟩, _, rfl, lo, _, _, rfl, rfl, hl5, by unfold jZ; rw [List.length_map]; exact zr (by omega), ?_⟩
    refine ⟨_, _, hs' ++ [(e, z.2 ++ [k])], rfl, (s3.trans n5).put hlo, by rw [zd]; unfold jZ; rw [List.map_append]; rfl, ?_, fun u hu => ?_⟩
    ·rw [List.map_append, eh', List.range_succ, List.map_append, List.append_assoc]
     rfl
    ·have dne : ∀ (b : Addr) (o : List (Key × V)), (upd H3 e (.dK (zkv (LT.take i ++ [y]) (z.2 ++ [k])))) b = some (.dK o) -> b ≠ lo := fun b o hb e2 => by
      rw [e2, hl5] at hb
      cases hb
     rcases List.mem_append.mp hu with hu | hu
     ·have h6 := n5 _ _ (hh' u hu)
      rw [zn (dne _ _ h6)]
      exact h6
     ·rw [List.mem_singleton.mp hu]
      rw [zn (dne e _ zd)]
      exact zd
   ·rintro σ H3 ⟨x6, x7, hs', rfl, s3, hl3, eh', hh'⟩
    refine ⟨_, _, _, hs', rfl, s3, hl3, ?_, hh'⟩
    rw [eh', eh, take_snoc hz, List.map_append, List.flatMap_append]
    simp
  ·rintro σ H2 ⟨x5, x6, x7, hs, rfl, s2, hl2, eh, hh⟩
   unfold jZ at eh
   rw [List.length_map, List.take_length] at eh
   refine ⟨_, rfl, lo, _, _, _, _, _, hs, rfl, s1.trans s2, hl2, ?_, ?_⟩
   ·rw [eh, es]
    rfl
   ·rw [take_snoc hy]
    exact hh
 ·rintro σ H1 ⟨fl, x3, x4, x5, x6, x7, gs, rfl, s1, hf, es, hg⟩
  rw [List.length_map] at es hg
  rw [List.take_length] at hg
  exact ⟨_, rfl, q fl gs H1 s1 hf es hg⟩
abbrev zU : Stmt := top 37
theorem zK : zD ["_law_table", "_law_saying", "_law_sets", "_law_places", "_law_part", "_law_ones", "_law_more", "_law_place", "_law_cells_here"] ["_law_table", "_law_saying", "_law_sets"] (zf zU) := ⟨rfl, rfl, rfl, by decide +kernel, rfl, by decide +kernel, by decide +kernel⟩
theorem Ji {P : Program} {w : World} {K : PySem.W.Frag} {mg : Str -> Option Value} {base : Heap} {f : Addr} {fd : FuncData} (F : Fun K "_law_possible" "_law_possible" zU f fd) (gb : Gb mg) (d_law_cells_of : Def P w K mg base 1 "_law_cells_of" ["_law_table", "_law_saying"] Qc) (j : Nat) (d_law_possible : Def P w K mg base (6 + j) "_law_possible" ["_law_table", "_law_saying", "_law_sets"] (wt j)) : jT P w K mg base CX0 (6 + j + 1) f fd ["_law_table", "_law_saying", "_law_sets"] (wt (j + 1)) := by
 refine F.ok zK (fun vs H Q E h => ?_) (fun cdv A outer s H vs Q E hr h => ?_)
 ·obtain ⟨v, sv, g, s, T, L, ls, rfl, _⟩ := h
  rfl
 obtain ⟨v, sv, g, s, T, L, ls, rfl, tb, gT, nT, ih, gs, hg, hlt, hj, q⟩ := h
 have nd0 : (["_law_one", "_law_place", "_law_table"] : List Str).Nodup := by decide +kernel
 have nd1 : (["_law_place", "_law_cells_here"] : List Str).Nodup := by decide +kernel
 refine ⟨_, (@ze _ _ _ _ _ (@qR _ _ _ _ _ _ _ _ (@qF _ _ _ (@zo _ _ _ _ _ _ _ _ _ (@qc _ K (by rfl)) rfl gb.isinstance zJ (@za _ _ _ _ _ (@pv _ 1 _ _ (by rfl) (by walk_at "v") (by decide) (by decide)) (@za _ _ _ _ _ (@jt _ _ (.ty "str") _ _ rfl gb.str Jz rfl (by decide) (by decide)) (@zc _) (by rfl)) (by rfl)) (by decide) (by decide) (by rfl) (by rfl)) (by intro _; rfl)) (@zi _ _ _ (@zy _ _ _ _ (@pe_dget2 _ _ _ _ _ _ _ _ _ (@hu1 _ _ hr) (@pv _ 2 _ _ (by rfl) (by walk_at "v") (by decide) (by decide)) (@pv _ 1 _ _ (by rfl) (by walk_at "v") (by decide) (by decide)) (@zG _ _ _ _ _ _ _ _ _ (@Qj _ rfl) rfl gb.list Zd (@za _ _ _ _ _ (@xf _ _ _ _ _ rfl gb.range (@za _ _ _ _ _ (@zC _ _ _ _ _ _ _ (@zj _ K (by rfl)) (@pv _ 0 _ _ (by rfl) (by walk_at "v") (by decide) (by decide)) (@zh _ _ _ _) (fun _ _ => rfl)) (@zc _) (by rfl)) (by rfl)) (@zc _) (by rfl)) (by decide) (by decide) (by rfl) (by rfl)) ⟨rfl, rfl, rfl, rfl⟩))) (@zI _)) (@ze _ _ _ _ _ (@zv _ _ 3 _ _ _ _ zK.nd rfl (Or.inl rfl) (@qf _ _ _ _ (@za _ _ _ _ _ (@zh _ _ _ _) (@zc _) (by rfl))) (by rfl) (by walk_at "f")) (@ze _ _ _ _ _ (@qP _ _ _ _ _ _ _ _ PassesOwn.never rfl (@ZK _ K _ _ _ (@jI _ _ _ _ _ _ _ _ _ _ (@kslT _ K (by rfl)) (@pv _ 1 _ _ (by rfl) (by walk_at "v") (by decide) (by decide)) (@j4 _ _ _ (@zh _ _ _ _)) (@ZI _)) (by rfl)) (@zk _ _ 4 _ zK.nd rfl (Or.inl rfl) (by walk_at "f")) (@ze _ _ _ _ _ (@zv _ _ 5 _ _ _ _ zK.nd rfl (Or.inl rfl) (@zq _ _ _ _ _ _ _ _ _ _ _ d_law_possible hr (by omega) rfl (@za _ _ _ _ _ (@pv _ 0 _ _ (by rfl) (by walk_at "v") (by decide) (by decide)) (@za _ _ _ _ _ (@pv _ 4 _ _ (by rfl) (by walk_at "v") (by decide) (by decide)) (@za _ _ _ _ _ (@pv _ 2 _ _ (by rfl) (by walk_at "v") (by decide) (by decide)) (@zc _) (by rfl)) (by rfl)) (by rfl)) (by decide) (by rfl) (by rfl)) (by rfl) (by walk_at "f")) (@ze _ _ _ _ _ (@zv _ _ 6 _ _ _ _ zK.nd rfl (Or.inl rfl) (@qf _ _ _ _ (@zc _)) (by rfl) (by walk_at "f")) (@ze _ _ _ _ _ (@qP _ _ _ _ _ _ _ _ PassesOwn.never rfl (@zH _ K _ _ _ (@pv _ 3 _ _ (by rfl) (by walk_at "v") (by decide) (by decide)) (by rfl)) (@zk _ _ 7 _ zK.nd rfl (Or.inr rfl) (by walk_at "f")) (@zi _ _ _ (@zv _ _ 6 _ _ _ _ zK.nd rfl (Or.inl rfl) (@zP _ _ _ _ _ _ _ _ (@Jv _) (@pv _ 6 _ _ (by rfl) (by walk_at "v") (by decide) (by decide)) (@zW _ ["_law_one", "_law_place", "_law_table"] [none, some 7, some 0] _ _ _ _ _ _ _ _ _ _ (by exact (show zN ["_law_table", "_law_saying", "_law_sets", "_law_places", "_law_part", "_law_ones", "_law_more", "_law_place", "_law_cells_here"] (zf zU) ["_law_one", "_law_place", "_law_table"] [none, some 7, some 0] _ from ⟨rfl, by decide +kernel, by decide +kernel, by decide +kernel, by decide +kernel, rfl, by decide +kernel⟩)) rfl (@zH _ K _ _ _ (@pv _ 5 _ _ (by rfl) (by walk_at "v") (by decide) (by decide)) (by rfl)) (fun _ _ _ _ => (@zk _ _ 0 _ nd0 rfl (Or.inl rfl) (by walk_at "f"))) (fun _ _ _ _ => (@qG _)) (fun _ _ _ _ => (@zP _ _ _ _ _ _ _ _ (@jg _) (@zP _ _ _ _ _ _ _ _ (@Zb _) (@pv _ 1 _ _ (by rfl) (by walk_at "v") (by decide) (by decide)) (@zC _ _ _ _ _ _ _ (@zj _ K (by rfl)) (@pv _ 2 _ _ (by rfl) (by walk_at "v") (by decide) (by decide)) (@zh _ _ _ _) (fun _ _ => rfl))) (@pv _ 0 _ _ (by rfl) (by walk_at "v") (by decide) (by decide)))) (by intro _; rfl))) (by rfl) (by walk_at "f"))) (by intro _; rfl)) (@zi _ _ _ (@zv _ _ 3 _ _ _ _ zK.nd rfl (Or.inl rfl) (@pv _ 6 _ _ (by rfl) (by walk_at "v") (by decide) (by decide)) (by rfl) (by walk_at "f")))))) (by intro _; rfl)) (@ze _ _ _ _ _ (@zv _ _ 8 _ _ _ _ zK.nd rfl (Or.inr rfl) (@zq _ _ _ _ _ _ _ _ _ _ _ d_law_cells_of hr (by omega) rfl (@za _ _ _ _ _ (@pv _ 0 _ _ (by rfl) (by walk_at "v") (by decide) (by decide)) (@za _ _ _ _ _ (@pv _ 1 _ _ (by rfl) (by walk_at "v") (by decide) (by decide)) (@zc _) (by rfl)) (by rfl)) (by decide) (by rfl) (by rfl)) (by rfl) (by walk_at "f")) (@zi _ _ _ (@zy _ _ _ _ (@zo _ _ _ _ _ _ _ _ _ (@Z8 _ rfl) rfl gb.sorted ZZ (@za _ _ _ _ _ (@zG _ _ _ _ _ _ _ _ _ (@JN _ K rfl (by rfl)) rfl gb.set ym (@za _ _ _ _ _ (@zW _ ["_law_place", "_law_cells_here"] [none, some 8] _ _ _ _ _ _ _ _ _ _ (by exact (show zN ["_law_table", "_law_saying", "_law_sets", "_law_places", "_law_part", "_law_ones", "_law_more", "_law_place", "_law_cells_here"] (zf zU) ["_law_place", "_law_cells_here"] [none, some 8] _ from ⟨rfl, by decide +kernel, by decide +kernel, by decide +kernel, by decide +kernel, rfl, by decide +kernel⟩)) rfl (@zH _ K _ _ _ (@pv _ 3 _ _ (by rfl) (by walk_at "v") (by decide) (by decide)) (by rfl)) (fun _ _ _ _ => (@zk _ _ 0 _ nd1 rfl (Or.inl rfl) (by walk_at "f"))) (fun _ _ _ _ => (@qG _)) (fun _ _ _ _ => (@zC _ _ _ _ _ _ _ (@zj _ K (by rfl)) (@pv _ 1 _ _ (by rfl) (by walk_at "v") (by decide) (by decide)) (@pv _ 0 _ _ (by rfl) (by walk_at "v") (by decide) (by decide)) (fun _ _ => rfl))) (by intro _; rfl)) (@zc _) (by rfl)) (by decide) (by decide) (by rfl) (by rfl)) (@zc _) (by rfl)) (by decide) (by decide) (by rfl) (by rfl)))))))), ?_⟩
 have m9 := gT.m9
 have m1 := gT.m1
 obtain ⟨a, w0, c0, vs0, rfl, h1, h2, h3, h4⟩ := id tb
 cases hs : s.isL with
 | true =>
  have ev := ih.letter hs
  refine ⟨_, rfl, _, _, _, true, rfl, by rw [ev]; exact .str _, qI "str", _, rfl, WE ?_⟩
  obtain ⟨kvs, hk, hP⟩ := id hg
  have hv := setl_val hP s.nm
  refine ⟨_, rfl, g, rfl, .inl ⟨kvs, .inl hk⟩, _, rfl, _, rfl, .inr (.inl ⟨a, _, 0, _, rfl, rfl, SqT.of h1, rfl, (T.m : Int), rfl, fun p hp => ?_⟩)⟩
  have n1 := zg hp (.rng 0 (T.m : Int))
  refine ⟨p, (T.m : Int), rfl, zd, by omega, by omega, fun l hl => ?_⟩
  rw [Int.toNat_natCast]
  have n2 := zg hl (.lst ((List.range T.m).map fun (i : Nat) => V.int (i : Int)))
  have S2 := n1.trans n2
  have hgd : WA (upd (upd H p (.rng 0 (T.m : Int))) l (.lst ((List.range T.m).map fun (i : Nat) => V.int (i : Int)))) g sv (jE kvs (Sum.inr s.nm)) := .inl ⟨kvs, Sum.inr s.nm, .inl (S2 _ _ hk), ev, rfl⟩
  cases hlk : ls.lookup s.nm with
  | some o =>
   rw [hlk] at hv
   obtain ⟨u, e1, e2⟩ := hv
   rw [e1] at hgd
   refine ⟨_, hgd, q u [o] _ S2 (S2 _ _ e2) (fun y => ?_) (show 1 <= 9 by decide)⟩
   rw [Zx hs, hlk, List.mem_singleton]
  | none =>
   rw [hlk] at hv
   have hv : jE kvs (Sum.inr s.nm) = none := hv
   rw [hv] at hgd
   refine ⟨_, hgd, q l (List.range T.m) _ S2 zd (fun y => ?_) (by rw [List.length_range]; exact m9)⟩
   rw [Zx hs, hlk, List.mem_range]
 | false =>
  obtain ⟨t, us, ev, ht, hP⟩ := ih.node hs
  obtain ⟨⟨c, hcm, cn, cp⟩, gps⟩ := gs.node hs
  have hul := Paired.length hP
  have a2 := Sy.ps_le s
  rw [ev]
  refine ⟨_, rfl, _, _, _, false, rfl, .tup ht, QS (K := K) (.tup []), _, rfl, ZU ?_⟩
  refine ⟨zu (by show 1 <= 1000; decide), fun r0 hr0 => ?_⟩
  have n1 := zg hr0 (.lst [.int 0])
  refine ⟨_, rfl, _, rfl, ?_⟩
  refine JR (n1 _ _ ht) fun t2 H2 s2 ht2 => ?_
  rw [jY (by simp)] at ht2
  refine ⟨t2, rfl, ⟨_, SqT.of ht2⟩, ?_⟩
  have S2 := n1.trans s2
  refine JU (xs := us) (fun i σ H' => (∃ (l : Addr) (P : List Nat) (x4 x5 x6 x7 : Option V), σ = [some (.ref a), some (.ref t), some (.ref g), some (.ref l), x4, x5, x6, x7, none] /\ H' l = some (.lst (P.map nV)) /\ P.length <= 9 ^ i /\ ∀ y, y ∈ P ↔ ∃ r, Yx T ls (s.ps.take i) r /\ y = Tn.place T.m r) /\ zF H2 H') ⟨⟨r0, [0], _, _, _, _, rfl, s2 _ _ zd, by decide, fun y => ?_⟩, zF.refl _⟩ (fun i σ H' _ h => SqT.of (h.2 _ _ ht2)) ?_ ?_
  ·rw [List.mem_singleton]
   constructor
   ·rintro rfl
    exact ⟨[], .nil, rfl⟩
   ·rintro ⟨r, h, e⟩
    cases h
    exact e
  ·rintro i x σ H3 hx ⟨⟨l, P, x4, x5, x6, x7, rfl, hl, hpl, hm⟩, s3⟩
   have hi : i < us.length := (List.getElem?_eq_some_iff.mp hx).1
   have ha : s.ps[i]? = some s.ps[i] := List.getElem?_eq_getElem (by omega)
   generalize s.ps[i] = b at ha
   have hib := Paired.at hP i _ _ ha hx
   have hbm := List.mem_of_getElem? ha
   have hdb := Sy.dp_lt hbm
   have S3 := S2.trans s3
   have p9 : P.length <= 9 := by
    have : i = 0 \/ i = 1 := by omega
    rcases this with h | h <;> rw [h] at hpl <;> omega
   match j, hj, d_law_possible with
   | 0, hj, _ => exact absurd hj (by omega)
   | j + 1, hj, _ =>
   refine ⟨_, rfl, _, rfl, _, rfl, .ref a, x, g, b, T, L, ls, rfl, tb.same S3, gT, nT, hib.same S3, gps b hbm, hg.same S3, hlt, by omega, fun l4 G H4 s4 h4 hG g9 => ?_⟩
   refine ⟨zu (by show 0 <= 1000; decide), fun lm hlm => ?_⟩
   have n5 := zg hlm (.lst [])
   have hl4 := s4 _ _ hl
   have h14 := (S3.trans s4) _ _ h1
   refine ⟨_, rfl, l, rfl, ⟨_, SqL.of (n5 _ _ hl4)⟩, ?_⟩
   refine jm (xs := P.map nV) (fun k σ H' => (∃ lm x7, σ = [some (.ref a), some (.ref t), some (.ref g), some (.ref l), some x, some (.ref l4), some (.ref lm), x7, none] /\ H' lm = some (.lst (((P.take k).flatMap fun p => G.map fun o => p * T.m + o).map nV))) /\ zF H4 H') ⟨⟨lm, _, rfl, zd⟩, n5⟩ (fun k σ H' _ h => SqL.of (h.2 _ _ hl4)) ?_ ?_
   ·rintro k y σ H5 hy ⟨⟨lm, x7, rfl, hlm5⟩, s5⟩
    rw [List.getElem?_map] at hy
    obtain ⟨p, hp, rfl⟩ := Option.map_eq_some_iff.mp hy
    have hk := (List.getElem?_eq_some_iff.mp hp).1
    have fl : ((P.take k).flatMap fun p => G.map fun o => p * T.m + o).length <= 81 := by
     rw [Tn.flat_len _ G.length (fun x => by rw [List.length_map]), List.length_take]
     exact Nat.le_trans (Nat.mul_le_mul (show min k P.length <= 9 by omega) g9) (by decide)
    refine ⟨_, rfl, _, rfl, l4, rfl, ⟨_, SqL.of (s5 _ _ h4)⟩, fun D hD => ?_⟩
    refine jz (xs := G.map nV) (fun q' ys H' => zF H5 H' /\ ys = ((G.take q').map fun o => p * T.m + o).map nV) ⟨zg hD _, rfl⟩ (fun q' ys H' h _ => SqL.of (h.1 _ _ (s5 _ _ h4))) ?_ ?_
    ·rintro q' ys H6 z hz ⟨s6, rfl⟩ hD6
     have hq := (List.getElem?_eq_some_iff.mp hz).1
     have hq' := hq
     rw [List.length_map] at hq'
     rw [List.getElem?_map] at hz
     obtain ⟨o, ho, rfl⟩ := Option.map_eq_some_iff.mp hz
     refine yes ⟨_, rfl, _, rfl, .inr (.inl ⟨a, _, 0, _, rfl, rfl, SqT.of ((s5.trans s6) _ _ h14), rfl, _, _, rfl, rfl, .inr ⟨by omega, by omega⟩, _, rfl, _, _, rfl, rfl, ?_⟩)⟩
     refine wA hq jU hD6 (by rw [List.length_map, List.length_map, List.length_take]; exact zr (by omega)) ⟨s6.put hD, ?_⟩
     rw [take_snoc ho, List.map_append, List.map_append]
     have e : V.int (((p : Nat) : Int) * ((T.m : Nat) : Int) + ((o : Nat) : Int)) = nV (p * T.m + o) := by
      show V.int _ = V.int _
      rw [Int.natCast_add, Int.natCast_mul]
     exact congrArg (fun v => (((G.take q').map fun o => p * T.m + o).map nV) ++ [v]) e
    ·rintro ys H6 ⟨s6, rfl⟩ hD6
     rw [List.length_map, List.take_length] at hD6
     refine ⟨lm, D, _, _, rfl, rfl, s6 _ _ hlm5, hD6, by rw [List.length_map, List.length_map, List.length_map]; exact zu (by omega), fun l7 hl7 => ?_⟩
     refine ⟨⟨l7, _, rfl, ?_⟩, s5.trans (s6.trans (zg hl7 _))⟩
     rw [zd, take_snoc hp, List.flatMap_append, List.map_append]
     simp
   ·rintro σ H5 ⟨⟨lm, x7, rfl, hlm5⟩, s5⟩
    rw [List.length_map, List.take_length] at hlm5
    refine ⟨_, rfl, ⟨lm, _, _, _, _, _, rfl, hlm5, ?_, fun y => ?_⟩, s3.trans (s4.trans s5)⟩
    ·rw [Tn.flat_len _ G.length (fun x => by rw [List.length_map]), Nat.pow_succ]
     exact Nat.mul_le_mul hpl g9
    ·rw [List.mem_flatMap, take_snoc ha]
     constructor
     ·rintro ⟨p, hp, hy⟩
      obtain ⟨o, ho, rfl⟩ := List.mem_map.mp hy
      obtain ⟨r, hr', rfl⟩ := (hm p).mp hp
      exact ⟨r ++ [o], Wi hr' ((hG o).mp ho), (Tn.place_snoc _ _ _).symm⟩
     ·rintro ⟨r, hr', rfl⟩
      obtain ⟨r', o, rfl, h1, h2⟩ := Zl hr'
      exact ⟨Tn.place T.m r', (hm _).mpr ⟨r', h1, rfl⟩, List.mem_map.mpr ⟨o, (hG o).mpr h2, (Tn.place_snoc _ _ _).symm⟩⟩
  ·rintro σ H3 ⟨⟨l, P, x4, x5, x6, x7, rfl, hl, hpl, hm⟩, s3⟩
   rw [<- hul, List.take_length] at hm
   have p81 : P.length <= 81 := by
    have : us.length = 0 \/ us.length = 1 \/ us.length = 2 := by omega
    rcases this with h | h | h <;> rw [h] at hpl <;> omega
   have S3 := S2.trans s3
   refine ⟨_, rfl, _, rfl, .ref a, t, s, us, T, L, rfl, tb.same S3, gT, nT, S3 _ _ ht, gs, hs, fun u c' H4 s4 hc' cn' cp' hu => ?_⟩
   have pw : ∀ r, Yx T ls s.ps r -> Tn.place T.m r < c'.cs.length /\ Tn.at' c'.cs (Tn.place T.m r) = L4.cellOf T s.nm r /\ Tn.at' c'.cs (Tn.place T.m r) < T.m := fun r hr' => by
    have rw' := Xg gT nT hlt hr' gps
    rw [<- cp'] at rw'
    obtain ⟨_, _, c3⟩ := gT.cn c' hc'
    have pl := Tn.place_lt _ _ rw'
    refine ⟨by rw [c3.len]; exact pl, ?_, c3.at_lt pl⟩
    unfold L4.cellOf
    rw [<- cn', QH nT hc']
   refine ⟨_, rfl, l, rfl, ⟨_, SqL.of (s4 _ _ hl)⟩, fun D hD => ?_⟩
   refine jo P nV (fun p => nV (Tn.at' c'.cs p)) (s4 _ _ hl) (by omega) hD (fun z hz H' Q' s2 q' => ?_) (fun H5 s5 hD5 => ?_)
   ·obtain ⟨r, hr', rfl⟩ := (hm z).mp hz
    exact ⟨_, rfl, _, rfl, .inr (.inl ⟨u, _, _, _, rfl, rfl, SqT.of (s2 _ _ hu), at_nV (pw r hr').1, q' H' zF.rfl'⟩)⟩
   ·rw [show (P.map fun p => nV (Tn.at' c'.cs p)) = (P.map (Tn.at' c'.cs)).map nV by rw [List.map_map]; rfl] at hD5
    have all9 : ∀ y ∈ P.map (Tn.at' c'.cs), y < T.m := fun y hy => by
     obtain ⟨p, hp, rfl⟩ := List.mem_map.mp hy
     obtain ⟨r, hr', rfl⟩ := (hm p).mp hp
     exact (pw r hr').2.2
    refine ⟨D, _, rfl, SqL.of hD5, (fun y hy => Nat.lt_of_lt_of_le (all9 y hy) m9), fun sa ds hsa nd hds => ?_⟩
    refine ⟨sa, ds, rfl, zd, fun k ms hk' pm so => q k ms _ (S3.trans (s4.trans (s5.trans ((zg hsa _).trans (zg hk' _))))) zd (fun y => ?_) ?_⟩
    ·rw [pm.mem_iff, hds, yA hs]
     constructor
     ·intro hy
      obtain ⟨p, hp, rfl⟩ := List.mem_map.mp hy
      obtain ⟨r, hr', rfl⟩ := (hm p).mp hp
      exact ⟨r, hr', (pw r hr').2.1⟩
     ·rintro ⟨r, hr', rfl⟩
      exact List.mem_map.mpr ⟨_, (hm _).mpr ⟨r, hr', rfl⟩, (pw r hr').2.1⟩
    ·have := Tn.nodup_len T.m ms (pm.nodup_iff.mpr nd) fun y hy => all9 y ((hds y).mp (pm.mem_iff.mp hy))
     omega
abbrev qy : Stmt := top 38
theorem Zr : zD ["_law_tree", "_law_table", "_law_premises", "_law_saying", "_law_sets", "_law_one", "_law_more"] ["_law_tree", "_law_table", "_law_premises", "_law_saying", "_law_sets"] (zf qy) := ⟨rfl, rfl, rfl, by decide +kernel, rfl, by decide +kernel, by decide +kernel⟩
theorem Ww {P : Program} {w : World} {K : PySem.W.Frag} {mg : Str -> Option Value} {base : Heap} {f : Addr} {fd : FuncData} (F : Fun K "_law_shows" "_law_shows" qy f fd) (gb : Gb mg) (d_law_possible : Def P w K mg base 18 "_law_possible" ["_law_table", "_law_saying", "_law_sets"] (wt 12)) (j : Nat) (d_law_shows : Def P w K mg base (20 + j) "_law_shows" ["_law_tree", "_law_table", "_law_premises", "_law_saying", "_law_sets"] (wv j)) : jT P w K mg base CX0 (20 + j + 1) f fd ["_law_tree", "_law_table", "_law_premises", "_law_saying", "_law_sets"] (wv (j + 1)) := by
 refine F.ok Zr (fun vs H Q E h => ?_) (fun cdv A outer s H vs Q E hr h => ?_)
 ·obtain ⟨tv, v, pl, sv, g, T, L, ps, S, ls, rfl, _⟩ := h
  rfl
 obtain ⟨tv, v, pl, sv, g, T, L, ps, S, ls, rfl, ak, sh, hg, hlt, hj, q⟩ := h
 have nd0 : (["_law_some", "_law_table", "_law_sets"] : List Str).Nodup := by decide +kernel
 have nd1 : (["_law_one", "_law_table"] : List Str).Nodup := by decide +kernel
 have nd2 : (["_law_one", "_law_table"] : List Str).Nodup := by decide +kernel
 refine ⟨_, (@ze _ _ _ _ _ (@qR _ _ _ _ _ _ _ _ (@jR _ _ _ _ (@qF _ _ _ (@zo _ _ _ _ _ _ _ _ _ (@qc _ K (by rfl)) rfl gb.isinstance zJ (@za _ _ _ _ _ (@pv _ 0 _ _ (by rfl) (by walk_at "v") (by decide) (by decide)) (@za _ _ _ _ _ (@jt _ _ (.ty "tuple") _ _ rfl gb.tuple jJ rfl (by decide) (by decide)) (@zc _) (by rfl)) (by rfl)) (by decide) (by decide) (by rfl) (by rfl)) (by intro _; rfl))) (@zi _ _ _ (@zy _ _ _ _ (@Qg _ _ _ _))) (@zI _)) (@ze _ _ _ _ _ (@qR _ _ _ _ _ _ _ _ (@zL _ _ _ _ _ _ _ _ (@op_eqCl _ _ hr) (@pv _ 0 _ _ (by rfl) (by walk_at "v") (by decide) (by decide)) (@qU _ _ _ _ _ (@za _ _ _ _ _ (@qO _ _ _ _) (@zc _) (by rfl))) (@qm _ _ (by decide) (by decide))) (@ze _ _ _ _ _ (@qR _ _ _ _ _ _ _ _ (@jR _ _ _ _ (@qF _ _ _ (@zo _ _ _ _ _ _ _ _ _ (@Ze _ K rfl (by rfl)) rfl gb.all wR (@za _ _ _ _ _ (@zW _ ["_law_some", "_law_table", "_law_sets"] [none, some 1, some 4] _ _ _ _ _ _ _ _ _ _ (by exact (show zN ["_law_tree", "_law_table", "_law_premises", "_law_saying", "_law_sets", "_law_one", "_law_more"] (zf qy) ["_law_some", "_law_table", "_law_sets"] [none, some 1, some 4] _ from ⟨rfl, by decide +kernel, by decide +kernel, by decide +kernel, by decide +kernel, rfl, by decide +kernel⟩)) rfl (@zH _ K _ _ _ (@pv _ 2 _ _ (by rfl) (by walk_at "v") (by decide) (by decide)) (by rfl)) (fun _ _ _ _ => (@zk _ _ 0 _ nd0 rfl (Or.inl rfl) (by walk_at "f"))) (fun _ _ _ _ => (@qG _)) (fun _ _ _ _ => (@zo _ _ _ _ _ _ _ _ _ (@Q4 _ K rfl (by rfl)) rfl gb.any xK (@za _ _ _ _ _ (@zW _ ["_law_one", "_law_table"] [none, some 1] _ _ _ _ _ _ _ _ _ _ (by exact (Xa (show xZ ["_law_some", "_law_table", "_law_sets"] _ ["_law_one", "_law_table"] [none, some 1] _ from ⟨rfl, by decide +kernel, by decide +kernel, by decide +kernel, by decide +kernel, rfl, by decide +kernel⟩))) rfl (@zH _ K _ _ _ (@zq _ _ _ _ _ _ _ _ _ _ _ d_law_possible hr (by omega) rfl (@za _ _ _ _ _ (@pv _ 1 _ _ (by rfl) (by walk_at "v") (by decide) (by decide)) (@za _ _ _ _ _ (@pv _ 0 _ _ (by rfl) (by walk_at "v") (by decide) (by decide)) (@za _ _ _ _ _ (@pv _ 2 _ _ (by rfl) (by walk_at "v") (by decide) (by decide)) (@zc _) (by rfl)) (by rfl)) (by rfl)) (by decide) (by rfl) (by rfl)) (by rfl)) (fun _ _ _ _ => (@zk _ _ 0 _ nd1 rfl (Or.inl rfl) (by walk_at "f"))) (fun _ _ _ _ => (@qG _)) (fun _ _ _ _ => (@j3 _ _ _ _ _ _ _ _ (@jp _ K (by rfl)) (@pv _ 0 _ _ (by rfl) (by walk_at "v") (by decide) (by decide)) (@zC _ _ _ _ _ _ _ (@zj _ K (by rfl)) (@pv _ 1 _ _ (by rfl) (by walk_at "v") (by decide) (by decide)) (@zh _ _ _ _) (fun _ _ => rfl)) (by with_unfolding_all rfl))) (by intro _; rfl)) (@zc _) (by rfl)) (by decide) (by decide) (by rfl) (by rfl))) (by intro _; rfl)) (@zc _) (by rfl)) (by decide) (by decide) (by rfl) (by rfl)) (by intro _; rfl))) (@zi _ _ _ (@zy _ _ _ _ (@Qg _ _ _ _))) (@zI _)) (@zi _ _ _ (@zy _ _ _ _ (@zo _ _ _ _ _ _ _ _ _ (@Ze _ K rfl (by rfl)) rfl gb.all wR (@za _ _ _ _ _ (@zW _ ["_law_one", "_law_table"] [none, some 1] _ _ _ _ _ _ _ _ _ _ (by exact (show zN ["_law_tree", "_law_table", "_law_premises", "_law_saying", "_law_sets", "_law_one", "_law_more"] (zf qy) ["_law_one", "_law_table"] [none, some 1] _ from ⟨rfl, by decide +kernel, by decide +kernel, by decide +kernel, by decide +kernel, rfl, by decide +kernel⟩)) rfl (@zH _ K _ _ _ (@zq _ _ _ _ _ _ _ _ _ _ _ d_law_possible hr (by omega) rfl (@za _ _ _ _ _ (@pv _ 1 _ _ (by rfl) (by walk_at "v") (by decide) (by decide)) (@za _ _ _ _ _ (@pv _ 3 _ _ (by rfl) (by walk_at "v") (by decide) (by decide)) (@za _ _ _ _ _ (@pv _ 4 _ _ (by rfl) (by walk_at "v") (by decide) (by decide)) (@zc _) (by rfl)) (by rfl)) (by rfl)) (by decide) (by rfl) (by rfl)) (by rfl)) (fun _ _ _ _ => (@zk _ _ 0 _ nd2 rfl (Or.inl rfl) (by walk_at "f"))) (fun _ _ _ _ => (@qG _)) (fun _ _ _ _ => (@j3 _ _ _ _ _ _ _ _ (@jp _ K (by rfl)) (@pv _ 0 _ _ (by rfl) (by walk_at "v") (by decide) (by decide)) (@zC _ _ _ _ _ _ _ (@zj _ K (by rfl)) (@pv _ 1 _ _ (by rfl) (by walk_at "v") (by decide) (by decide)) (@zh _ _ _ _) (fun _ _ => rfl)) (by with_unfolding_all rfl))) (by intro _; rfl)) (@zc _) (by rfl)) (by decide) (by decide) (by rfl) (by rfl))))) (@zI _)) (@ze _ _ _ _ _ (@qR _ _ _ _ _ _ _ _ (@PW.pt _ _ _ (@Jk _ _ _ _ _ _ _ (@zL _ _ _ _ _ _ _ _ (@yO _) (@zo _ _ _ _ _ _ _ _ _ (@zY _ K (by rfl)) rfl gb.len jl (@za _ _ _ _ _ (@pv _ 0 _ _ (by rfl) (by walk_at "v") (by decide) (by decide)) (@zc _) (by rfl)) (by decide) (by decide) (by rfl) (by rfl)) (@zh _ _ _ _) (@qm _ _ (by decide) (by decide))) (@Jk _ _ _ _ _ _ _ (@zL _ _ _ _ _ _ _ _ (@yO _) (@zC _ _ _ _ _ _ _ (@zj _ K (by rfl)) (@pv _ 0 _ _ (by rfl) (by walk_at "v") (by decide) (by decide)) (@zh _ _ _ _) (fun _ _ => rfl)) (@qO _ _ _ _) (@qm _ _ (by decide) (by decide))) (@Jk _ _ _ _ _ _ _ (@jR _ _ _ _ (@qF _ _ _ (@zo _ _ _ _ _ _ _ _ _ (@qc _ K (by rfl)) rfl gb.isinstance zJ (@za _ _ _ _ _ (@zC _ _ _ _ _ _ _ (@zj _ K (by rfl)) (@pv _ 0 _ _ (by rfl) (by walk_at "v") (by decide) (by decide)) (@zh _ _ _ _) (fun _ _ => rfl)) (@za _ _ _ _ _ (@jt _ _ (.ty "str") _ _ rfl gb.str Jz rfl (by decide) (by decide)) (@zc _) (by rfl)) (by rfl)) (by decide) (by decide) (by rfl) (by rfl)) (by intro _; rfl))) (@Jt _ _ _ _ (@jR _ _ _ _ (@qF _ _ _ (@zo _ _ _ _ _ _ _ _ _ (@qc _ K (by rfl)) rfl gb.isinstance zJ (@za _ _ _ _ _ (@zC _ _ _ _ _ _ _ (@zj _ K (by rfl)) (@pv _ 0 _ _ (by rfl) (by walk_at "v") (by decide) (by decide)) (@zh _ _ _ _) (fun _ _ => rfl)) (@za _ _ _ _ _ (@jt _ _ (.ty "tuple") _ _ rfl gb.tuple jJ rfl (by decide) (by decide)) (@zc _) (by rfl)) (by rfl)) (by decide) (by decide) (by rfl) (by rfl)) (by intro _; rfl)))))))) (@zi _ _ _ (@zy _ _ _ _ (@Qg _ _ _ _))) (@zI _)) (@ze _ _ _ _ _ (@qR _ _ _ _ _ _ _ _ (@PW.pt _ _ _ (@Jk _ _ _ _ _ _ _ (@zL _ _ _ _ _ _ _ _ (@yO _) (@zo _ _ _ _ _ _ _ _ _ (@zY _ K (by rfl)) rfl gb.len jl (@za _ _ _ _ _ (@zC _ _ _ _ _ _ _ (@zj _ K (by rfl)) (@pv _ 0 _ _ (by rfl) (by walk_at "v") (by decide) (by decide)) (@zh _ _ _ _) (fun _ _ => rfl)) (@zc _) (by rfl)) (by decide) (by decide) (by rfl) (by rfl)) (@zh _ _ _ _) (@qm _ _ (by decide) (by decide))) (@Jk _ _ _ _ _ _ _ (@zL _ _ _ _ _ _ _ _ (@wN _) (@zC _ _ _ _ _ _ _ (@zj _ K (by rfl)) (@pv _ 0 _ _ (by rfl) (by walk_at "v") (by decide) (by decide)) (@zh _ _ _ _) (fun _ _ => rfl)) (@qO _ _ _ _) (by with_unfolding_all rfl)) (@Jt _ _ _ _ (@zL _ _ _ _ _ _ _ _ (@yO _) (@zo _ _ _ _ _ _ _ _ _ (@zY _ K (by rfl)) rfl gb.len jl (@za _ _ _ _ _ (@zC _ _ _ _ _ _ _ (@zj _ K (by rfl)) (@pv _ 0 _ _ (by rfl) (by walk_at "v") (by decide) (by decide)) (@zh _ _ _ _) (fun _ _ => rfl)) (@zc _) (by rfl)) (by decide) (by decide) (by rfl) (by rfl)) (@zC _ _ _ _ _ _ _ (@zj _ K (by rfl)) (@pv _ 1 _ _ (by rfl) (by walk_at "v") (by decide) (by decide)) (@zh _ _ _ _) (fun _ _ => rfl)) (@qm _ _ (by decide) (by decide))))))) (@zi _ _ _ (@zy _ _ _ _ (@Qg _ _ _ _))) (@zI _)) (@ze _ _ _ _ _ (@qP _ _ _ _ _ _ _ _ PassesOwn.never rfl (@ql _ _ _ _ _ _ rfl gb.range (@za _ _ _ _ _ (@zC _ _ _ _ _ _ _ (@zj _ K (by rfl)) (@pv _ 1 _ _ (by rfl) (by walk_at "v") (by decide) (by decide)) (@zh _ _ _ _) (fun _ _ => rfl)) (@zc _) (by rfl)) (by rfl)) (@zk _ _ 5 _ Zr.nd rfl (Or.inl rfl) (by walk_at "f")) (@ze _ _ _ _ _ (@zv _ _ 6 _ _ _ _ Zr.nd rfl (Or.inl rfl) (@zG _ _ _ _ _ _ _ _ _ (@Ql _) rfl gb.dict Qk (@za _ _ _ _ _ (@pv _ 4 _ _ (by rfl) (by walk_at "v") (by decide) (by decide)) (@zc _) (by rfl)) (by decide) (by decide) (by rfl) (by rfl)) (by rfl) (by walk_at "f")) (@ze _ _ _ _ _ (@J8 _ _ _ _ _ _ _ _ _ _ hr (@pv _ 6 _ _ (by rfl) (by walk_at "v") (by decide) (by decide)) (@zC _ _ _ _ _ _ _ (@zj _ K (by rfl)) (@pv _ 0 _ _ (by rfl) (by walk_at "v") (by decide) (by decide)) (@zh _ _ _ _) (fun _ _ => rfl)) (@qf _ _ _ _ (@za _ _ _ _ _ (@pv _ 5 _ _ (by rfl) (by walk_at "v") (by decide) (by decide)) (@zc _) (by rfl))) rfl) (@zi _ _ _ (@qR _ _ _ _ _ _ _ _ (@jR _ _ _ _ (@qF _ _ _ (@zq _ _ _ _ _ _ _ _ _ _ _ d_law_shows hr (by omega) rfl (@za _ _ _ _ _ (@zC _ _ _ _ _ _ _ (@zj _ K (by rfl)) (@zC _ _ _ _ _ _ _ (@zj _ K (by rfl)) (@pv _ 0 _ _ (by rfl) (by walk_at "v") (by decide) (by decide)) (@zh _ _ _ _) (fun _ _ => rfl)) (@pv _ 5 _ _ (by rfl) (by walk_at "v") (by decide) (by decide)) (fun _ _ => rfl)) (@za _ _ _ _ _ (@pv _ 1 _ _ (by rfl) (by walk_at "v") (by decide) (by decide)) (@za _ _ _ _ _ (@pv _ 2 _ _ (by rfl) (by walk_at "v") (by decide) (by decide)) (@za _ _ _ _ _ (@pv _ 3 _ _ (by rfl) (by walk_at "v") (by decide) (by decide)) (@za _ _ _ _ _ (@pv _ 6 _ _ (by rfl) (by walk_at "v") (by decide) (by decide)) (@zc _) (by rfl)) (by rfl)) (by rfl)) (by rfl)) (by rfl)) (by decide) (by rfl) (by rfl)) (by intro _; rfl))) (@zi _ _ _ (@zy _ _ _ _ (@Qg _ _ _ _))) (@zI _))))) (by intro _; rfl)) (@zi _ _ _ (@zy _ _ _ _ (@Qg _ _ _ _)))))))), ?_⟩
 obtain ⟨a, w0, c0, vs0, rfl, h1, h2, h3, h4⟩ := id ak.tb
 rcases sh.cases with ⟨t, rfl, ht, clo⟩ | ⟨j', rfl, t, u, x, vs, rfl, ht, hu, lx, hx, vl, hsub⟩
 ·refine ⟨_, rfl, _, _, _, true, rfl, .tup ht, qI "tuple", _, rfl, ZU ?_⟩
  refine ⟨_, rfl, zu (by show 1 <= 1000; decide), fun t2 ht2 => ?_⟩
  have n2 := zg ht2 (.tup [.str "closed"])
  refine ⟨t, t2, _, _, [], rfl, rfl, n2 _ _ ht, zd, ?_⟩
  refine ⟨_, rfl, iteP (by simp) ?_⟩
  refine ⟨_, rfl, pl, rfl, ⟨_, SqL.of (n2 _ _ ak.hp)⟩, fun D hD => ?_⟩
  refine jo ps Prod.fst (fun z => .bl (anyB T ls z.2)) (n2 _ _ ak.hp) (by have := ak.pn; omega) hD (fun z hz H' Q' s1 q' => ?_) (fun H1 s1 hD1 => ?_)
  ·obtain ⟨gz, dz, _, iz⟩ := ak.ps z hz
   have S1 := n2.trans s1
   refine ⟨_, rfl, _, rfl, _, rfl, .ref a, z.1, g, z.2, T, L, ls, rfl, ak.tb.same S1, ak.gt, ak.nd, iz.same S1, gz, hg.same S1, hlt, (show _ <= 11 by omega), fun l G H2 s2 hl hx x9 => ?_⟩
   refine ⟨l, rfl, ⟨_, SqL.of hl⟩, fun D' hD' => ?_⟩
   refine jo G nV (fun y => .bl (decide (y ∈ T.ws))) hl (by omega) hD' (fun y hy H' Q'' s3 q'' => ?_) (fun H3 s3 hD3 => ?_)
   ·have S3 := S1.trans (s2.trans s3)
    refine ⟨_, rfl, _, rfl, .inr (.inl ⟨a, _, 1, _, rfl, rfl, SqT.of (S3 _ _ h1), rfl, w0, _, rfl, .inr (SqT.of (S3 _ _ h2)), rfl, jB _, ?_⟩)⟩
    have q2 := q'' H' zF.rfl'
    rw [<- Qp] at q2
    exact q2
   rw [Ja] at hD3
   refine ⟨D', _, rfl, SqL.of hD3, ?_⟩
   rw [any_eq hx]
   exact q' H3 (s2.trans s3)
  rw [Ja] at hD1
  refine ⟨D, _, rfl, SqL.of hD1, _, rfl, ?_⟩
  have S1 := n2.trans s1
  cases hal : (ps.map fun z => anyB T ls z.2).all id with
  | false => exact q H1 S1
  | true =>
   have cS : ∀ y, Jj T ls S y -> y ∈ T.ws := by
    rcases clo with ⟨p, hp, hn⟩ | h
    ·obtain ⟨z, hz, rfl⟩ := List.mem_map.mp hp
     have := List.all_eq_true.mp hal _ (List.mem_map.mpr ⟨z, hz, rfl⟩)
     unfold anyB at this
     obtain ⟨y, hy, hw⟩ := @of_decide_eq_true _ (Classical.propDecidable _) this
     exact absurd hw (hn y hy)
    ·exact h
   refine ⟨_, rfl, _, rfl, _, rfl, .ref a, sv, g, S, T, L, ls, rfl, ak.tb.same S1, ak.gt, ak.nd, ak.sv.same S1, ak.gs, hg.same S1, hlt, (show _ <= 11 from Nat.le_trans ak.sd (by decide)), fun l G H2 s2 hl hx x9 => ?_⟩
   refine ⟨l, rfl, ⟨_, SqL.of hl⟩, fun D' hD' => ?_⟩
   refine jo G nV (fun y => .bl (decide (y ∈ T.ws))) hl (by omega) hD' (fun y hy H' Q'' s3 q'' => ?_) (fun H3 s3 hD3 => ?_)
   ·have S3 := S1.trans (s2.trans s3)
    refine ⟨_, rfl, _, rfl, .inr (.inl ⟨a, _, 1, _, rfl, rfl, SqT.of (S3 _ _ h1), rfl, w0, _, rfl, .inr (SqT.of (S3 _ _ h2)), rfl, jB _, ?_⟩)⟩
    have q2 := q'' H' zF.rfl'
    rw [<- Qp] at q2
    exact q2
   rw [Ja] at hD3
   refine ⟨D', _, rfl, SqL.of hD3, ?_⟩
   rw [show (G.map fun y => decide (y ∈ T.ws)).all id = true from List.all_eq_true.mpr fun b hb => by
    obtain ⟨y, hy, rfl⟩ := List.mem_map.mp hb
    exact decide_eq_true (cS y ((hx y).mp hy))]
   exact q H3 (S1.trans (s2.trans s3))
 ·refine ⟨_, rfl, _, _, _, true, rfl, .tup ht, qI "tuple", _, rfl, ZU ?_⟩
  refine ⟨_, rfl, zu (by show 1 <= 1000; decide), fun t2 ht2 => ?_⟩
  have n2 := zg ht2 (.tup [.str "closed"])
  refine ⟨t, t2, _, _, _, rfl, rfl, n2 _ _ ht, zd, _, rfl, iteN (by simp) ?_⟩
  have ht' := SqT.of (K := K) (n2 _ _ ht)
  have hu' := SqT.of (K := K) (n2 _ _ hu)
  have tx : ∀ H', zF H H' -> SqT K H' t [.str "split", .str x, .ref u] := fun H' s' => SqT.of (s' _ _ ht)
  have m9 := ak.gt.m9
  refine ⟨_, rfl, _, _, rfl, .inr ⟨_, ht', rfl⟩, rfl, _, rfl, yS rfl ?_⟩
  refine ⟨_, rfl, .inr (.inl ⟨t, _, 0, _, rfl, rfl, ht', rfl, rfl, _, rfl, yS rfl ?_⟩)⟩
  refine ⟨_, rfl, .inr (.inl ⟨t, _, 1, _, rfl, rfl, ht', rfl, _, _, _, true, rfl, .str _, qI "str", _, rfl, ZU ?_⟩)⟩
  refine ⟨_, rfl, .inr (.inl ⟨t, _, 2, _, rfl, rfl, ht', rfl, _, _, _, true, rfl, .tup (n2 _ _ hu), qI "tuple", _, rfl, ZU ?_⟩)⟩
  refine ⟨_, rfl, .inr (.inl ⟨t, _, 1, _, rfl, rfl, ht', rfl, _, _, rfl, ⟨by rw [lx.1]; exact zu (by decide), rfl⟩, rfl, _, rfl, yS (by rw [lx.1]; rfl) ?_⟩)⟩
  refine ⟨_, rfl, .inr (.inl ⟨t, _, 1, _, rfl, rfl, ht', rfl, _, _, rfl, rfl, _, rfl, ?_⟩)⟩
  obtain ⟨c, ex⟩ := wu lx
  rw [show (!!(Builtin.Str.occurrences (Str.ofString "abcdefghijklmnopqrstuvwxyz") x 0 (Str.ofString "abcdefghijklmnopqrstuvwxyz").length 1).isEmpty) = false by rw [Bool.not_not, ex]; exact Xq c]
  refine ZU ?_
  refine ⟨_, rfl, .inr (.inl ⟨t, _, 2, _, rfl, rfl, ht', rfl, _, _, rfl, .inr ⟨_, hu', rfl⟩, _, rfl, .inr (.inl ⟨a, _, 0, _, rfl, rfl, SqT.of (n2 _ _ h1), rfl, rfl, _, rfl, yS (by rw [vl]) ?_⟩)⟩)⟩
  refine ⟨_, rfl, .inr (.inl ⟨a, _, 0, _, rfl, rfl, SqT.of (n2 _ _ h1), rfl, _, rfl, by omega, by omega, ?_⟩)⟩
  refine ju (fun i σ H' => (∃ x5 x6, σ = [some (.ref t), some (.ref a), some (.ref pl), some sv, some (.ref g), x5, x6]) /\ zF H H') ⟨⟨_, _, rfl⟩, n2⟩ ?_ ?_
  ·rintro o σ H3 ho ⟨⟨x5, x6, rfl⟩, s3⟩
   have ho' : o < vs.length := by omega
   have vo : vs[o]? = some vs[o] := List.getElem?_eq_getElem ho'
   generalize vs[o] = vv at vo
   obtain ⟨kvs, hk, hP⟩ := id hg
   have kl := Paired.length hP
   refine ⟨_, rfl, g, kvs, rfl, s3 _ _ hk, fun e he => ?_⟩
   have n4 := zg he (.dK kvs)
   rw [show V.int (0 + (o : Int)) = nV o by show V.int _ = V.int _; rw [Int.zero_add]]
   refine ⟨_, rfl, zu (by show 1 <= 1000; decide), fun l1 hl1 => ?_⟩
   have n5 := zg hl1 (.lst [nV o])
   have S5 := s3.trans (n4.trans n5)
   have el : l1 ≠ e := fun z => by
    rw [z, zd] at hl1
    cases hl1
   refine ⟨_, rfl, _, rfl, .inr (.inl ⟨t, _, 1, _, rfl, rfl, tx _ S5, rfl, e, kvs, Sum.inr x, rfl, rfl, n5 _ _ zd, zr (by omega), ?_⟩)⟩
   rw [setl_put hP hx]
   have S6 : zF H (upd (upd (upd H3 e (.dK kvs)) l1 (.lst [nV o])) e (.dK (kvs ++ [((Sum.inr x : Key), V.ref l1)]))) := S5.put (s3.free he)
   have sl : JS (upd (upd (upd H3 e (.dK kvs)) l1 (.lst [nV o])) e (.dK (kvs ++ [((Sum.inr x : Key), V.ref l1)]))) e (ls ++ [(x, o)]) := ⟨_, zd, W0 (Paired.imp' (fun _ _ ⟨e1, u1, e2, h⟩ => ⟨e1, u1, e2, S6 _ _ h⟩) hP) ⟨rfl, l1, rfl, by rw [zn el]; exact zd⟩⟩
   refine ⟨_, rfl, .inr (.inl ⟨t, _, 2, _, rfl, rfl, tx _ S6, rfl, _, rfl, .inr (.inl ⟨u, _, _, _, rfl, rfl, SqT.of (S6 _ _ hu), jM vo, _, rfl, _, rfl, _, rfl, _, rfl, ?_⟩)⟩)⟩
   refine ⟨vv, .ref a, pl, sv, e, T, L, ps, S, ls ++ [(x, o)], rfl, ak.same S6, (hsub o vv vo).tk (Tk.of S6), sl, fun p hp => ?_, by rw [List.length_append]; show ls.length + 1 + j' <= 5; omega, fun H7 s7 => ⟨_, rfl, ZU ⟨⟨_, _, rfl⟩, S6.trans s7⟩⟩⟩
   rcases List.mem_append.mp hp with hp | hp
   ·exact hlt p hp
   ·rw [List.mem_singleton.mp hp]
    show o < T.m
    omega
  ·rintro σ H3 ⟨⟨x5, x6, rfl⟩, s3⟩
   exact q H3 s3
abbrev qz : Stmt := top 39
theorem Qy : zD ["_law_found", "_law_table", "_law_premises", "_law_saying", "_law_letters_here", "_law_barred"] ["_law_found", "_law_table", "_law_premises", "_law_saying", "_law_letters_here"] (zf qz) := ⟨rfl, rfl, rfl, by decide +kernel, rfl, by decide +kernel, by decide +kernel⟩
theorem Wx {P : Program} {w : World} {K : PySem.W.Frag} {mg : Str -> Option Value} {base : Heap} {f : Addr} {fd : FuncData} (F : Fun K "_law_right" "_law_right" qz f fd) (gb : Gb mg) (d_law_gradings : Def P w K mg base 1 "_law_gradings" ["_law_table", "_law_letters_here"] Qs) (d_law_bars : Def P w K mg base 20 "_law_bars" ["_law_table", "_law_premises", "_law_saying", "_law_grading"] WZ) (d_law_shows : Def P w K mg base 26 "_law_shows" ["_law_tree", "_law_table", "_law_premises", "_law_saying", "_law_sets"] (wv 6)) : jT P w K mg base CX0 28 f fd ["_law_found", "_law_table", "_law_premises", "_law_saying", "_law_letters_here"] ww := by
 refine F.ok Qy (fun vs H Q E h => ?_) (fun cdv A outer s H vs Q E hr h => ?_)
 ·obtain ⟨fv, v, pl, sv, la, T, LT, ps, S, rfl, _⟩ := h
  rfl
 obtain ⟨fv, v, pl, sv, la, T, LT, ps, S, rfl, ak, hla, nL, p125, hc, q⟩ := h
 have nd0 : (["_law_one", "_law_table", "_law_premises", "_law_saying"] : List Str).Nodup := by decide +kernel
 have nd1 : (["_law_one"] : List Str).Nodup := by decide +kernel
 refine ⟨_, (@ze _ _ _ _ _ (@qR _ _ _ _ _ _ _ _ (@PW.pt _ _ _ (@Jk _ _ _ _ _ _ _ (@jR _ _ _ _ (@qF _ _ _ (@zo _ _ _ _ _ _ _ _ _ (@qc _ K (by rfl)) rfl gb.isinstance zJ (@za _ _ _ _ _ (@pv _ 0 _ _ (by rfl) (by walk_at "v") (by decide) (by decide)) (@za _ _ _ _ _ (@jt _ _ (.ty "tuple") _ _ rfl gb.tuple jJ rfl (by decide) (by decide)) (@zc _) (by rfl)) (by rfl)) (by decide) (by decide) (by rfl) (by rfl)) (by intro _; rfl))) (@Jt _ _ _ _ (@zL _ _ _ _ _ _ _ _ (@yO _) (@zo _ _ _ _ _ _ _ _ _ (@zY _ K (by rfl)) rfl gb.len jl (@za _ _ _ _ _ (@pv _ 0 _ _ (by rfl) (by walk_at "v") (by decide) (by decide)) (@zc _) (by rfl)) (by decide) (by decide) (by rfl) (by rfl)) (@zh _ _ _ _) (@qm _ _ (by decide) (by decide)))))) (@zi _ _ _ (@zy _ _ _ _ (@Qg _ _ _ _))) (@zI _)) (@ze _ _ _ _ _ (@Qi _ ["_law_one", "_law_table", "_law_premises", "_law_saying"] [none, some 1, some 2, some 3] _ 5 _ _ _ _ _ _ _ _ _ _ _ _ (by exact (show zN ["_law_found", "_law_table", "_law_premises", "_law_saying", "_law_letters_here", "_law_barred"] (zf qz) ["_law_one", "_law_table", "_law_premises", "_law_saying"] [none, some 1, some 2, some 3] _ from ⟨rfl, by decide +kernel, by decide +kernel, by decide +kernel, by decide +kernel, rfl, by decide +kernel⟩)) rfl (@zH _ K _ _ _ (@zq _ _ _ _ _ _ _ _ _ _ _ d_law_gradings hr (by omega) rfl (@za _ _ _ _ _ (@pv _ 1 _ _ (by rfl) (by walk_at "v") (by decide) (by decide)) (@za _ _ _ _ _ (@pv _ 4 _ _ (by rfl) (by walk_at "v") (by decide) (by decide)) (@zc _) (by rfl)) (by rfl)) (by decide) (by rfl) (by rfl)) (by rfl)) (fun _ _ _ _ => (@zk _ _ 0 _ nd0 rfl (Or.inl rfl) (by walk_at "f"))) (fun _ _ _ _ => (@wQ _ _ _ (@qF _ _ _ (@zq _ _ _ _ _ _ _ _ _ _ _ d_law_bars hr (by omega) rfl (@za _ _ _ _ _ (@pv _ 1 _ _ (by rfl) (by walk_at "v") (by decide) (by decide)) (@za _ _ _ _ _ (@pv _ 2 _ _ (by rfl) (by walk_at "v") (by decide) (by decide)) (@za _ _ _ _ _ (@pv _ 3 _ _ (by rfl) (by walk_at "v") (by decide) (by decide)) (@za _ _ _ _ _ (@pv _ 0 _ _ (by rfl) (by walk_at "v") (by decide) (by decide)) (@zc _) (by rfl)) (by rfl)) (by rfl)) (by rfl)) (by decide) (by rfl) (by rfl)) (by intro _; rfl)))) (fun _ _ _ _ => (@pv _ 0 _ _ (by rfl) (by walk_at "v") (by decide) (by decide))) Qy.nd rfl rfl rfl (by intro _; rfl)) (@ze _ _ _ _ _ (@qR _ _ _ _ _ _ _ _ (@zL _ _ _ _ _ _ _ _ (@op_eqNil _ K _ hr (by rfl)) (@pv _ 5 _ _ (by rfl) (by walk_at "v") (by decide) (by decide)) (@qf _ _ _ _ (@zc _)) (@qm _ _ (by decide) (by decide))) (@zi _ _ _ (@zy _ _ _ _ (@YC _ _ _ _ _ _ _ (@j3 _ _ _ _ _ _ _ _ (@JV _) (@zC _ _ _ _ _ _ _ (@zj _ K (by rfl)) (@pv _ 0 _ _ (by rfl) (by walk_at "v") (by decide) (by decide)) (@zh _ _ _ _) (fun _ _ => rfl)) (@qO _ _ _ _) (@qm _ _ (by decide) (by decide))) (@pe_one _ _ _ _ _ (@zq _ _ _ _ _ _ _ _ _ _ _ d_law_shows hr (by omega) rfl (@za _ _ _ _ _ (@zC _ _ _ _ _ _ _ (@zj _ K (by rfl)) (@pv _ 0 _ _ (by rfl) (by walk_at "v") (by decide) (by decide)) (@zh _ _ _ _) (fun _ _ => rfl)) (@za _ _ _ _ _ (@pv _ 1 _ _ (by rfl) (by walk_at "v") (by decide) (by decide)) (@za _ _ _ _ _ (@pv _ 2 _ _ (by rfl) (by walk_at "v") (by decide) (by decide)) (@za _ _ _ _ _ (@pv _ 3 _ _ (by rfl) (by walk_at "v") (by decide) (by decide)) (@za _ _ _ _ _ (@J3 _ _) (@zc _) (by rfl)) (by rfl)) (by rfl)) (by rfl)) (by rfl)) (by decide) (by rfl) (by rfl)))))) (@zI _)) (@ze _ _ _ _ _ (@qR _ _ _ _ _ _ _ _ (@PW.pt _ _ _ (@Jk _ _ _ _ _ _ _ (@zL _ _ _ _ _ _ _ _ (@yO _) (@zC _ _ _ _ _ _ _ (@zj _ K (by rfl)) (@pv _ 0 _ _ (by rfl) (by walk_at "v") (by decide) (by decide)) (@zh _ _ _ _) (fun _ _ => rfl)) (@qO _ _ _ _) (@qm _ _ (by decide) (by decide))) (@Jk _ _ _ _ _ _ _ (@jR _ _ _ _ (@qF _ _ _ (@zo _ _ _ _ _ _ _ _ _ (@qc _ K (by rfl)) rfl gb.isinstance zJ (@za _ _ _ _ _ (@zC _ _ _ _ _ _ _ (@zj _ K (by rfl)) (@pv _ 0 _ _ (by rfl) (by walk_at "v") (by decide) (by decide)) (@zh _ _ _ _) (fun _ _ => rfl)) (@za _ _ _ _ _ (@jt _ _ (.ty "dict") _ _ rfl gb.dict Qk rfl (by decide) (by decide)) (@zc _) (by rfl)) (by rfl)) (by decide) (by decide) (by rfl) (by rfl)) (by intro _; rfl))) (@Jt _ _ _ _ (@zL _ _ _ _ _ _ _ _ (@xY _ K _ hr (by rfl)) (@zC _ _ _ _ _ _ _ (@zj _ K (by rfl)) (@pv _ 0 _ _ (by rfl) (by walk_at "v") (by decide) (by decide)) (@zh _ _ _ _) (fun _ _ => rfl)) (@pv _ 5 _ _ (by rfl) (by walk_at "v") (by decide) (by decide)) (by with_unfolding_all rfl)))))) (@zi _ _ _ (@zy _ _ _ _ (@Qg _ _ _ _))) (@zI _)) (@zi _ _ _ (@zy _ _ _ _ (@pe_not _ _ _ _ (@zo _ _ _ _ _ _ _ _ _ (@Q4 _ K rfl (by rfl)) rfl gb.any xK (@za _ _ _ _ _ (@pe_thaw _ _ _ (@zW _ ["_law_one"] [none] _ _ _ _ _ _ _ _ _ _ (by exact (show zN ["_law_found", "_law_table", "_law_premises", "_law_saying", "_law_letters_here", "_law_barred"] (zf qz) ["_law_one"] [none] _ from ⟨rfl, by decide +kernel, by decide +kernel, by decide +kernel, by decide +kernel, rfl, by decide +kernel⟩)) rfl (@pi_vals _ _ _ _ _ _ (@zC _ _ _ _ _ _ _ (@zj _ K (by rfl)) (@pv _ 0 _ _ (by rfl) (by walk_at "v") (by decide) (by decide)) (@zh _ _ _ _) (fun _ _ => rfl)) (by rfl) (by rfl)) (fun _ _ _ _ => (@zk _ _ 0 _ nd1 rfl (Or.inl rfl) (by walk_at "f"))) (fun _ _ _ _ => (@qG _)) (fun _ _ _ _ => (@zo _ _ _ _ _ _ _ _ _ (@qc _ K (by rfl)) rfl gb.isinstance zJ (@za _ _ _ _ _ (@pv _ 0 _ _ (by rfl) (by walk_at "v") (by decide) (by decide)) (@za _ _ _ _ _ (@jt _ _ (.ty "bool") _ _ rfl gb.bool bt_bool rfl (by decide) (by decide)) (@zc _) (by rfl)) (by rfl)) (by decide) (by decide) (by rfl) (by rfl))) (by intro _; rfl))) (@zc _) (by rfl)) (by decide) (by decide) (by rfl) (by rfl))))))))), ?_⟩
 have m1 := ak.gt.m1
 obtain ⟨a, w0, c0, vs0, rfl, h1, h2, h3, h4⟩ := id ak.tb
 have ht : ∃ t w tv, fv = .ref t /\ H t = some (.tup [.str w, tv]) := by
  rcases hc with ⟨_, t, tv, e, h, _⟩ | ⟨_, t, d, _, _, e, h, _⟩
  ·exact ⟨t, _, _, e, h⟩
  ·exact ⟨t, _, _, e, h⟩
 obtain ⟨t, w, tv, rfl, ht⟩ := ht
 refine ⟨_, rfl, _, _, _, true, rfl, .tup ht, qI "tuple", _, rfl, ZU ?_⟩
 refine ⟨_, rfl, _, _, rfl, .inr ⟨_, SqT.of ht, rfl⟩, rfl, _, rfl, yS rfl ?_⟩
 refine ⟨_, rfl, _, rfl, .ref a, la, T, LT, rfl, ak.tb, ak.gt, hla, nL, ak.ln, p125, fun l gs H1 s1 hl es hg => ?_⟩
 have gsl : gs.length = T.m ^ LT.length := by rw [<- List.length_map (f := Prod.snd), es, Jc]
 have rw' : ∀ z ∈ gs, Tn.Rw T.m LT.length z.2 := fun z hz => Zp.mp (by rw [<- es]; exact List.mem_map.mpr ⟨z, hz, rfl⟩)
 refine ⟨l, rfl, ⟨_, SqL.of hl⟩, fun D hD => ?_⟩
 refine jz (xs := jZ gs) (fun i ys H' => zF H1 H' /\ ys = jZ ((gs.take i).filter fun z => barB T (Xr LT z.2) (ps.map Prod.snd) S)) ⟨zg hD _, rfl⟩ (fun i ys H' h _ => SqL.of (h.1 _ _ hl)) ?_ ?_
 ·rintro i ys H2 x hx ⟨s2, rfl⟩ hD2
  unfold jZ at hx
  rw [List.getElem?_map] at hx
  obtain ⟨z, hz, rfl⟩ := Option.map_eq_some_iff.mp hx
  have hi : i < gs.length := (List.getElem?_eq_some_iff.mp hz).1
  have hi' : i < (jZ gs).length := by unfold jZ; rw [List.length_map]; exact hi
  have zm := List.mem_of_getElem? hz
  have S2 := s1.trans s2
  have fl : ((gs.take i).filter fun z => barB T (Xr LT z.2) (ps.map Prod.snd) S).length <= i := Nat.le_trans (List.length_filter_le _ _) (by rw [List.length_take]; omega)
  refine ⟨_, rfl, _, rfl, _, rfl, _, rfl, .ref a, pl, sv, z.1, T, LT, ps, S, Xr LT z.2, rfl, ak.same S2, Xu (s2 _ _ (hg z zm)) (rw' z zm) m1, fun H3 s3 => ⟨_, rfl, ?_⟩⟩
  cases hb : barB T (Xr LT z.2) (ps.map Prod.snd) S with
  | true =>
   refine WE ⟨_, rfl, ?_⟩
   refine wA hi' jU (s3 _ _ hD2) (by unfold jZ; rw [List.length_map]; exact zr (by omega)) ⟨(s2.trans s3).put hD, ?_⟩
   rw [take_snoc hz, List.filter_append]
   unfold jZ
   rw [List.map_append, List.filter_cons, hb]
   rfl
  | false =>
   refine ZU (cno hi' jU (s3 _ _ hD2) ⟨s2.trans s3, ?_⟩)
   rw [take_snoc hz, List.filter_append, List.filter_cons, hb]
   unfold jZ
   rw [List.map_append]
   exact (List.append_nil _).symm
 rintro ys H2 ⟨s2, rfl⟩ hD2
 have S2 := s1.trans s2
 rw [show (gs.take (jZ gs).length) = gs from by unfold jZ; rw [List.length_map, List.take_length]] at hD2
 generalize hbs : (gs.filter fun z => barB T (Xr LT z.2) (ps.map Prod.snd) S) = bs at hD2
 have bsl : bs.length <= 125 := by rw [<- hbs]; exact Nat.le_trans (List.length_filter_le _ _) (by omega)
 refine ⟨_, rfl, zu (by show 0 <= 1000; decide), fun nl hnl => ?_⟩
 have n3 := zg hnl (.lst [])
 refine ⟨D, nl, _, rfl, rfl, SqL.of (n3 _ _ hD2), SqL.of zd, _, rfl, ?_⟩
 have S3 := S2.trans n3
 rcases hc with ⟨fol, t', tv', e, ht', sh⟩ | ⟨γ, t', d, gd, bar, e, ht', hd⟩
 ·cases e
  rw [ht] at ht'
  obtain ⟨rfl, rfl⟩ : w = "follows" /\ tv = tv' := by
   have := HO.tup.inj (Option.some.inj ht')
   simpa using this
  have bn : bs = [] := by
   rw [<- hbs, List.filter_eq_nil_iff]
   intro z hz hb
   exact fol (Xr LT z.2) (fun x => Xs (rw' z hz) m1 x) (yI.mp hb)
  rw [bn]
  refine iteP rfl ?_
  refine ⟨_, rfl, .inr (.inl ⟨t, _, 0, _, rfl, rfl, SqT.of (S3 _ _ ht), rfl, rfl, _, rfl, iteP (by simp) ?_⟩)⟩
  refine ⟨_, rfl, .inr (.inl ⟨t, _, 1, _, rfl, rfl, SqT.of (S3 _ _ ht), rfl, _, rfl, _, rfl, _, rfl, fun g hgn => ?_⟩)⟩
  have n4 := zg hgn (.dK [])
  have S4 := S3.trans n4
  exact ⟨tv, .ref a, pl, sv, g, T, LT, ps, S, [], rfl, ak.same S4, sh.tk (Tk.of S4), ⟨[], zd, .nil⟩, (fun p hp => by cases hp), (by show 0 + 5 <= 5; decide), fun H5 s5 => q H5 (S4.trans s5)⟩
 ·cases e
  rw [ht] at ht'
  obtain ⟨rfl, rfl⟩ : w = "barred" /\ tv = .ref d := by
   have := HO.tup.inj (Option.some.inj ht')
   simpa using this
  have rL : Tn.Rw T.m LT.length (LT.map γ) := ⟨List.length_map .., fun x hx => by obtain ⟨y, _, rfl⟩ := List.mem_map.mp hx; exact gd y⟩
  obtain ⟨z, hz, ez⟩ : ∃ z ∈ gs, z.2 = LT.map γ := by
   have := Zp.mpr rL
   rw [<- es] at this
   obtain ⟨z, hz, e⟩ := List.mem_map.mp this
   exact ⟨z, hz, e⟩
  have zb : z ∈ bs := by
   rw [<- hbs, List.mem_filter]
   refine ⟨hz, yI.mpr (Xv (fun p hp x hx => ?_) (fun x hx => ?_) bar)⟩
   ·obtain ⟨y, hy, rfl⟩ := List.mem_map.mp hp
    rw [ez, Jd ((ak.ps y hy).1.lets_in hx)]
   ·rw [ez, Jd (ak.gs.lets_in hx)]
  have bsn : (jZ bs).isEmpty = false := by
   cases bs with
   | nil => cases zb
   | cons y bs => rfl
  rw [bsn]
  refine ZU ?_
  have hdz : H d = some (.dK (zkv LT (LT.map γ))) := by rw [Xt]; exact hd
  refine ⟨_, rfl, .inr (.inl ⟨t, _, 0, _, rfl, rfl, SqT.of (S3 _ _ ht), rfl, rfl, _, rfl, yS rfl ?_⟩)⟩
  refine ⟨_, rfl, .inr (.inl ⟨t, _, 1, _, rfl, rfl, SqT.of (S3 _ _ ht), rfl, _, _, _, true, rfl, .dK (S3 _ _ hdz), qI "dict", _, rfl, ZU ?_⟩)⟩
  refine ⟨_, rfl, .inr (.inl ⟨t, _, 1, _, rfl, rfl, SqT.of (S3 _ _ ht), rfl, ?_⟩)⟩
  have bg : ∀ y ∈ bs, y ∈ gs := fun y hy => by rw [<- hbs] at hy; exact (List.mem_filter.mp hy).1
  refine ⟨_, rfl, d, D, _, jZ bs, bs.map fun y => zkv LT y.2, rfl, rfl, S3 _ _ hdz, SqL.of (n3 _ _ hD2), JT _ _ bs (fun y hy => ⟨y.1, rfl, (s2.trans n3) _ _ (hg y (bg y hy)), by rw [wr (rw' y (bg y hy)).1.symm, wr rL.1.symm], QK _ _⟩), QK _ _, _, rfl, ?_⟩
  rw [show ((bs.map fun y => zkv LT y.2).any fun ds => decide (ds = zkv LT (LT.map γ))) = true from List.any_eq_true.mpr ⟨_, List.mem_map.mpr ⟨z, zb, rfl⟩, decide_eq_true (by rw [ez])⟩]
  refine ZU ?_
  refine ⟨d, _, S3 _ _ hdz, ?_⟩
  refine ⟨_, rfl, .inr (.inl ⟨t, _, 1, _, rfl, rfl, SqT.of (S3 _ _ ht), rfl, d, _, rfl, S3 _ _ hdz, fun o E hE => ?_⟩)⟩
  have Ed : E ≠ d := fun z => by
   rw [z, zd] at hE
   cases hE
  have dd : ∀ H', zF (upd (upd H2 nl (.lst [])) d (.frz o (.dK (zkv LT (LT.map γ))))) H' -> H' d = some (.frz o (.dK (zkv LT (LT.map γ)))) := fun H' s => s _ _ zd
  refine xU (fun i ys H' => zF (upd (upd H2 nl (.lst [])) d (.frz o (.dK (zkv LT (LT.map γ))))) H' /\ ys = (List.replicate i false).map V.bl) ⟨zg hE _, rfl⟩ (fun i ys H' h _ => dd _ h.1) ?_ ?_
  ·rintro i ys H4 p hp ⟨s4, rfl⟩ hE4
   obtain ⟨n, en⟩ := QK _ _ p (List.mem_of_getElem? hp)
   have hi := (List.getElem?_eq_some_iff.mp hp).1
   rw [en]
   refine yes ⟨_, rfl, _, _, _, false, rfl, .int n, wS, ?_⟩
   refine wA hi jU hE4 (by rw [List.length_map, List.length_replicate]; rw [Xp rL.1.symm] at hi; exact zr (by have := ak.ln; omega)) ⟨s4.put hE, ?_⟩
   rw [List.replicate_succ', List.map_append]
   rfl
  ·rintro ys H4 ⟨s4, rfl⟩ hE4
   have s5 : zF (upd H2 nl (.lst [])) (upd H4 d (.dK (zkv LT (LT.map γ)))) := fun b ob hb => by
    by_cases e : b = d
    ·subst e
     rw [S3 _ _ hdz] at hb
     rw [zd]
     exact hb
    ·rw [zn e]
     refine s4 _ _ ?_
     rw [zn e]
     exact hb
   refine ⟨o, dd _ s4, E, _, rfl, SqL.of (by rw [zn Ed]; exact hE4), _, rfl, ?_⟩
   rw [show (List.replicate (zkv LT (LT.map γ)).length false).any id = false by simp]
   exact q _ (S3.trans s5)
abbrev jb : Stmt := top 40
theorem qA : zD ["_law_cell_here", "_law_most", "_law_pool_here", "_law_table", "_law_letters_here", "_law_found", "_law_premises", "_law_saying"] ["_law_cell_here", "_law_most"] (zf jb) := ⟨rfl, rfl, rfl, by decide +kernel, rfl, by decide +kernel, by decide +kernel⟩
theorem Wy {P : Program} {w : World} {K : PySem.W.Frag} {mg : Str -> Option Value} {base : Heap} {f : Addr} {fd : FuncData} (F : Fun K "_law_asked" "_law_asked" jb f fd) (gb : Gb mg) (d_law_pool : Def P w K mg base 1 "_law_pool" ["_law_cell_here"] Y7) (d_law_draw : Def P w K mg base 1 "_law_draw" ["_law_pool_here", "_law_many"] ZW) (d_law_half : Def P w K mg base 3 "_law_half" ["_law_pool_here", "_law_most", "_law_connectives", "_law_often"] Xc) (d_law_letters : Def P w K mg base 2 "_law_letters" ["_law_pool_here", "_law_many"] Qq) (d_law_grown : Def P w K mg base 20 "_law_grown" ["_law_pool_here", "_law_table", "_law_letters_here", "_law_steps", "_law_most"] WX) (d_law_picked : Def P w K mg base 2 "_law_picked" ["_law_pool_here", "_law_found", "_law_most"] wn) : jT P w K mg base CX0 22 f fd ["_law_cell_here", "_law_most"] W1 := by
 refine F.ok qA (fun vs H Q E h => ?_) (fun cdv A outer s H vs Q E hr h => ?_)
 ·obtain ⟨cc, most, rfl, _⟩ := h
  rfl
 obtain ⟨cc, most, rfl, o1, o9, q⟩ := h
 refine ⟨_, (@ze _ _ _ _ _ (@zv _ _ 2 _ _ _ _ qA.nd rfl (Or.inl rfl) (@zq _ _ _ _ _ _ _ _ _ _ _ d_law_pool hr (by omega) rfl (@za _ _ _ _ _ (@pv _ 0 _ _ (by rfl) (by walk_at "v") (by decide) (by decide)) (@zc _) (by rfl)) (by decide) (by rfl) (by rfl)) (by rfl) (by walk_at "f")) (@ze _ _ _ _ _ (@zv _ _ 3 _ _ _ _ qA.nd rfl (Or.inl rfl) (@zq _ _ _ _ _ _ _ _ _ _ _ d_law_half hr (by omega) rfl (@za _ _ _ _ _ (@pv _ 2 _ _ (by rfl) (by walk_at "v") (by decide) (by decide)) (@za _ _ _ _ _ (@pv _ 1 _ _ (by rfl) (by walk_at "v") (by decide) (by decide)) (@za _ _ _ _ _ (@zh _ _ _ _) (@za _ _ _ _ _ (@zh _ _ _ _) (@zc _) (by rfl)) (by rfl)) (by rfl)) (by rfl)) (by decide) (by rfl) (by rfl)) (by rfl) (by walk_at "f")) (@ze _ _ _ _ _ (@zv _ _ 4 _ _ _ _ qA.nd rfl (Or.inl rfl) (@zq _ _ _ _ _ _ _ _ _ _ _ d_law_letters hr (by omega) rfl (@za _ _ _ _ _ (@pv _ 2 _ _ (by rfl) (by walk_at "v") (by decide) (by decide)) (@za _ _ _ _ _ (@zP _ _ _ _ _ _ _ _ (@jg _) (@zh _ _ _ _) (@zq _ _ _ _ _ _ _ _ _ _ _ d_law_draw hr (by omega) rfl (@za _ _ _ _ _ (@pv _ 2 _ _ (by rfl) (by walk_at "v") (by decide) (by decide)) (@za _ _ _ _ _ (@zC _ _ _ _ _ _ _ (@zj _ K (by rfl)) (@qf _ _ _ _ (@za _ _ _ _ _ (@zh _ _ _ _) (@za _ _ _ _ _ (@zh _ _ _ _) (@za _ _ _ _ _ (@zh _ _ _ _) (@za _ _ _ _ _ (@zh _ _ _ _) (@za _ _ _ _ _ (@zh _ _ _ _) (@za _ _ _ _ _ (@zh _ _ _ _) (@za _ _ _ _ _ (@zh _ _ _ _) (@za _ _ _ _ _ (@zh _ _ _ _) (@za _ _ _ _ _ (@zh _ _ _ _) (@zc _) (by rfl)) (by rfl)) (by rfl)) (by rfl)) (by rfl)) (by rfl)) (by rfl)) (by rfl)) (by rfl))) (@zP _ _ _ _ _ _ _ _ (@wF _) (@zC _ _ _ _ _ _ _ (@zj _ K (by rfl)) (@pv _ 3 _ _ (by rfl) (by walk_at "v") (by decide) (by decide)) (@zh _ _ _ _) (fun _ _ => rfl)) (@zh _ _ _ _)) (fun _ _ => rfl)) (@zc _) (by rfl)) (by rfl)) (by decide) (by rfl) (by rfl))) (@zc _) (by rfl)) (by rfl)) (by decide) (by rfl) (by rfl)) (by rfl) (by walk_at "f")) (@ze _ _ _ _ _ (@zv _ _ 5 _ _ _ _ qA.nd rfl (Or.inl rfl) (@zq _ _ _ _ _ _ _ _ _ _ _ d_law_grown hr (by omega) rfl (@za _ _ _ _ _ (@pv _ 2 _ _ (by rfl) (by walk_at "v") (by decide) (by decide)) (@za _ _ _ _ _ (@pv _ 3 _ _ (by rfl) (by walk_at "v") (by decide) (by decide)) (@za _ _ _ _ _ (@pv _ 4 _ _ (by rfl) (by walk_at "v") (by decide) (by decide)) (@za _ _ _ _ _ (@zh _ _ _ _) (@za _ _ _ _ _ (@zh _ _ _ _) (@zc _) (by rfl)) (by rfl)) (by rfl)) (by rfl)) (by rfl)) (by decide) (by rfl) (by rfl)) (by rfl) (by walk_at "f")) (@ze _ _ _ _ _ (@Ju _ _ _ _ _ _ (@zq _ _ _ _ _ _ _ _ _ _ _ d_law_picked hr (by omega) rfl (@za _ _ _ _ _ (@pv _ 2 _ _ (by rfl) (by walk_at "v") (by decide) (by decide)) (@za _ _ _ _ _ (@pv _ 5 _ _ (by rfl) (by walk_at "v") (by decide) (by decide)) (@za _ _ _ _ _ (@zh _ _ _ _) (@zc _) (by rfl)) (by rfl)) (by rfl)) (by decide) (by rfl) (by rfl)) (@QP _ K _ _ _ _ 2 rfl (@qr _ _ _ _ _ (@zk _ _ 6 _ qA.nd rfl (Or.inl rfl) (by walk_at "f")) (@qr _ _ _ _ _ (@zk _ _ 7 _ qA.nd rfl (Or.inl rfl) (by walk_at "f")) (@QL _) (by rfl)) (by rfl)) (by rfl) (by rfl) (by rfl)) (by rfl) (by rfl) (by rfl)) (@zi _ _ _ (@zy _ _ _ _ (@qU _ _ _ _ _ (@za _ _ _ _ _ (@pv _ 3 _ _ (by rfl) (by walk_at "v") (by decide) (by decide)) (@za _ _ _ _ _ (@pv _ 6 _ _ (by rfl) (by walk_at "v") (by decide) (by decide)) (@za _ _ _ _ _ (@pv _ 7 _ _ (by rfl) (by walk_at "v") (by decide) (by decide)) (@zc _) (by rfl)) (by rfl)) (by rfl)))))))))), ?_⟩
 refine ⟨_, rfl, cc, rfl, fun p r a1 b1 hp => ?_⟩
 have p1 : jh (upd H p (.lst [.int r, .int a1, .int b1])) p := jh.put
 refine ⟨_, rfl, _, rfl, p, most, 5, 0, rfl, p1, o1, o9, by decide, by decide, by decide, by decide, fun v T0 H3 o3 p3 ih g fu0 m4 c5 => ?_⟩
 have fu := fu0 rfl
 have tb := half_tb ih g fu
 have gT := Xj g fu
 have nT := half_nd g
 have em : ((T0.m.toNat : Nat) : Int) = T0.m := Int.toNat_of_nonneg (by have := g.m1; omega)
 have m1 := g.m1
 generalize hTT : tbOf T0 = T at tb gT nT
 have m9 := gT.m9
 have m1' := gT.m1
 obtain ⟨ta, tw, tc, tvs, rfl, h1, h2, h3, h4⟩ := id tb
 refine ⟨_, rfl, _, rfl, zu (by show 9 <= 1000; decide), fun ga hga => ?_⟩
 have p4 : jh (upd H3 ga (.lst [.int 4, .int 4, .int 4, .int 3, .int 3, .int 2, .int 2, .int 2, .int 2])) p := p3.new hga
 have n4 := zg hga (.lst [.int 4, .int 4, .int 4, .int 3, .int 3, .int 2, .int 2, .int 2, .int 2])
 have gap := ZQ p3 hga
 obtain ⟨lm, hat, lm1, lm4, lmp⟩ := at9 (v := (T.m : Int) - 1) (by omega) (by omega)
 rw [show ((T.m : Int) - 1).toNat + 1 = T.m by omega] at lmp
 refine ⟨_, rfl, .inr (.inl ⟨ta, _, 0, _, rfl, rfl, SqT.of (n4 _ _ h1), rfl, _, _, rfl, rfl, .inl ⟨ga, _, _, _, rfl, rfl, SqL.of zd, hat, ?_⟩⟩)⟩
 refine ⟨p, (lm : Int), rfl, p4, by omega, by omega, fun u H5 u0 u1 o5 p5 => ⟨_, _, rfl, rfl, ?_⟩⟩
 refine ⟨p, 1 + u, rfl, p5, by omega, by omega, fun ll L H6 o6 p6 hn6 llp hll lL nL hL => ?_⟩
 have o36 := (Off.of (p := p) n4).trans (o5.trans o6)
 have tb6 := tb.tk (o36.tk p3)
 refine ⟨_, rfl, _, rfl, _, rfl, p, ll, _, T, L, 8, 9, rfl, p6, tb6, gT, llp, hll, by omega, by omega, by decide, by decide, by decide, fun fl fs H7 o7 p7 hn7 flp fnd => ?_⟩
 refine ⟨_, rfl, _, rfl, p, fl, T, L, 9, fs, 3, rfl, p7, flp, fnd, by decide, fun t sl ps y H8 o8 p8 hn8 slp ht hsl psl hps hy => ?_⟩
 obtain ⟨f1, f2, f3, f4⟩ := fnd
 refine ⟨t, _, rfl, SqT.of ht, rfl, ?_⟩
 have o38 : Off p H3 H8 := o36.trans (o7.trans o8)
 have tb8 := tb.tk (o38.tk p3)
 have f48 : ∀ z ∈ fs, AskZ H8 T L z /\ z.2.sz <= 9 := fun z hz => by
  obtain ⟨k1, k2, k3⟩ := f4 z hz
  have := Sy.dp_sz z.2
  exact ⟨⟨k1, by omega, by omega, k3.tk (o8.tk p7)⟩, k2⟩
 have ask : Ask H8 (.ref ta) sl y.1 T L ps y.2 := ⟨tb8, gT, nT, hsl, by omega, (fun z hz => (f48 z (hps z hz)).1), (f48 y hy).1.2.2.2, (f48 y hy).1.1, (f48 y hy).1.2.1, (f48 y hy).1.2.2.1, hL, by omega⟩
 have S8 : zF H H8 := fun b o hb => by
  have bp : b ≠ p := zx hb hp
  exact o38 _ _ bp (o3 _ _ bp (by rw [zn bp]; exact hb))
 refine ⟨_, _, rfl, _, _, rfl, rfl, _, rfl, _, rfl, _, rfl, zu (by show 3 <= 1000; decide), fun t' ht' => ?_⟩
 have n9 := zg ht' (.tup [.ref ta, .ref sl, y.1])
 exact q t' (.ref ta) sl y.1 T L ps y.2 _ (S8.trans n9) zd (ask.same n9) (lmp _ (by omega)) psl fun z hz => by
  rcases List.mem_cons.mp hz with rfl | hz
  ·exact (f48 y hy).2
  ·exact (f48 z (hps z hz)).2
abbrev wy : Stmt := top 41
theorem Zs : zD ["_law_script", "_law_k", "_law_table", "_law_premises", "_law_saying", "_law_letters_here", "_law_one", "_law_handed", "_law_found"] ["_law_script"] (zf wy) := ⟨rfl, rfl, rfl, by decide +kernel, rfl, by decide +kernel, by decide +kernel⟩
theorem ok_law {P : Program} {w : World} {K : PySem.W.Frag} {mg : Str -> Option Value} {base : Heap} {f : Addr} {fd : FuncData} (F : Fun K "law" "law" wy f fd) (gb : Gb mg) (d_law_cell : Def P w K mg base 1 "_law_cell" ["_law_script", "_law_place"] (WY K)) (d_law_asked : Def P w K mg base 22 "_law_asked" ["_law_cell_here", "_law_most"] W1) (d_follows : Def P w K mg base 30 "follows" ["T", "premises", "S"] Qb) (d_law_right : Def P w K mg base 28 "_law_right" ["_law_found", "_law_table", "_law_premises", "_law_saying", "_law_letters_here"] ww) (d_law_of : Def P w K mg base 18 "_law_of" ["_law_saying"] (spOfL 12)) : jT P w K mg base CX0 33 f fd ["_law_script"] (spLaw K) := by
 refine F.ok Zs (fun vs H Q E h => ?_) (fun cdv A outer s H vs Q E hr h => ?_)
 ·obtain ⟨a, ns, rfl, _⟩ := h
  rfl
 obtain ⟨a, ns, rfl, hS, h63, q⟩ := h
 refine ⟨_, (@ze _ _ _ _ _ (@qP _ _ _ _ _ _ _ _ PassesOwn.never rfl (@ql _ _ _ _ _ _ rfl gb.range (@za _ _ _ _ _ (@zh _ _ _ _) (@zc _) (by rfl)) (by rfl)) (@zk _ _ 1 _ Zs.nd rfl (Or.inl rfl) (by walk_at "f")) (@ze _ _ _ _ _ (@Ju _ _ _ _ _ _ (@zq _ _ _ _ _ _ _ _ _ _ _ d_law_asked hr (by omega) rfl (@za _ _ _ _ _ (@zq _ _ _ _ _ _ _ _ _ _ _ d_law_cell hr (by omega) rfl (@za _ _ _ _ _ (@pv _ 0 _ _ (by rfl) (by walk_at "v") (by decide) (by decide)) (@za _ _ _ _ _ (@pv _ 1 _ _ (by rfl) (by walk_at "v") (by decide) (by decide)) (@zc _) (by rfl)) (by rfl)) (by decide) (by rfl) (by rfl)) (@za _ _ _ _ _ (@zC _ _ _ _ _ _ _ (@zj _ K (by rfl)) (@qf _ _ _ _ (@za _ _ _ _ _ (@zh _ _ _ _) (@za _ _ _ _ _ (@zh _ _ _ _) (@za _ _ _ _ _ (@zh _ _ _ _) (@za _ _ _ _ _ (@zh _ _ _ _) (@zc _) (by rfl)) (by rfl)) (by rfl)) (by rfl))) (@pv _ 1 _ _ (by rfl) (by walk_at "v") (by decide) (by decide)) (fun _ _ => rfl)) (@zc _) (by rfl)) (by rfl)) (by decide) (by rfl) (by rfl)) (@QP _ K _ _ _ _ 3 rfl (@qr _ _ _ _ _ (@zk _ _ 2 _ Zs.nd rfl (Or.inl rfl) (by walk_at "f")) (@qr _ _ _ _ _ (@zk _ _ 3 _ Zs.nd rfl (Or.inl rfl) (by walk_at "f")) (@qr _ _ _ _ _ (@zk _ _ 4 _ Zs.nd rfl (Or.inl rfl) (by walk_at "f")) (@QL _) (by rfl)) (by rfl)) (by rfl)) (by rfl) (by rfl) (by rfl)) (by rfl) (by rfl) (by rfl)) (@ze _ _ _ _ _ (@zv _ _ 5 _ _ _ _ Zs.nd rfl (Or.inl rfl) (@zq _ _ _ _ _ _ _ _ _ _ _ d_law_of hr (by omega) rfl (@za _ _ _ _ _ (@pv _ 4 _ _ (by rfl) (by walk_at "v") (by decide) (by decide)) (@zc _) (by rfl)) (by decide) (by rfl) (by rfl)) (by rfl) (by walk_at "f")) (@ze _ _ _ _ _ (@qP _ _ _ _ _ _ _ _ PassesOwn.never rfl (@zH _ K _ _ _ (@pv _ 3 _ _ (by rfl) (by walk_at "v") (by decide) (by decide)) (by rfl)) (@zk _ _ 6 _ Zs.nd rfl (Or.inl rfl) (by walk_at "f")) (@zi _ _ _ (@zv _ _ 5 _ _ _ _ Zs.nd rfl (Or.inl rfl) (@zP _ _ _ _ _ _ _ _ (@Jv _) (@pv _ 5 _ _ (by rfl) (by walk_at "v") (by decide) (by decide)) (@zq _ _ _ _ _ _ _ _ _ _ _ d_law_of hr (by omega) rfl (@za _ _ _ _ _ (@pv _ 6 _ _ (by rfl) (by walk_at "v") (by decide) (by decide)) (@zc _) (by rfl)) (by decide) (by rfl) (by rfl))) (by rfl) (by walk_at "f"))) (by intro _; rfl)) (@ze _ _ _ _ _ (@zv _ _ 5 _ _ _ _ Zs.nd rfl (Or.inl rfl) (@zo _ _ _ _ _ _ _ _ _ (@Z9 _ rfl) rfl gb.sorted ZZ (@za _ _ _ _ _ (@zG _ _ _ _ _ _ _ _ _ (@JQ _ K rfl (by rfl)) rfl gb.set ym (@za _ _ _ _ _ (@pv _ 5 _ _ (by rfl) (by walk_at "v") (by decide) (by decide)) (@zc _) (by rfl)) (by decide) (by decide) (by rfl) (by rfl)) (@zc _) (by rfl)) (by decide) (by decide) (by rfl) (by rfl)) (by rfl) (by walk_at "f")) (@ze _ _ _ _ _ (@zv _ _ 7 _ _ _ _ Zs.nd rfl (Or.inl rfl) (@zG _ _ _ _ _ _ _ _ _ (@jn _ K (by rfl)) rfl gb.list Zd (@za _ _ _ _ _ (@pv _ 3 _ _ (by rfl) (by walk_at "v") (by decide) (by decide)) (@zc _) (by rfl)) (by decide) (by decide) (by rfl) (by rfl)) (by rfl) (by walk_at "f")) (@ze _ _ _ _ _ (@zv _ _ 8 _ _ _ _ Zs.nd rfl (Or.inl rfl) (@zq _ _ _ _ _ _ _ _ _ _ _ d_follows hr (by omega) rfl (@za _ _ _ _ _ (@pv _ 2 _ _ (by rfl) (by walk_at "v") (by decide) (by decide)) (@za _ _ _ _ _ (@pv _ 7 _ _ (by rfl) (by walk_at "v") (by decide) (by decide)) (@za _ _ _ _ _ (@pv _ 4 _ _ (by rfl) (by walk_at "v") (by decide) (by decide)) (@zc _) (by rfl)) (by rfl)) (by rfl)) (by decide) (by rfl) (by rfl)) (by rfl) (by walk_at "f")) (@ze _ _ _ _ _ (@qR _ _ _ _ _ _ _ _ (@PW.pt _ _ _ (@Jk _ _ _ _ _ _ _ (@jR _ _ _ _ (@qF _ _ _ (@zq _ _ _ _ _ _ _ _ _ _ _ d_law_right hr (by omega) rfl (@za _ _ _ _ _ (@pv _ 8 _ _ (by rfl) (by walk_at "v") (by decide) (by decide)) (@za _ _ _ _ _ (@pv _ 2 _ _ (by rfl) (by walk_at "v") (by decide) (by decide)) (@za _ _ _ _ _ (@pv _ 3 _ _ (by rfl) (by walk_at "v") (by decide) (by decide)) (@za _ _ _ _ _ (@pv _ 4 _ _ (by rfl) (by walk_at "v") (by decide) (by decide)) (@za _ _ _ _ _ (@pv _ 5 _ _ (by rfl) (by walk_at "v") (by decide) (by decide)) (@zc _) (by rfl)) (by rfl)) (by rfl)) (by rfl)) (by rfl)) (by decide) (by rfl) (by rfl)) (by intro _; rfl))) (@Jt _ _ _ _ (@zL _ _ _ _ _ _ _ _ (@op_neSm _ _ hr) (@pv _ 7 _ _ (by rfl) (by walk_at "v") (by decide) (by decide)) (@pv _ 3 _ _ (by rfl) (by walk_at "v") (by decide) (by decide)) (@qm _ _ (by decide) (by decide)))))) (@zi _ _ _ (@zy _ _ _ _ (@Qg _ _ _ _))) (@zI _)) (@zi _ _ _ (@qR _ _ _ _ _ _ _ _ (@zL _ _ _ _ _ _ _ _ (@JV _) (@zC _ _ _ _ _ _ _ (@zj _ K (by rfl)) (@pv _ 8 _ _ (by rfl) (by walk_at "v") (by decide) (by decide)) (@zh _ _ _ _) (fun _ _ => rfl)) (@qO _ _ _ _) (@qm _ _ (by decide) (by decide))) (@ze _ _ _ _ _ (@J8 _ _ _ _ _ _ _ _ _ _ hr (@zC _ _ _ _ _ _ _ (@zj _ K (by rfl)) (@pv _ 8 _ _ (by rfl) (by walk_at "v") (by decide) (by decide)) (@zh _ _ _ _) (fun _ _ => rfl)) (@qO _ _ _ _) (@zh _ _ _ _) rfl) (@zi _ _ _ (@qR _ _ _ _ _ _ _ _ (@jR _ _ _ _ (@qF _ _ _ (@zq _ _ _ _ _ _ _ _ _ _ _ d_law_right hr (by omega) rfl (@za _ _ _ _ _ (@zq _ _ _ _ _ _ _ _ _ _ _ d_follows hr (by omega) rfl (@za _ _ _ _ _ (@pv _ 2 _ _ (by rfl) (by walk_at "v") (by decide) (by decide)) (@za _ _ _ _ _ (@pv _ 7 _ _ (by rfl) (by walk_at "v") (by decide) (by decide)) (@za _ _ _ _ _ (@pv _ 4 _ _ (by rfl) (by walk_at "v") (by decide) (by decide)) (@zc _) (by rfl)) (by rfl)) (by rfl)) (by decide) (by rfl) (by rfl)) (@za _ _ _ _ _ (@pv _ 2 _ _ (by rfl) (by walk_at "v") (by decide) (by decide)) (@za _ _ _ _ _ (@pv _ 3 _ _ (by rfl) (by walk_at "v") (by decide) (by decide)) (@za _ _ _ _ _ (@pv _ 4 _ _ (by rfl) (by walk_at "v") (by decide) (by decide)) (@za _ _ _ _ _ (@pv _ 5 _ _ (by rfl) (by walk_at "v") (by decide) (by decide)) (@zc _) (by rfl)) (by rfl)) (by rfl)) (by rfl)) (by rfl)) (by decide) (by rfl) (by rfl)) (by intro _; rfl))) (@zi _ _ _ (@zy _ _ _ _ (@Qg _ _ _ _))) (@zI _)))) (@zI _)))))))))) (by intro _; rfl)) (@zi _ _ _ (@zy _ _ _ _ (@Qg _ _ _ _)))), ?_⟩
 refine ⟨_, rfl, by omega, by omega, ?_⟩
 refine ju (fun i σ H' => (∃ x1 x2 x3 x4 x5 x6 x7 x8, σ = [some (.ref a), x1, x2, x3, x4, x5, x6, x7, x8]) /\ SqL K H' a (ns.map V.int)) ⟨⟨_, _, _, _, _, _, _, _, rfl⟩, hS⟩ ?_ ?_
 ·rintro i σ H1 hi ⟨⟨x1, x2, x3, x4, x5, x6, x7, x8, rfl⟩, hS1⟩
  rw [show V.int (0 + (i : Int)) = nV i by show V.int _ = V.int _; rw [Int.zero_add]]
  obtain ⟨mo, hmo, mo1, mo9⟩ := at4k hi
  refine ⟨_, rfl, _, rfl, a, ns, i, rfl, hS1, h63, (by omega), fun c H2 s2 => ?_⟩
  refine ⟨zu (by show 4 <= 1000; decide), fun ga hga => ?_⟩
  have n2 := zg hga (.lst [.int 9, .int 4, .int 4, .int 3])
  refine ⟨_, rfl, .inl ⟨ga, _, (i : Int), _, rfl, rfl, SqL.of zd, hmo, c, mo, rfl, mo1, mo9, fun t v pl sv T L ps S H3 s3 ht ak p125 p3 z9 => ?_⟩⟩
  refine ⟨t, _, rfl, SqT.of ht, rfl, _, _, rfl, _, _, rfl, _, _, rfl, rfl, ?_⟩
  have hS3 : SqL K H3 a (ns.map V.int) := s3.seq (n2.seq (s2.seq hS1))
  have pn := ak.pn
  have zp : ∀ z ∈ ps, z.2.sz <= 9 := fun z hz => z9 z (List.mem_cons_of_mem _ hz)
  have S9 : S.sz <= 9 := z9 (sv, S) List.mem_cons_self
  have dpS := Sy.dp_sz S
  refine ⟨_, rfl, sv, S, rfl, ak.sv, ak.sz, (show _ <= 11 by omega), fun l0 H4 s4 _ hl0 => ?_⟩
  have ak4 := ak.same s4
  refine ⟨_, rfl, pl, rfl, ⟨_, SqL.of ak4.hp⟩, ?_⟩
  refine jm (xs := ps.map Prod.fst) (fun j σ H' => (∃ l x6, σ = [some (.ref a), some (nV i), some v, some (.ref pl), some sv, some (.ref l), x6, x7, x8] /\ H' l = some (.lst ((S.lets ++ (ps.take j).flatMap fun z => z.2.lets).map V.str))) /\ zF H4 H') ⟨⟨l0, _, rfl, by simpa using hl0⟩, zF.rfl'⟩ (fun j σ H' _ h => SqL.of (h.2 _ _ ak4.hp)) ?_ ?_
  ·rintro j x σ H5 hx ⟨⟨l, y6, rfl, hl⟩, s5⟩
   rw [List.getElem?_map] at hx
   obtain ⟨z, hz, rfl⟩ := Option.map_eq_some_iff.mp hx
   have zm := List.mem_of_getElem? hz
   have zs := zp z zm
   have dz := Sy.dp_sz z.2
   obtain ⟨k1, k2, k3, k4⟩ := ak4.ps z zm
   refine ⟨_, rfl, _, rfl, z.1, z.2, rfl, k4.same s5, k3, (show _ <= 11 by omega), fun l1 H6 s6 _ hl1 => ?_⟩
   have hb := Zo (ps.take j) fun y hy => (ak4.ps y (List.mem_of_mem_take hy)).2.2.1
   rw [List.length_take] at hb
   have b1 := jO S
   have b2 := jO z.2
   refine ⟨l, l1, _, _, rfl, rfl, s6 _ _ hl, hl1, by rw [List.length_map, List.length_map, List.length_append]; exact zu (by omega), fun l2 hl2 => ?_⟩
   have n7 := zg hl2 (.lst ((S.lets ++ (ps.take j).flatMap fun z => z.2.lets).map V.str ++ z.2.lets.map V.str))
   refine ⟨⟨l2, _, rfl, ?_⟩, s5.trans (s6.trans n7)⟩
   rw [zd, take_snoc hz, List.flatMap_append, <- List.map_append, List.append_assoc]
   simp only [List.flatMap_cons, List.flatMap_nil, List.append_nil]
  ·rintro σ H5 ⟨⟨l, y6, rfl, hl⟩, s5⟩
   rw [List.length_map, List.take_length] at hl
   have hb := Zo ps fun y hy => (ak4.ps y hy).2.2.1
   have b1 := jO S
   refine ⟨_, rfl, l, _, rfl, SqL.of hl, by rw [List.length_append]; omega, fun sa hsa => ?_⟩
   have hm : ∀ x, x ∈ QR (S.lets ++ ps.flatMap fun z => z.2.lets) ↔ (∃ z ∈ ps, x ∈ z.2.lets) \/ x ∈ S.lets := fun x => by
    rw [yx, List.mem_append, List.mem_flatMap]
    exact Or.comm
   have hin : ∀ x, x ∈ QR (S.lets ++ ps.flatMap fun z => z.2.lets) -> x ∈ L := fun x hx => by
    rcases (hm x).mp hx with ⟨z, hz, h⟩ | h
    ·exact (ak4.ps z hz).1.lets_in h
    ·exact ak4.gs.lets_in h
   have hd5 := Zf _ L (Qo _) hin
   have ln := ak.ln
   refine ⟨sa, _, rfl, zd, Qo _, by omega, fun la LT hla pm so => ?_⟩
   have n6 := (zg hsa _).trans (zg hla (.lst (LT.map V.str)))
   have ndL : LT.Nodup := pm.nodup_iff.mpr (Qo _)
   have hmL : ∀ x, x ∈ LT ↔ (∃ z ∈ ps, x ∈ z.2.lets) \/ x ∈ S.lets := fun x => by rw [pm.mem_iff, hm]
   have LTl : LT.length <= L.length := by rw [pm.length_eq]; exact hd5
   have pLT : T.m ^ LT.length <= 125 := Nat.le_trans (Nat.pow_le_pow_right ak.gt.m1 LTl) p125
   have ak6 := ak4.same (s5.trans n6)
   have hS6 := (s4.trans (s5.trans n6)).seq hS3
   have hla6 := upd_at hla (.lst (LT.map V.str))
   refine ⟨_, rfl, pl, _, rfl, .inl (SqL.of ak6.hp), fun hl' hhl => ?_⟩
   have n7 := zg hhl (.lst (ps.map Prod.fst))
   have akL : ∀ {H' : Hp} {p : Addr}, Ask H' v p sv T L ps S -> Ask H' v p sv T LT ps S := fun a => a.lets (fun x hx => hin x (pm.mem_iff.mp hx)) (fun z hz x hx => (hmL x).mpr (.inl ⟨z, hz, hx⟩)) (fun x hx => (hmL x).mpr (.inr hx)) (by omega)
   have ah := ak6.new n7 (z := (sv, S)) zd pn ak6.ps ak6.z
   have hh7 := upd_at hhl (.lst (ps.map Prod.fst))
   have ak7 := ak6.same n7
   have hS7 := n7.seq hS6
   have hla7 := n7 _ _ hla6
   refine ⟨_, rfl, _, rfl, _, rfl, ?_⟩
   dsimp only [tNil]
   refine fol19 ah ndL so hmL fun fv H8 s8 told => ?_
   refine ⟨_, rfl, _, rfl, _, rfl, _, rfl, _, rfl, fv, v, pl, sv, la, T, LT, ps, S, rfl, akL (ak7.same s8), s8 _ _ hla7, ndL, pLT, told, fun H9 s9 => ⟨_, rfl, ZU ?_⟩⟩
   have S9 := s8.trans s9
   refine ⟨_, rfl, _, rfl, hl', pl, _, rfl, rfl, S9 _ _ hh7, S9 _ _ ak7.hp, (fun v hv => by
    obtain ⟨z, hz, rfl⟩ := List.mem_map.mp hv
    exact sy_val (ak7.ps z hz).2.2.2), _, rfl, ZU ?_⟩
   have hS9 := S9.seq hS7
   rcases told with ⟨fol, t', tv', rfl, ht', sh⟩ | ⟨γ, t', d, gd, bar, rfl, ht', hd⟩
   ·refine ⟨_, rfl, .inr (.inl ⟨t', _, 0, _, rfl, rfl, SqT.of (s9 _ _ ht'), rfl, rfl, _, rfl, iteN (by decide +kernel) ⟨⟨_, _, _, _, _, _, _, _, rfl⟩, hS9⟩⟩)⟩
   ·refine ⟨_, rfl, .inr (.inl ⟨t', _, 0, _, rfl, rfl, SqT.of (s9 _ _ ht'), rfl, rfl, _, rfl, iteP (by simp) ?_⟩)⟩
    have hd9 := s9 _ _ hd
    have kl : (gkv LT γ).length <= 5 := by
     unfold gkv
     rw [List.length_map]
     omega
    refine ⟨_, rfl, .inr (.inl ⟨t', _, 1, _, rfl, rfl, SqT.of (s9 _ _ ht'), rfl, d, _, Sum.inr (Str.ofString "zz"), rfl, rfl, hd9, zr (by omega), ?_⟩)⟩
    have ahA := (ah.same S9).putD hd9 (.dK (j9 (gkv LT γ) (Sum.inr (Str.ofString "zz")) (.int 0)))
    have akA := (ak7.same S9).putD hd9 (.dK (j9 (gkv LT γ) (Sum.inr (Str.ofString "zz")) (.int 0)))
    have hSA := sq_putD hS9 hd9 (.dK (j9 (gkv LT γ) (Sum.inr (Str.ofString "zz")) (.int 0)))
    have hlaA : (upd H9 d (.dK (j9 (gkv LT γ) (Sum.inr (Str.ofString "zz")) (.int 0)))) la = some (.lst (LT.map V.str)) := by
     rw [zn (wC (S9 _ _ hla7) hd9 (by intro z; cases z))]
     exact S9 _ _ hla7
    generalize upd H9 d (.dK (j9 (gkv LT γ) (Sum.inr (Str.ofString "zz")) (.int 0))) = HA at *
    refine ⟨_, rfl, _, rfl, _, rfl, ?_⟩
    dsimp only [tNil]
    refine fol19 ahA ndL so hmL fun fv HB sB told2 => ?_
    refine ⟨_, rfl, _, rfl, _, rfl, _, rfl, fv, v, pl, sv, la, T, LT, ps, S, rfl, akL (akA.same sB), sB _ _ hlaA, ndL, pLT, told2, fun HC sC => ⟨_, rfl, ZU ⟨⟨_, _, _, _, _, _, _, _, rfl⟩, (sB.trans sC).seq hSA⟩⟩⟩
 ·rintro σ H1 _
  exact q H1
theorem wz {α : Type} : ∀ {us : List α}, us.length = 1 -> ∃ x0, us = [x0]
 | [x0], _ => ⟨x0, rfl⟩
theorem Wz {α : Type} : ∀ {us : List α}, us.length = 2 -> ∃ x0 x1, us = [x0, x1]
 | [x0, x1], _ => ⟨x0, x1, rfl⟩
theorem Yv {α : Type} : ∀ {us : List α}, us.length = 3 -> ∃ x0 x1 x2, us = [x0, x1, x2]
 | [x0, x1, x2], _ => ⟨x0, x1, x2, rfl⟩
theorem Xz {α : Type} : ∀ {us : List α}, us.length = 4 -> ∃ x0 x1 x2 x3, us = [x0, x1, x2, x3]
 | [x0, x1, x2, x3], _ => ⟨x0, x1, x2, x3, rfl⟩
theorem lenK5 {α : Type} : ∀ {us : List α}, us.length = 5 -> ∃ x0 x1 x2 x3 x4, us = [x0, x1, x2, x3, x4]
 | [x0, x1, x2, x3, x4], _ => ⟨x0, x1, x2, x3, x4, rfl⟩
theorem all_mk {l : PySem.W.OpenLaw} {w : World} {K : PySem.W.Frag} {h : Heap} {mg : Str -> Option Value} {fa f0 f1 f2 f3 f4 f5 f6 f7 f8 f9 f10 f11 f12 f13 f14 f15 f16 f17 f18 f19 f20 f21 f22 f23 f24 f25 f26 f27 f28 f29 f30 f31 : Addr} (X : K.In h) (G : h.Ns mainGlobals mg) (hfa : mg "law" = some (.ref fa))
  {od0 an0 od1 an1 od2 an2 od3 an3 od4 an4 od5 an5 od6 an6 od7 an7 od8 an8 od9 an9 od10 an10 od11 an11 od12 an12 od13 an13 od14 an14 od15 an15 od16 an16 od17 an17 od18 an18 od19 an19 od20 an20 od21 an21 od22 an22 od23 an23 od24 an24 od25 an25 od26 an26 od27 an27 od28 an28 od29 an29 od30 an30 od31 an31 : Option Addr} {sl0 sl1 sl2 sl3 sl4 sl5 sl6 sl7 sl8 sl9 sl10 sl11 sl12 sl13 sl14 sl15 sl16 sl17 sl18 sl19 sl20 sl21 sl22 sl23 sl24 sl25 sl26 sl27 sl28 sl29 sl30 sl31 : Array (Option Value)} {oc0 kV0 dc0 pm0 cd0 ct0 oc1 kV1 dc1 pm1 cd1 ct1 oc2 kV2 dc2 pm2 cd2 ct2 oc3 kV3 dc3 pm3 cd3 ct3 oc4 kV4 dc4 pm4 cd4 ct4 oc5 kV5 dc5 pm5 cd5 ct5 oc6 kV6 dc6 pm6 cd6 ct6 oc7 kV7 dc7 pm7 cd7 ct7 oc8 kV8 dc8 pm8 cd8 ct8 oc9 kV9 dc9 pm9 cd9 ct9 oc10 kV10 dc10 pm10 cd10 ct10 oc11 kV11 dc11 pm11 cd11 ct11 oc12 kV12 dc12 pm12 cd12 ct12 oc13 kV13 dc13 pm13 cd13 ct13 oc14 kV14 dc14 pm14 cd14 ct14 oc15 kV15 dc15 pm15 cd15 ct15 oc16 kV16 dc16 pm16 cd16 ct16 oc17 kV17 dc17 pm17 cd17 ct17 oc18 kV18 dc18 pm18 cd18 ct18 oc19 kV19 dc19 pm19 cd19 ct19 oc20 kV20 dc20 pm20 cd20 ct20 oc21 kV21 dc21 pm21 cd21 ct21 oc22 kV22 dc22 pm22 cd22 ct22 oc23 kV23 dc23 pm23 cd23 ct23 oc24 kV24 dc24 pm24 cd24 ct24 oc25 kV25 dc25 pm25 cd25 ct25 oc26 kV26 dc26 pm26 cd26 ct26 oc27 kV27 dc27 pm27 cd27 ct27 oc28 kV28 dc28 pm28 cd28 ct28 oc29 kV29 dc29 pm29 cd29 ct29 oc30 kV30 dc30 pm30 cd30 ct30 oc31 kV31 dc31 pm31 cd31 ct31 : Value}
  (a0 : PySem.W.nsIn K mainGlobals "has_small_letters_alone" = some (some (.ref f0))) (l0 : K.lookup f0 = some ⟨oc0, od0, .func (PySem.W.fnOf "has_small_letters_alone" "has_small_letters_alone" (zB zw) (zA zw) (zf zw) .none kV0 dc0 pm0 an0 cd0 ct0), sl0⟩) (c0 : PySem.W.codeIn K cd0 "has_small_letters_alone" = true) (k0 : PySem.W.keepIn K (.ref f0) = true)
  (a1 : PySem.W.nsIn K mainGlobals "is_letter" = some (some (.ref f1))) (l1 : K.lookup f1 = some ⟨oc1, od1, .func (PySem.W.fnOf "is_letter" "is_letter" (zB qW) (zA qW) (zf qW) .none kV1 dc1 pm1 an1 cd1 ct1), sl1⟩) (c1 : PySem.W.codeIn K cd1 "is_letter" = true) (k1 : PySem.W.keepIn K (.ref f1) = true)
  (a2 : PySem.W.nsIn K mainGlobals "written_parts" = some (some (.ref f2))) (l2 : K.lookup f2 = some ⟨oc2, od2, .func (PySem.W.fnOf "written_parts" "written_parts" (zB qe) (zA qe) (zf qe) .none kV2 dc2 pm2 an2 cd2 ct2), sl2⟩) (c2 : PySem.W.codeIn K cd2 "written_parts" = true) (k2 : PySem.W.keepIn K (.ref f2) = true)
  (a3 : PySem.W.nsIn K mainGlobals "letters_of_all" = some (some (.ref f3))) (l3 : K.lookup f3 = some ⟨oc3, od3, .func (PySem.W.fnOf "letters_of_all" "letters_of_all" (zB zR) (zA zR) (zf zR) .none kV3 dc3 pm3 an3 cd3 ct3), sl3⟩) (c3 : PySem.W.codeIn K cd3 "letters_of_all" = true) (k3 : PySem.W.keepIn K (.ref f3) = true)
  (a4 : PySem.W.nsIn K mainGlobals "with_letter" = some (some (.ref f4))) (l4 : K.lookup f4 = some ⟨oc4, od4, .func (PySem.W.fnOf "with_letter" "with_letter" (zB qB) (zA qB) (zf qB) .none kV4 dc4 pm4 an4 cd4 ct4), sl4⟩) (c4 : PySem.W.codeIn K cd4 "with_letter" = true) (k4 : PySem.W.keepIn K (.ref f4) = true)
  (a5 : PySem.W.nsIn K mainGlobals "cells_by_name" = some (some (.ref f5))) (l5 : K.lookup f5 = some ⟨oc5, od5, .func (PySem.W.fnOf "cells_by_name" "cells_by_name" (zB zX) (zA zX) (zf zX) .none kV5 dc5 pm5 an5 cd5 ct5), sl5⟩) (c5 : PySem.W.codeIn K cd5 "cells_by_name" = true) (k5 : PySem.W.keepIn K (.ref f5) = true)
  (a6 : PySem.W.nsIn K mainGlobals "check_names" = some (some (.ref f6))) (l6 : K.lookup f6 = some ⟨oc6, od6, .func (PySem.W.fnOf "check_names" "check_names" (zB qC) (zA qC) (zf qC) .none kV6 dc6 pm6 an6 cd6 ct6), sl6⟩) (c6 : PySem.W.codeIn K cd6 "check_names" = true) (k6 : PySem.W.keepIn K (.ref f6) = true)
  (a7 : PySem.W.nsIn K mainGlobals "next_places" = some (some (.ref f7))) (l7 : K.lookup f7 = some ⟨oc7, od7, .func (PySem.W.fnOf "next_places" "next_places" (zB qj) (zA qj) (zf qj) .none kV7 dc7 pm7 an7 cd7 ct7), sl7⟩) (c7 : PySem.W.codeIn K cd7 "next_places" = true) (k7 : PySem.W.keepIn K (.ref f7) = true)
  (a8 : PySem.W.nsIn K mainGlobals "possible_within" = some (some (.ref f8))) (l8 : K.lookup f8 = some ⟨oc8, od8, .func (PySem.W.fnOf "possible_within" "possible_within" (zB zM) (zA zM) (zf zM) .none kV8 dc8 pm8 an8 cd8 ct8), sl8⟩) (c8 : PySem.W.codeIn K cd8 "possible_within" = true) (k8 : PySem.W.keepIn K (.ref f8) = true)
  (a9 : PySem.W.nsIn K mainGlobals "is_closed" = some (some (.ref f9))) (l9 : K.lookup f9 = some ⟨oc9, od9, .func (PySem.W.fnOf "is_closed" "is_closed" (zB qv) (zA qv) (zf qv) .none kV9 dc9 pm9 an9 cd9 ct9), sl9⟩) (c9 : PySem.W.codeIn K cd9 "is_closed" = true) (k9 : PySem.W.keepIn K (.ref f9) = true)
  (a10 : PySem.W.nsIn K mainGlobals "answer_by" = some (some (.ref f10))) (l10 : K.lookup f10 = some ⟨oc10, od10, .func (PySem.W.fnOf "answer_by" "answer_by" (zB qK) (zA qK) (zf qK) .none kV10 dc10 pm10 an10 cd10 ct10), sl10⟩) (c10 : PySem.W.codeIn K cd10 "answer_by" = true) (k10 : PySem.W.keepIn K (.ref f10) = true)
  (a11 : PySem.W.nsIn K mainGlobals "follows" = some (some (.ref f11))) (l11 : K.lookup f11 = some ⟨oc11, od11, .func (PySem.W.fnOf "follows" "follows" (zB j2) (zA j2) (zf j2) .none kV11 dc11 pm11 an11 cd11 ct11), sl11⟩) (c11 : PySem.W.codeIn K cd11 "follows" = true) (k11 : PySem.W.keepIn K (.ref f11) = true)
  (a12 : PySem.W.nsIn K mainGlobals "_law_cell" = some (some (.ref f12))) (l12 : K.lookup f12 = some ⟨oc12, od12, .func (PySem.W.fnOf "_law_cell" "_law_cell" (zB jq) (zA jq) (zf jq) .none kV12 dc12 pm12 an12 cd12 ct12), sl12⟩) (c12 : PySem.W.codeIn K cd12 "_law_cell" = true) (k12 : PySem.W.keepIn K (.ref f12) = true)
  (a13 : PySem.W.nsIn K mainGlobals "_law_pool" = some (some (.ref f13))) (l13 : K.lookup f13 = some ⟨oc13, od13, .func (PySem.W.fnOf "_law_pool" "_law_pool" (zB jr) (zA jr) (zf jr) .none kV13 dc13 pm13 an13 cd13 ct13), sl13⟩) (c13 : PySem.W.codeIn K cd13 "_law_pool" = true) (k13 : PySem.W.keepIn K (.ref f13) = true)
  (a14 : PySem.W.nsIn K mainGlobals "_law_draw" = some (some (.ref f14))) (l14 : K.lookup f14 = some ⟨oc14, od14, .func (PySem.W.fnOf "_law_draw" "_law_draw" (zB js) (zA js) (zf js) .none kV14 dc14 pm14 an14 cd14 ct14), sl14⟩) (c14 : PySem.W.codeIn K cd14 "_law_draw" = true) (k14 : PySem.W.keepIn K (.ref f14) = true)
  (a15 : PySem.W.nsIn K mainGlobals "_law_name" = some (some (.ref f15))) (l15 : K.lookup f15 = some ⟨oc15, od15, .func (PySem.W.fnOf "_law_name" "_law_name" (zB qE) (zA qE) (zf qE) .none kV15 dc15 pm15 an15 cd15 ct15), sl15⟩) (c15 : PySem.W.codeIn K cd15 "_law_name" = true) (k15 : PySem.W.keepIn K (.ref f15) = true)
  (a16 : PySem.W.nsIn K mainGlobals "_law_cells" = some (some (.ref f16))) (l16 : K.lookup f16 = some ⟨oc16, od16, .func (PySem.W.fnOf "_law_cells" "_law_cells" (zB qY) (zA qY) (zf qY) .none kV16 dc16 pm16 an16 cd16 ct16), sl16⟩) (c16 : PySem.W.codeIn K cd16 "_law_cells" = true) (k16 : PySem.W.keepIn K (.ref f16) = true)
  (a17 : PySem.W.nsIn K mainGlobals "_law_half" = some (some (.ref f17))) (l17 : K.lookup f17 = some ⟨oc17, od17, .func (PySem.W.fnOf "_law_half" "_law_half" (zB qQ) (zA qQ) (zf qQ) .none kV17 dc17 pm17 an17 cd17 ct17), sl17⟩) (c17 : PySem.W.codeIn K cd17 "_law_half" = true) (k17 : PySem.W.keepIn K (.ref f17) = true)
  (a18 : PySem.W.nsIn K mainGlobals "_law_words" = some (some (.ref f18))) (l18 : K.lookup f18 = some ⟨oc18, od18, .func (PySem.W.fnOf "_law_words" "_law_words" (zB qM) (zA qM) (zf qM) .none kV18 dc18 pm18 an18 cd18 ct18), sl18⟩) (c18 : PySem.W.codeIn K cd18 "_law_words" = true) (k18 : PySem.W.keepIn K (.ref f18) = true)
  (a19 : PySem.W.nsIn K mainGlobals "_law_letters" = some (some (.ref f19))) (l19 : K.lookup f19 = some ⟨oc19, od19, .func (PySem.W.fnOf "_law_letters" "_law_letters" (zB qk) (zA qk) (zf qk) .none kV19 dc19 pm19 an19 cd19 ct19), sl19⟩) (c19 : PySem.W.codeIn K cd19 "_law_letters" = true) (k19 : PySem.W.keepIn K (.ref f19) = true)
  (a20 : PySem.W.nsIn K mainGlobals "_law_grown" = some (some (.ref f20))) (l20 : K.lookup f20 = some ⟨oc20, od20, .func (PySem.W.fnOf "_law_grown" "_law_grown" (zB qN) (zA qN) (zf qN) .none kV20 dc20 pm20 an20 cd20 ct20), sl20⟩) (c20 : PySem.W.codeIn K cd20 "_law_grown" = true) (k20 : PySem.W.keepIn K (.ref f20) = true)
  (a21 : PySem.W.nsIn K mainGlobals "_law_picked" = some (some (.ref f21))) (l21 : K.lookup f21 = some ⟨oc21, od21, .func (PySem.W.fnOf "_law_picked" "_law_picked" (zB qx) (zA qx) (zf qx) .none kV21 dc21 pm21 an21 cd21 ct21), sl21⟩) (c21 : PySem.W.codeIn K cd21 "_law_picked" = true) (k21 : PySem.W.keepIn K (.ref f21) = true)
  (a22 : PySem.W.nsIn K mainGlobals "_law_cells_of" = some (some (.ref f22))) (l22 : K.lookup f22 = some ⟨oc22, od22, .func (PySem.W.fnOf "_law_cells_of" "_law_cells_of" (zB zZ) (zA zZ) (zf zZ) .none kV22 dc22 pm22 an22 cd22 ct22), sl22⟩) (c22 : PySem.W.codeIn K cd22 "_law_cells_of" = true) (k22 : PySem.W.keepIn K (.ref f22) = true)
  (a23 : PySem.W.nsIn K mainGlobals "_law_grade" = some (some (.ref f23))) (l23 : K.lookup f23 = some ⟨oc23, od23, .func (PySem.W.fnOf "_law_grade" "_law_grade" (zB qZ) (zA qZ) (zf qZ) .none kV23 dc23 pm23 an23 cd23 ct23), sl23⟩) (c23 : PySem.W.codeIn K cd23 "_law_grade" = true) (k23 : PySem.W.keepIn K (.ref f23) = true)
  (a24 : PySem.W.nsIn K mainGlobals "_law_of" = some (some (.ref f24))) (l24 : K.lookup f24 = some ⟨oc24, od24, .func (PySem.W.fnOf "_law_of" "_law_of" (zB Zy) (zA Zy) (zf Zy) .none kV24 dc24 pm24 an24 cd24 ct24), sl24⟩) (c24 : PySem.W.codeIn K cd24 "_law_of" = true) (k24 : PySem.W.keepIn K (.ref f24) = true)
  (a25 : PySem.W.nsIn K mainGlobals "_law_bars" = some (some (.ref f25))) (l25 : K.lookup f25 = some ⟨oc25, od25, .func (PySem.W.fnOf "_law_bars" "_law_bars" (zB ja) (zA ja) (zf ja) .none kV25 dc25 pm25 an25 cd25 ct25), sl25⟩) (c25 : PySem.W.codeIn K cd25 "_law_bars" = true) (k25 : PySem.W.keepIn K (.ref f25) = true)
  (a26 : PySem.W.nsIn K mainGlobals "_law_gradings" = some (some (.ref f26))) (l26 : K.lookup f26 = some ⟨oc26, od26, .func (PySem.W.fnOf "_law_gradings" "_law_gradings" (zB qq) (zA qq) (zf qq) .none kV26 dc26 pm26 an26 cd26 ct26), sl26⟩) (c26 : PySem.W.codeIn K cd26 "_law_gradings" = true) (k26 : PySem.W.keepIn K (.ref f26) = true)
  (a27 : PySem.W.nsIn K mainGlobals "_law_possible" = some (some (.ref f27))) (l27 : K.lookup f27 = some ⟨oc27, od27, .func (PySem.W.fnOf "_law_possible" "_law_possible" (zB zU) (zA zU) (zf zU) .none kV27 dc27 pm27 an27 cd27 ct27), sl27⟩) (c27 : PySem.W.codeIn K cd27 "_law_possible" = true) (k27 : PySem.W.keepIn K (.ref f27) = true)
  (a28 : PySem.W.nsIn K mainGlobals "_law_shows" = some (some (.ref f28))) (l28 : K.lookup f28 = some ⟨oc28, od28, .func (PySem.W.fnOf "_law_shows" "_law_shows" (zB qy) (zA qy) (zf qy) .none kV28 dc28 pm28 an28 cd28 ct28), sl28⟩) (c28 : PySem.W.codeIn K cd28 "_law_shows" = true) (k28 : PySem.W.keepIn K (.ref f28) = true)
  (a29 : PySem.W.nsIn K mainGlobals "_law_right" = some (some (.ref f29))) (l29 : K.lookup f29 = some ⟨oc29, od29, .func (PySem.W.fnOf "_law_right" "_law_right" (zB qz) (zA qz) (zf qz) .none kV29 dc29 pm29 an29 cd29 ct29), sl29⟩) (c29 : PySem.W.codeIn K cd29 "_law_right" = true) (k29 : PySem.W.keepIn K (.ref f29) = true)
  (a30 : PySem.W.nsIn K mainGlobals "_law_asked" = some (some (.ref f30))) (l30 : K.lookup f30 = some ⟨oc30, od30, .func (PySem.W.fnOf "_law_asked" "_law_asked" (zB jb) (zA jb) (zf jb) .none kV30 dc30 pm30 an30 cd30 ct30), sl30⟩) (c30 : PySem.W.codeIn K cd30 "_law_asked" = true) (k30 : PySem.W.keepIn K (.ref f30) = true)
  (a31 : PySem.W.nsIn K mainGlobals "law" = some (some (.ref f31))) (l31 : K.lookup f31 = some ⟨oc31, od31, .func (PySem.W.fnOf "law" "law" (zB wy) (zA wy) (zf wy) .none kV31 dc31 pm31 an31 cd31 ct31), sl31⟩) (c31 : PySem.W.codeIn K cd31 "law" = true) (k31 : PySem.W.keepIn K (.ref f31) = true)
  (z0 : PySem.W.nsIn K mainGlobals "abs" = some none)
  (z1 : PySem.W.nsIn K mainGlobals "range" = some none)
  (z2 : PySem.W.nsIn K mainGlobals "tuple" = some none)
  (z3 : PySem.W.nsIn K mainGlobals "list" = some none)
  (z4 : PySem.W.nsIn K mainGlobals "isinstance" = some none)
  (z5 : PySem.W.nsIn K mainGlobals "int" = some none)
  (z6 : PySem.W.nsIn K mainGlobals "str" = some none)
  (z7 : PySem.W.nsIn K mainGlobals "len" = some none)
  (z8 : PySem.W.nsIn K mainGlobals "min" = some none)
  (z9 : PySem.W.nsIn K mainGlobals "all" = some none)
  (z10 : PySem.W.nsIn K mainGlobals "any" = some none)
  (z11 : PySem.W.nsIn K mainGlobals "dict" = some none)
  (z12 : PySem.W.nsIn K mainGlobals "set" = some none)
  (z13 : PySem.W.nsIn K mainGlobals "sorted" = some none)
  (z14 : PySem.W.nsIn K mainGlobals "reversed" = some none)
  (z15 : PySem.W.nsIn K mainGlobals "sum" = some none)
  (z16 : PySem.W.nsIn K mainGlobals "bool" = some none)
  : ∃ fd : FuncData, (∀ (s : Shared) (v : Value), BindsTo s fd ⟨[v], []⟩ [("_law_script", v)]) /\ ∀ base : Heap, K.In base -> base.Ns mainGlobals mg -> jT l.prog w K mg base CX0 33 fa fd ["_law_script"] (spLaw K) := by
 have e := hfa.symm.trans (PySem.W.mg_of X G a31)
 cases e
 have F0 := zS (st := zw) l0 c0 k0
 have b0 := F0.binds (ps := ["text"]) fun _ _ _ _ _ _ us hl => by obtain ⟨z0_, rfl⟩ := wz hl; rfl
 have F1 := zS (st := qW) l1 c1 k1
 have b1 := F1.binds (ps := ["thing"]) fun _ _ _ _ _ _ us hl => by obtain ⟨z0_, rfl⟩ := wz hl; rfl
 have F2 := zS (st := qe) l2 c2 k2
 have b2 := F2.binds (ps := ["S"]) fun _ _ _ _ _ _ us hl => by obtain ⟨z0_, rfl⟩ := wz hl; rfl
 have F3 := zS (st := zR) l3 c3 k3
 have b3 := F3.binds (ps := ["sayings"]) fun _ _ _ _ _ _ us hl => by obtain ⟨z0_, rfl⟩ := wz hl; rfl
 have F4 := zS (st := qB) l4 c4 k4
 have b4 := F4.binds (ps := ["by_letter", "letter", "given"]) fun _ _ _ _ _ _ us hl => by obtain ⟨z0_, z1_, z2_, rfl⟩ := Yv hl; rfl
 have F5 := zS (st := zX) l5 c5 k5
 have b5 := F5.binds (ps := ["H"]) fun _ _ _ _ _ _ us hl => by obtain ⟨z0_, rfl⟩ := wz hl; rfl
 have F6 := zS (st := qC) l6 c6 k6
 have b6 := F6.binds (ps := ["shapes", "parts"]) fun _ _ _ _ _ _ us hl => by obtain ⟨z0_, z1_, rfl⟩ := Wz hl; rfl
 have F7 := zS (st := qj) l7 c7 k7
 have b7 := F7.binds (ps := ["places", "many", "grades"]) fun _ _ _ _ _ _ us hl => by obtain ⟨z0_, z1_, z2_, rfl⟩ := Yv hl; rfl
 have F8 := zS (st := zM) l8 c8 k8
 have b8 := F8.binds (ps := ["cells", "many", "S", "sets"]) fun _ _ _ _ _ _ us hl => by obtain ⟨z0_, z1_, z2_, z3_, rfl⟩ := Xz hl; rfl
 have F9 := zS (st := qv) l9 c9 k9
 have b9 := F9.binds (ps := ["T", "premises", "S", "sets"]) fun _ _ _ _ _ _ us hl => by obtain ⟨z0_, z1_, z2_, z3_, rfl⟩ := Xz hl; rfl
 have F10 := zS (st := qK) l10 c10 k10
 have b10 := F10.binds (ps := ["T", "premises", "S", "letters", "sets"]) fun _ _ _ _ _ _ us hl => by obtain ⟨z0_, z1_, z2_, z3_, z4_, rfl⟩ := lenK5 hl; rfl
 have F11 := zS (st := j2) l11 c11 k11
 have b11 := F11.binds (ps := ["T", "premises", "S"]) fun _ _ _ _ _ _ us hl => by obtain ⟨z0_, z1_, z2_, rfl⟩ := Yv hl; rfl
 have F12 := zS (st := jq) l12 c12 k12
 have b12 := F12.binds (ps := ["_law_script", "_law_place"]) fun _ _ _ _ _ _ us hl => by obtain ⟨z0_, z1_, rfl⟩ := Wz hl; rfl
 have F13 := zS (st := jr) l13 c13 k13
 have b13 := F13.binds (ps := ["_law_cell_here"]) fun _ _ _ _ _ _ us hl => by obtain ⟨z0_, rfl⟩ := wz hl; rfl
 have F14 := zS (st := js) l14 c14 k14
 have b14 := F14.binds (ps := ["_law_pool_here", "_law_many"]) fun _ _ _ _ _ _ us hl => by obtain ⟨z0_, z1_, rfl⟩ := Wz hl; rfl
 have F15 := zS (st := qE) l15 c15 k15
 have b15 := F15.binds (ps := ["_law_pool_here", "_law_names"]) fun _ _ _ _ _ _ us hl => by obtain ⟨z0_, z1_, rfl⟩ := Wz hl; rfl
 have F16 := zS (st := qY) l16 c16 k16
 have b16 := F16.binds (ps := ["_law_pool_here", "_law_many", "_law_places", "_law_often"]) fun _ _ _ _ _ _ us hl => by obtain ⟨z0_, z1_, z2_, z3_, rfl⟩ := Xz hl; rfl
 have F17 := zS (st := qQ) l17 c17 k17
 have b17 := F17.binds (ps := ["_law_pool_here", "_law_most", "_law_connectives", "_law_often"]) fun _ _ _ _ _ _ us hl => by obtain ⟨z0_, z1_, z2_, z3_, rfl⟩ := Xz hl; rfl
 have F18 := zS (st := qM) l18 c18 k18
 have b18 := F18.binds (ps := ["_law_saying"]) fun _ _ _ _ _ _ us hl => by obtain ⟨z0_, rfl⟩ := wz hl; rfl
 have F19 := zS (st := qk) l19 c19 k19
 have b19 := F19.binds (ps := ["_law_pool_here", "_law_many"]) fun _ _ _ _ _ _ us hl => by obtain ⟨z0_, z1_, rfl⟩ := Wz hl; rfl
 have F20 := zS (st := qN) l20 c20 k20
 have b20 := F20.binds (ps := ["_law_pool_here", "_law_table", "_law_letters_here", "_law_steps", "_law_most"]) fun _ _ _ _ _ _ us hl => by obtain ⟨z0_, z1_, z2_, z3_, z4_, rfl⟩ := lenK5 hl; rfl
 have F21 := zS (st := qx) l21 c21 k21
 have b21 := F21.binds (ps := ["_law_pool_here", "_law_found", "_law_most"]) fun _ _ _ _ _ _ us hl => by obtain ⟨z0_, z1_, z2_, rfl⟩ := Yv hl; rfl
 have F22 := zS (st := zZ) l22 c22 k22
 have b22 := F22.binds (ps := ["_law_table", "_law_saying"]) fun _ _ _ _ _ _ us hl => by obtain ⟨z0_, z1_, rfl⟩ := Wz hl; rfl
 have F23 := zS (st := qZ) l23 c23 k23
 have b23 := F23.binds (ps := ["_law_table", "_law_saying", "_law_grading"]) fun _ _ _ _ _ _ us hl => by obtain ⟨z0_, z1_, z2_, rfl⟩ := Yv hl; rfl
 have F24 := zS (st := Zy) l24 c24 k24
 have b24 := F24.binds (ps := ["_law_saying"]) fun _ _ _ _ _ _ us hl => by obtain ⟨z0_, rfl⟩ := wz hl; rfl
 have F25 := zS (st := ja) l25 c25 k25
 have b25 := F25.binds (ps := ["_law_table", "_law_premises", "_law_saying", "_law_grading"]) fun _ _ _ _ _ _ us hl => by obtain ⟨z0_, z1_, z2_, z3_, rfl⟩ := Xz hl; rfl
 have F26 := zS (st := qq) l26 c26 k26
 have b26 := F26.binds (ps := ["_law_table", "_law_letters_here"]) fun _ _ _ _ _ _ us hl => by obtain ⟨z0_, z1_, rfl⟩ := Wz hl; rfl
 have F27 := zS (st := zU) l27 c27 k27
 have b27 := F27.binds (ps := ["_law_table", "_law_saying", "_law_sets"]) fun _ _ _ _ _ _ us hl => by obtain ⟨z0_, z1_, z2_, rfl⟩ := Yv hl; rfl
 have F28 := zS (st := qy) l28 c28 k28
 have b28 := F28.binds (ps := ["_law_tree", "_law_table", "_law_premises", "_law_saying", "_law_sets"]) fun _ _ _ _ _ _ us hl => by obtain ⟨z0_, z1_, z2_, z3_, z4_, rfl⟩ := lenK5 hl; rfl
 have F29 := zS (st := qz) l29 c29 k29
 have b29 := F29.binds (ps := ["_law_found", "_law_table", "_law_premises", "_law_saying", "_law_letters_here"]) fun _ _ _ _ _ _ us hl => by obtain ⟨z0_, z1_, z2_, z3_, z4_, rfl⟩ := lenK5 hl; rfl
 have F30 := zS (st := jb) l30 c30 k30
 have b30 := F30.binds (ps := ["_law_cell_here", "_law_most"]) fun _ _ _ _ _ _ us hl => by obtain ⟨z0_, z1_, rfl⟩ := Wz hl; rfl
 have F31 := zS (st := wy) l31 c31 k31
 have b31 := F31.binds (ps := ["_law_script"]) fun _ _ _ _ _ _ us hl => by obtain ⟨z0_, rfl⟩ := wz hl; rfl
 have gb : Gb mg := ⟨PySem.W.mg_none_of X G z0, PySem.W.mg_none_of X G z1, PySem.W.mg_none_of X G z2, PySem.W.mg_none_of X G z3, PySem.W.mg_none_of X G z4, PySem.W.mg_none_of X G z5, PySem.W.mg_none_of X G z6, PySem.W.mg_none_of X G z7, PySem.W.mg_none_of X G z8, PySem.W.mg_none_of X G z9, PySem.W.mg_none_of X G z10, PySem.W.mg_none_of X G z11, PySem.W.mg_none_of X G z12, PySem.W.mg_none_of X G z13, PySem.W.mg_none_of X G z14, PySem.W.mg_none_of X G z15, PySem.W.mg_none_of X G z16⟩
 refine ⟨PySem.W.fnOf "law" "law" (zB wy) (zA wy) (zf wy) .none kV31 dc31 pm31 an31 cd31 ct31, fun s v => .of_eq rfl, fun base _ _ => ?_⟩
 have d_has_small_letters_alone : Def l.prog w K mg base 1 "has_small_letters_alone" ["text"] WT := ⟨f0, _, jH F0 gb, PySem.W.mg_of X G a0, k0, b0⟩
 have d_is_letter : Def l.prog w K mg base 2 "is_letter" ["thing"] Yo := ⟨f1, _, Wn F1 gb d_has_small_letters_alone, PySem.W.mg_of X G a1, k1, b1⟩
 have d_written_parts : Def l.prog w K mg base 3 "written_parts" ["S"] yF := ⟨f2, _, QC F2 gb d_is_letter, PySem.W.mg_of X G a2, k2, b2⟩
 have d_letters_of_all : Def l.prog w K mg base 4 "letters_of_all" ["sayings"] wg := ⟨f3, _, Qt F3 gb d_written_parts d_is_letter, PySem.W.mg_of X G a3, k3, b3⟩
 have d_with_letter : Def l.prog w K mg base 1 "with_letter" ["by_letter", "letter", "given"] WU := ⟨f4, _, Jp F4 gb, PySem.W.mg_of X G a4, k4, b4⟩
 have d_cells_by_name : Def l.prog w K mg base 1 "cells_by_name" ["H"] spCbn := ⟨f5, _, QE F5 gb, PySem.W.mg_of X G a5, k5, b5⟩
 have d_check_names : Def l.prog w K mg base 3 "check_names" ["shapes", "parts"] Xi := ⟨f6, _, Jq F6 gb d_is_letter, PySem.W.mg_of X G a6, k6, b6⟩
 have d_next_places : Def l.prog w K mg base 1 "next_places" ["places", "many", "grades"] Xf := ⟨f7, _, Jr F7 gb, PySem.W.mg_of X G a7, k7, b7⟩
 have r_possible_within : ∀ j, Def l.prog w K mg base (6 + j) "possible_within" ["cells", "many", "S", "sets"] (yG j) := fun j => by
  induction j with
  | zero => exact ⟨f8, _, ⟨fun _ _ _ _ h => False.elim h, fun _ _ _ _ _ _ _ _ _ _ _ _ _ h => False.elim h⟩, PySem.W.mg_of X G a8, k8, b8⟩
  | succ j ih => exact ⟨f8, _, Qd F8 gb d_is_letter d_next_places j ih, PySem.W.mg_of X G a8, k8, b8⟩
 have d_possible_within := r_possible_within 12
 have d_is_closed : Def l.prog w K mg base 20 "is_closed" ["T", "premises", "S", "sets"] wj := ⟨f9, _, Wo F9 gb d_cells_by_name d_possible_within, PySem.W.mg_of X G a9, k9, b9⟩
 have r_answer_by : ∀ j, Def l.prog w K mg base (22 + j) "answer_by" ["T", "premises", "S", "letters", "sets"] (QJ j) := fun j => by
  induction j with
  | zero => exact ⟨f10, _, ⟨fun _ _ _ _ h => False.elim h, fun _ _ _ _ _ _ _ _ _ _ _ _ _ h => False.elim h⟩, PySem.W.mg_of X G a10, k10, b10⟩
  | succ j ih => exact ⟨f10, _, Wp F10 gb d_is_closed d_with_letter j ih, PySem.W.mg_of X G a10, k10, b10⟩
 have d_answer_by := r_answer_by 6
 have d_follows : Def l.prog w K mg base 30 "follows" ["T", "premises", "S"] Qb := ⟨f11, _, Yu F11 gb d_check_names d_cells_by_name d_written_parts d_letters_of_all d_answer_by, PySem.W.mg_of X G a11, k11, b11⟩
 have d_law_cell : Def l.prog w K mg base 1 "_law_cell" ["_law_script", "_law_place"] (WY K) := ⟨f12, _, W3 F12 gb, PySem.W.mg_of X G a12, k12, b12⟩
 have d_law_pool : Def l.prog w K mg base 1 "_law_pool" ["_law_cell_here"] Y7 := ⟨f13, _, W4 F13 gb, PySem.W.mg_of X G a13, k13, b13⟩
 have d_law_draw : Def l.prog w K mg base 1 "_law_draw" ["_law_pool_here", "_law_many"] ZW := ⟨f14, _, W5 F14 gb, PySem.W.mg_of X G a14, k14, b14⟩
 have d_law_name : Def l.prog w K mg base 2 "_law_name" ["_law_pool_here", "_law_names"] Xb := ⟨f15, _, W6 F15 gb d_law_draw, PySem.W.mg_of X G a15, k15, b15⟩
 have d_law_cells : Def l.prog w K mg base 2 "_law_cells" ["_law_pool_here", "_law_many", "_law_places", "_law_often"] WR := ⟨f16, _, Wr F16 gb d_law_draw, PySem.W.mg_of X G a16, k16, b16⟩
 have d_law_half : Def l.prog w K mg base 3 "_law_half" ["_law_pool_here", "_law_most", "_law_connectives", "_law_often"] Xc := ⟨f17, _, W7 F17 gb d_law_draw d_law_name d_law_cells, PySem.W.mg_of X G a17, k17, b17⟩
 have r_law_words : ∀ j, Def l.prog w K mg base (6 + j) "_law_words" ["_law_saying"] (wm j) := fun j => by
  induction j with
  | zero => exact ⟨f18, _, ⟨fun _ _ _ _ h => False.elim h, fun _ _ _ _ _ _ _ _ _ _ _ _ _ h => False.elim h⟩, PySem.W.mg_of X G a18, k18, b18⟩
  | succ j ih => exact ⟨f18, _, Wt F18 gb j ih, PySem.W.mg_of X G a18, k18, b18⟩
 have d_law_words := r_law_words 12
 have d_law_letters : Def l.prog w K mg base 2 "_law_letters" ["_law_pool_here", "_law_many"] Qq := ⟨f19, _, Js F19 gb d_law_draw, PySem.W.mg_of X G a19, k19, b19⟩
 have d_law_grown : Def l.prog w K mg base 20 "_law_grown" ["_law_pool_here", "_law_table", "_law_letters_here", "_law_steps", "_law_most"] WX := ⟨f20, _, Wu F20 gb d_law_draw d_law_words, PySem.W.mg_of X G a20, k20, b20⟩
 have d_law_picked : Def l.prog w K mg base 2 "_law_picked" ["_law_pool_here", "_law_found", "_law_most"] wn := ⟨f21, _, wx F21 gb d_law_draw, PySem.W.mg_of X G a21, k21, b21⟩
 have d_law_cells_of : Def l.prog w K mg base 1 "_law_cells_of" ["_law_table", "_law_saying"] Qc := ⟨f22, _, Jg F22 gb, PySem.W.mg_of X G a22, k22, b22⟩
 have r_law_grade : ∀ j, Def l.prog w K mg base (6 + j) "_law_grade" ["_law_table", "_law_saying", "_law_grading"] (wo j) := fun j => by
  induction j with
  | zero => exact ⟨f23, _, ⟨fun _ _ _ _ h => False.elim h, fun _ _ _ _ _ _ _ _ _ _ _ _ _ h => False.elim h⟩, PySem.W.mg_of X G a23, k23, b23⟩
  | succ j ih => exact ⟨f23, _, Wv F23 gb d_law_cells_of j ih, PySem.W.mg_of X G a23, k23, b23⟩
 have d_law_grade := r_law_grade 12
 have r_law_of : ∀ j, Def l.prog w K mg base (6 + j) "_law_of" ["_law_saying"] (spOfL j) := fun j => by
  induction j with
  | zero => exact ⟨f24, _, ⟨fun _ _ _ _ h => False.elim h, fun _ _ _ _ _ _ _ _ _ _ _ _ _ h => False.elim h⟩, PySem.W.mg_of X G a24, k24, b24⟩
  | succ j ih => exact ⟨f24, _, Xy F24 gb j ih, PySem.W.mg_of X G a24, k24, b24⟩
 have d_law_of := r_law_of 12
 have d_law_bars : Def l.prog w K mg base 20 "_law_bars" ["_law_table", "_law_premises", "_law_saying", "_law_grading"] WZ := ⟨f25, _, W9 F25 gb d_law_grade, PySem.W.mg_of X G a25, k25, b25⟩
 have d_law_gradings : Def l.prog w K mg base 1 "_law_gradings" ["_law_table", "_law_letters_here"] Qs := ⟨f26, _, Jh F26 gb, PySem.W.mg_of X G a26, k26, b26⟩
 have r_law_possible : ∀ j, Def l.prog w K mg base (6 + j) "_law_possible" ["_law_table", "_law_saying", "_law_sets"] (wt j) := fun j => by
  induction j with
  | zero => exact ⟨f27, _, ⟨fun _ _ _ _ h => False.elim h, fun _ _ _ _ _ _ _ _ _ _ _ _ _ h => False.elim h⟩, PySem.W.mg_of X G a27, k27, b27⟩
  | succ j ih => exact ⟨f27, _, Ji F27 gb d_law_cells_of j ih, PySem.W.mg_of X G a27, k27, b27⟩
 have d_law_possible := r_law_possible 12
 have r_law_shows : ∀ j, Def l.prog w K mg base (20 + j) "_law_shows" ["_law_tree", "_law_table", "_law_premises", "_law_saying", "_law_sets"] (wv j) := fun j => by
  induction j with
  | zero => exact ⟨f28, _, ⟨fun _ _ _ _ h => False.elim h, fun _ _ _ _ _ _ _ _ _ _ _ _ _ h => False.elim h⟩, PySem.W.mg_of X G a28, k28, b28⟩
  | succ j ih => exact ⟨f28, _, Ww F28 gb d_law_possible j ih, PySem.W.mg_of X G a28, k28, b28⟩
 have d_law_shows := r_law_shows 6
 have d_law_right : Def l.prog w K mg base 28 "_law_right" ["_law_found", "_law_table", "_law_premises", "_law_saying", "_law_letters_here"] ww := ⟨f29, _, Wx F29 gb d_law_gradings d_law_bars d_law_shows, PySem.W.mg_of X G a29, k29, b29⟩
 have d_law_asked : Def l.prog w K mg base 22 "_law_asked" ["_law_cell_here", "_law_most"] W1 := ⟨f30, _, Wy F30 gb d_law_pool d_law_draw d_law_half d_law_letters d_law_grown d_law_picked, PySem.W.mg_of X G a30, k30, b30⟩
 exact ok_law F31 gb d_law_cell d_law_asked d_follows d_law_right d_law_of
theorem walk {l : PySem.W.OpenLaw} {q : Program} {loose : List Str} {XP : (Str -> Option Value) -> Heap -> Prop} {YP : World -> Heap -> Prop} {d : DefRec} {K : Params -> PySem.W.Frag} (hn : l.most = some 63) (hdf : d.params.defaults = [])
  (hY : ∀ (w : World) (h : Heap), YP w h -> (K w.params).In h)
  (F : ∀ (w : World) (mg : Str -> Option Value) (fa : Addr) (h : Heap), (K w.params).In h -> h.Ns mainGlobals mg -> mg d.name = some (.ref fa) ->
   ∃ fd : FuncData, (∀ (s : Shared) (u : Value), BindsTo s fd ⟨[u], []⟩ [("_law_script", u)]) /\ ∀ base : Heap, (K w.params).In base -> base.Ns mainGlobals mg -> jT l.prog w (K w.params) mg base CX0 33 fa fd ["_law_script"] (spLaw (K w.params))) :
  PySem.W.WalkO q loose XP YP l.row.toRowW d [] (fun f vs => PySem.call f vs) :=
 L2.YX (n := 63) (k := 33) (x := "_law_script") (CX := fun _ => CX0) (sp := fun w => spLaw (K w.params)) hn (by decide) hdf ⟨rfl, by decide, by decide⟩ hY F (fun _ _ a ns hl _ hS => ⟨a, ns, rfl, hS, hl, fun _ => rfl⟩) fun _ _ _ _ _ z => z
end K19
open PySem PySem.W PyProof.Rows
-- This name is taken so that no faster copy of one heap constant is laid: nothing uses that copy, and with it the
-- compiled file is too large. The proof does not use the name either.
theorem PySem.W.Fast.tw14895584026309829547 : True := trivial
set_option maxRecDepth 100000 in
set_option maxHeartbeats 0 in
theorem PySem.Challenge.cw_truthgrades_k19_what_follows_holds : PySem.Challenge.rw_truthgrades_k19_what_follows.Holds := by
 w_on; o_law; k_head; (case hw => w_witness2)
 k_fill
 refine K19.walk (l := PySem.Challenge.rw_truthgrades_k19_what_follows) rfl rfl (fun w h Y => PySem.W.kIn_of Y) ?F
 case F =>
  intro w mg fa h KX G hmg
  refine' K19.all_mk KX G hmg ?a0 ?l0 ?c0 ?k0 ?a1 ?l1 ?c1 ?k1 ?a2 ?l2 ?c2 ?k2 ?a3 ?l3 ?c3 ?k3 ?a4 ?l4 ?c4 ?k4 ?a5 ?l5 ?c5 ?k5 ?a6 ?l6 ?c6 ?k6 ?a7 ?l7 ?c7 ?k7 ?a8 ?l8 ?c8 ?k8 ?a9 ?l9 ?c9 ?k9 ?a10 ?l10 ?c10 ?k10 ?a11 ?l11 ?c11 ?k11 ?a12 ?l12 ?c12 ?k12 ?a13 ?l13 ?c13 ?k13 ?a14 ?l14 ?c14 ?k14 ?a15 ?l15 ?c15 ?k15 ?a16 ?l16 ?c16 ?k16 ?a17 ?l17 ?c17 ?k17 ?a18 ?l18 ?c18 ?k18 ?a19 ?l19 ?c19 ?k19 ?a20 ?l20 ?c20 ?k20 ?a21 ?l21 ?c21 ?k21 ?a22 ?l22 ?c22 ?k22 ?a23 ?l23 ?c23 ?k23 ?a24 ?l24 ?c24 ?k24 ?a25 ?l25 ?c25 ?k25 ?a26 ?l26 ?c26 ?k26 ?a27 ?l27 ?c27 ?k27 ?a28 ?l28 ?c28 ?k28 ?a29 ?l29 ?c29 ?k29 ?a30 ?l30 ?c30 ?k30 ?a31 ?l31 ?c31 ?k31 ?z0 ?z1 ?z2 ?z3 ?z4 ?z5 ?z6 ?z7 ?z8 ?z9 ?z10 ?z11 ?z12 ?z13 ?z14 ?z15 ?z16
  (case a0 => k_is); (case l0 => k_is); (case c0 => k_is); (case k0 => k_is)
  (case a1 => k_is); (case l1 => k_is); (case c1 => k_is); (case k1 => k_is)
  (case a2 => k_is); (case l2 => k_is); (case c2 => k_is); (case k2 => k_is)
  (case a3 => k_is); (case l3 => k_is); (case c3 => k_is); (case k3 => k_is)
  (case a4 => k_is); (case l4 => k_is); (case c4 => k_is); (case k4 => k_is)
  (case a5 => k_is); (case l5 => k_is); (case c5 => k_is); (case k5 => k_is)
  (case a6 => k_is); (case l6 => k_is); (case c6 => k_is); (case k6 => k_is)
  (case a7 => k_is); (case l7 => k_is); (case c7 => k_is); (case k7 => k_is)
  (case a8 => k_is); (case l8 => k_is); (case c8 => k_is); (case k8 => k_is)
  (case a9 => k_is); (case l9 => k_is); (case c9 => k_is); (case k9 => k_is)
  (case a10 => k_is); (case l10 => k_is); (case c10 => k_is); (case k10 => k_is)
  (case a11 => k_is); (case l11 => k_is); (case c11 => k_is); (case k11 => k_is)
  (case a12 => k_is); (case l12 => k_is); (case c12 => k_is); (case k12 => k_is)
  (case a13 => k_is); (case l13 => k_is); (case c13 => k_is); (case k13 => k_is)
  (case a14 => k_is); (case l14 => k_is); (case c14 => k_is); (case k14 => k_is)
  (case a15 => k_is); (case l15 => k_is); (case c15 => k_is); (case k15 => k_is)
  (case a16 => k_is); (case l16 => k_is); (case c16 => k_is); (case k16 => k_is)
  (case a17 => k_is); (case l17 => k_is); (case c17 => k_is); (case k17 => k_is)
  (case a18 => k_is); (case l18 => k_is); (case c18 => k_is); (case k18 => k_is)
  (case a19 => k_is); (case l19 => k_is); (case c19 => k_is); (case k19 => k_is)
  (case a20 => k_is); (case l20 => k_is); (case c20 => k_is); (case k20 => k_is)
  (case a21 => k_is); (case l21 => k_is); (case c21 => k_is); (case k21 => k_is)
  (case a22 => k_is); (case l22 => k_is); (case c22 => k_is); (case k22 => k_is)
  (case a23 => k_is); (case l23 => k_is); (case c23 => k_is); (case k23 => k_is)
  (case a24 => k_is); (case l24 => k_is); (case c24 => k_is); (case k24 => k_is)
  (case a25 => k_is); (case l25 => k_is); (case c25 => k_is); (case k25 => k_is)
  (case a26 => k_is); (case l26 => k_is); (case c26 => k_is); (case k26 => k_is)
  (case a27 => k_is); (case l27 => k_is); (case c27 => k_is); (case k27 => k_is)
  (case a28 => k_is); (case l28 => k_is); (case c28 => k_is); (case k28 => k_is)
  (case a29 => k_is); (case l29 => k_is); (case c29 => k_is); (case k29 => k_is)
  (case a30 => k_is); (case l30 => k_is); (case c30 => k_is); (case k30 => k_is)
  (case a31 => k_is); (case l31 => k_is); (case c31 => k_is); (case k31 => k_is)
  (case z0 => k_is)
  (case z1 => k_is)
  (case z2 => k_is)
  (case z3 => k_is)
  (case z4 => k_is)
  (case z5 => k_is)
  (case z6 => k_is)
  (case z7 => k_is)
  (case z8 => k_is)
  (case z9 => k_is)
  (case z10 => k_is)
  (case z11 => k_is)
  (case z12 => k_is)
  (case z13 => k_is)
  (case z14 => k_is)
  (case z15 => k_is)
  (case z16 => k_is)
