import PyProof.Rows.All
import Wide.All
import OpenK.AllK
import Wide.FinOn
import Lean
import PyProof.EqAt
import PyProof.EqKinds
import PyProof.TupleCall
import PySem.Challenge.RW_truthgrades_k27_whole_what_is_said
set_option bootstrap.genMatcherCode false
set_option genSizeOfSpec false
local macro_rules | `(tactic| omega) => `(tactic| lia)
set_option maxHeartbeats 4000000
set_option maxRecDepth 100000
set_option linter.all false
set_option Elab.async false
namespace L2
open PySem PySem.Spec PyProof.Rows
abbrev Key := Sum Int Str
def wv : Key -> Value -> Bool
 | .inl k, v => Value.isInt k v
 | .inr x, v => Value.isStrOf x v
def keyH (w : World) : Key -> Int
 | .inl k => hashInt k
 | .inr x => hashStr w x
theorem qa : ∀ {k : Key} {v : Value}, wv k v = true -> (∃ i t, k = Sum.inl i /\ v = Value.int i t) \/ (∃ x t, k = Sum.inr x /\ v = Value.str x t)
 | .inl i, v, h => by
  obtain ⟨t, e⟩ := Value.isInt_shape (k := i) (v := v) h
  exact .inl ⟨i, t, rfl, e⟩
 | .inr x, v, h => by
  obtain ⟨t, e⟩ := Value.isStrOf_shape (x := x) (v := v) h
  exact .inr ⟨x, t, rfl, e⟩
theorem yy (i : Int) (t : Tok) : wv (.inl i) (.int i t) = true := by simp [wv, Value.isInt]
theorem yz (x : Str) (t : Tok) : wv (.inr x) (.str x t) = true := by simp [wv, Value.isStrOf]
theorem key_ll (a b : Int) : decide ((Sum.inl a : Key) = Sum.inl b) = (a == b) := by
 by_cases e : a = b
 ·subst e; simp
 ·have h : ¬ (Sum.inl a : Key) = Sum.inl b := fun q => e (Sum.inl.inj q)
  rw [decide_eq_false h]
  exact (beq_eq_false_iff_ne.mpr e).symm
theorem key_rr (a b : Str) : decide ((Sum.inr a : Key) = Sum.inr b) = decide (a = b) := by
 by_cases e : a = b
 ·subst e; simp
 ·have h : ¬ (Sum.inr a : Key) = Sum.inr b := fun q => e (Sum.inr.inj q)
  rw [decide_eq_false h, decide_eq_false e]
theorem key_lr (a : Int) (b : Str) : decide ((Sum.inl a : Key) = Sum.inr b) = false := decide_eq_false (fun q => nomatch q)
theorem key_rl (a : Str) (b : Int) : decide ((Sum.inr a : Key) = Sum.inl b) = false := decide_eq_false (fun q => nomatch q)
def zw (prog : Program) (w : World) : PySem.KeyKind prog w Key where
 is := wv
 hash := keyH w
 inj := fun v a b ha hb => by
  rcases qa ha with ⟨i, t, rfl, rfl⟩ | ⟨x, t, rfl, rfl⟩
  ·rcases qa hb with ⟨j, u, rfl, e⟩ | ⟨y, u, rfl, e⟩
   ·injection e with e1 _; rw [e1]
   ·exact nomatch e
  ·rcases qa hb with ⟨j, u, rfl, e⟩ | ⟨y, u, rfl, e⟩
   ·exact nomatch e
   ·injection e with e1 _; rw [e1]
 byValue := fun k v h => by
  rcases qa h with ⟨i, t, rfl, rfl⟩ | ⟨x, t, rfl, rfl⟩ <;> rfl
 pyHash := fun hv h => by
  rcases qa hv with ⟨i, t, rfl, rfl⟩ | ⟨x, t, rfl, rfl⟩
  ·exact wpAny_pyHash_int h
  ·exact wpAny_pyHash_str h
 eqBool := fun hu hv h => by
  rcases qa hu with ⟨i, t, rfl, rfl⟩ | ⟨x, t, rfl, rfl⟩
  ·rcases qa hv with ⟨j, u, rfl, rfl⟩ | ⟨y, u, rfl, rfl⟩
   ·rw [key_ll] at h; exact wpAny_eqBool_int h
   ·rw [key_lr] at h; exact SeqAt.EqAt.int_str i t y u _ _ _ _ h
  ·rcases qa hv with ⟨j, u, rfl, rfl⟩ | ⟨y, u, rfl, rfl⟩
   ·rw [key_rl] at h; exact SeqAt.EqAt.str_int x t j u _ _ _ _ h
   ·rw [key_rr] at h; exact wpAny_eqBool_str h
 «strs» := fun k x t v h => by
  rcases qa h with ⟨i, u, rfl, e⟩ | ⟨y, u, rfl, e⟩
  ·exact nomatch e
  ·injection e with e1 _
   subst e1
   cases v <;> rfl
theorem wx (prog : Program) (w : World) (i : Int) (t : Tok) : (zw prog w).is (.inl i) (.int i t) = true := yy i t
theorem wy (prog : Program) (w : World) (x : Str) (t : Tok) : (zw prog w).is (.inr x) (.str x t) = true := yz x t
end L2
namespace L2
open PySem PySem.Spec PyProof.Rows
inductive V where
 | non | bl (b : Bool) | int (i : Int) | str (x : Str) | byt (b : Array UInt8) | flt (b : UInt64) | ref (a : Addr) | ty (n : String)
 deriving DecidableEq
def RelV : V -> Value -> Prop
 | .non, u => u = Value.none
 | .bl b, u => u = Value.bool b
 | .int i, u => ∃ t, u = Value.int i t
 | .str x, u => ∃ t, u = Value.str x t
 | .byt b, u => ∃ t, u = Value.bytes b t
 | .flt b, u => ∃ t, u = Value.float b t
 | .ref a, u => u = Value.ref a
 | .ty n, u => u = Value.type n
abbrev qe : List V -> List Value -> Prop := Paired RelV
theorem qe.length {xs : List V} {us : List Value} (r : qe xs us) : xs.length = us.length := Paired.length r
theorem qe.get : ∀ {xs : List V} {us : List Value} {i : Nat} {x : V}, qe xs us -> xs[i]? = some x -> ∃ u, us[i]? = some u /\ RelV x u
 | _, _, _, _, .nil, e => by simp at e
 | _, _, 0, _, .cons r _, e => by simp at e; subst e; exact ⟨_, rfl, r⟩
 | _, _, i + 1, x, .cons _ t, e => by
  obtain ⟨u, h1, h2⟩ := qe.get (i := i) (x := x) t (by simpa using e)
  exact ⟨u, by simpa using h1, h2⟩
theorem qe.set {x : V} {u : Value} (r : RelV x u) : ∀ {xs : List V} {us : List Value} (i : Nat), qe xs us -> qe (xs.set i x) (us.set i u)
 | _, _, _, .nil => .nil
 | _, _, 0, .cons _ t => .cons r t
 | _, _, i + 1, .cons q t => .cons q (qe.set r i t)
theorem qe.append : ∀ {xs ys : List V} {us ws : List Value}, qe xs us -> qe ys ws -> qe (xs ++ ys) (us ++ ws)
 | _, _, _, _, .nil, s => s
 | _, _, _, _, .cons r t, s => .cons r (qe.append t s)
theorem qe.take : ∀ {xs : List V} {us : List Value} (n : Nat), qe xs us -> qe (xs.take n) (us.take n)
 | _, _, 0, _ => .nil
 | _, _, _ + 1, .nil => .nil
 | _, _, n + 1, .cons r t => .cons r (qe.take n t)
theorem qe.drop : ∀ {xs : List V} {us : List Value} (n : Nat), qe xs us -> qe (xs.drop n) (us.drop n)
 | _, _, 0, r => r
 | _, _, _ + 1, .nil => .nil
 | _, _, n + 1, .cons _ t => qe.drop n t
def yu : Option V -> Option Value -> Prop
 | some v, some u => RelV v u
 | none, none => True
 | _, _ => False
def KV {κ : Type} : List (κ × V) -> List (κ × Value) -> Prop := Paired fun (p : κ × V) (q : κ × Value) => p.1 = q.1 /\ RelV p.2 q.2
def kV : Key -> V
 | .inl i => .int i
 | .inr x => .str x
def PTup (h : Heap) (a : Addr) (items : Array Value) : Prop := ∃ o, h.get? a = some o /\ o.cls = .type "tuple" /\ (∃ n, o.data = .seq items n) /\ o.dict = none
theorem PTup.lt {h : Heap} {a : Addr} {items : Array Value} (x : PTup h a items) : a < h.objs.size := let ⟨_, e, _⟩ := x; Heap.lt_size e
theorem PTup.isTup {h : Heap} {a : Addr} {items : Array Value} (x : PTup h a items) : IsTup h a items := let ⟨o, e, c, n, _⟩ := x; ⟨o, e, c, n⟩
theorem PTup.new (h : Heap) (items : Array Value) : PTup (h.push { cls := .type "tuple", data := .seq items }) h.objs.size items := ⟨_, Heap.get?_push_size _ rfl, rfl, ⟨_, rfl⟩, rfl⟩
inductive HO where
 /-- a list -/
 | lst (xs : List V)
 /-- a tuple (never changes) -/
 | tup (xs : List V)
 /-- a dict whose keys are ints and texts; one whose keys are tuples of ints and texts (the empty one is both) -/
 | dK (kvs : List (Key × V)) | dT (kvs : List (List Key × V))
 /-- a set of ints: its members, its size -/
 | set (S : Int -> Bool) (n : Nat)
 /-- an instance of the class at C, its dict at dx, its attributes -/
 | ins (C dx : Addr) (fs : List (Str × V))
 /-- the dict of the instance at x -/
 | own (x : Addr)
 /-- the dict of an exception -/
 | xd (fs : List (Str × V))
 /-- a bound method, f of x -/
 | met (f x : Addr)
 /-- a range object lo, lo + 1, .. below hi -/
 | rng (lo hi : Int)
 /-- a thing that is known to the object (the script; a dict while a loop walks it): read, never written while it is so -/
 | frz (o : Obj) (u : HO)
 /-- a code object's table -/
 | tbl (ps : Array Value)
 /-- any other thing, by what is true of its one object (a def of one's own: SetO a S n := HO.ext fun h => ..) -/
 | ext (φ : Heap -> Prop)
abbrev Hp := Addr -> Option HO
def upd (H : Hp) (a : Addr) (o : HO) : Hp := fun b => if b = a then some o else H b
theorem zd {H : Hp} {a : Addr} {o : HO} : upd H a o a = some o := by unfold upd; rw [if_pos rfl]
theorem zE {H : Hp} {a b : Addr} {o : HO} (h : b ≠ a) : upd H a o b = H b := by unfold upd; rw [if_neg h]
theorem yA {H : Hp} {a b : Addr} {o u : HO} (h : H a = some o) (h' : H b = some u) (d : o ≠ u) : a ≠ b := by
 intro e; subst e; rw [h] at h'; exact d (Option.some.inj h')
theorem zF {H : Hp} {a b : Addr} {o : HO} (h : H a = some o) (h' : H b = none) : a ≠ b := by
 intro e; subst e; rw [h] at h'; cases h'
section
variable (P : Program) (w : World)
def qc (H : Hp) (h : Heap) (a : Addr) : HO -> Prop
 | .lst xs => xs.length <= sizeLine /\ ∃ (its : List Value) (n : Nat), qe xs its /\ h.get? a = some { cls := .type "list", data := .seq its.toArray n }
 | .tup xs => xs.length <= sizeLine /\ ∃ its : List Value, qe xs its /\ PTup h a its.toArray
 | .dK kvs => kvs.length <= sizeLine /\ (a == sysModules) = false /\ ∃ vs, KV kvs vs /\ h.DictOf (zw P w) a vs
 | .dT kvs => kvs.length <= sizeLine /\ (a == sysModules) = false /\ ∃ xs : List (List Key × Addr × Value),
   Paired (fun (p : List Key × V) (q : List Key × Addr × Value) => p.1 = q.1 /\ H q.2.1 = some (.tup (p.1.map kV)) /\ RelV p.2 q.2.2) kvs xs /\
   ∃ o es ep, h.get? a = some o /\ o.ExactDict /\ o.data = .dict es ep /\ es.toList = xs.map (entryOfKey (tupleKind (zw P w))) /\ (xs.map (·.1)).Nodup
 | .set S n => h.SetOf (intKind P w) a S n
 | .ins C dx fs => H dx = some (.own a) /\ fs.length <= 1000 /\ dx ≠ a /\ h.get? a = some (PySem.W.instObj C dx) /\
   ∃ mA, h.Ns1 dx mA /\ (∀ f, yu (fs.lookup f) (mA f)) /\ PySem.Within mA (fs.map (·.1))
 | .own _ => ∃ o, h.get? a = some o
 | .xd fs => ∃ mA, h.Ns1 a mA /\ ∀ f, yu (fs.lookup f) (mA f)
 | .rng lo hi => ∃ t u v, h.get? a = some { cls := .type "range", data := .fields #[.int lo t, .int hi u, .int 1 v] }
 | .frz o u => h.get? a = some o /\ qc H h a u
 | .tbl ps => h.get? a = some { cls := .none, data := .fields ps }
 | .met f x => h.get? a = some (PySem.W.methodObj (.ref f) (.ref x))
 | .ext φ => φ h /\ (∃ o, h.get? a = some o) /\ ∀ h1 h2 : Heap, φ h1 -> (∀ o, h1.get? a = some o -> h2.get? a = some o) -> φ h2
def HOk (H : Hp) (h : Heap) : Prop := ∀ a o, H a = some o -> qc P w H h a o
end
section
variable {P : Program} {w : World} {H H' : Hp} {h h' : Heap} {a : Addr} {o : HO}
theorem qc.lt (x : qc P w H h a o) : a < h.objs.size := by
 cases o with
 | lst xs => obtain ⟨_, _, _, _, e⟩ := x; exact Heap.lt_size e
 | tup xs => obtain ⟨_, _, _, p⟩ := x; exact p.lt
 | dK kvs => obtain ⟨_, _, _, _, o, _, _, e, _⟩ := x; exact Heap.lt_size e
 | dT kvs => obtain ⟨_, _, _, _, o, _, _, e, _⟩ := x; exact Heap.lt_size e
 | set S n => obtain ⟨o, _, _, _, e, _⟩ := x; exact Heap.lt_size e
 | ins C dx fs => obtain ⟨_, _, _, e, _⟩ := x; exact Heap.lt_size e
 | own y => obtain ⟨_, e⟩ := x; exact Heap.lt_size e
 | xd fs => obtain ⟨_, ⟨_, _, _, e, _⟩, _⟩ := x; exact Heap.lt_size e
 | rng lo hi => obtain ⟨_, _, _, e⟩ := x; exact Heap.lt_size e
 | frz ob u => obtain ⟨e, _⟩ := x; exact Heap.lt_size e
 | tbl ps => exact Heap.lt_size (show h.get? a = some _ from x)
 | met f y => exact Heap.lt_size (show h.get? a = some _ from x)
 | ext φ => obtain ⟨_, ⟨_, e⟩, _⟩ := x; exact Heap.lt_size e
theorem Paired.mapP {α β : Type} {F G : α -> β -> Prop} : ∀ {l₁ : List α} {l₂ : List β}, Paired F l₁ l₂ -> (∀ a b, F a b -> G a b) -> Paired G l₁ l₂
 | _, _, .nil, _ => .nil
 | _, _, .cons r t, f => .cons (f _ _ r) (Paired.mapP t f)
theorem Paired.imp' {α β : Type} {F G : α -> β -> Prop} (f : ∀ a b, F a b -> G a b) {l₁ : List α} {l₂ : List β} (r : Paired F l₁ l₂) : Paired G l₁ l₂ := Paired.mapP r f
theorem qc.stay (x : qc P w H h a o) (k : ∀ b u, (b = a \/ H b = some (.own a)) -> h.get? b = some u -> h'.get? b = some u)
  (ho : ∀ b, H b = some (.own a) -> H' b = some (.own a)) (ht : ∀ b xs, H b = some (.tup xs) -> H' b = some (.tup xs)) : qc P w H' h' a o := by
 induction o with
 | lst xs => obtain ⟨z, its, n, r, e⟩ := x; exact ⟨z, its, n, r, k _ _ (.inl rfl) e⟩
 | tup xs => obtain ⟨z, its, r, ob, e, c⟩ := x; exact ⟨z, its, r, ob, k _ _ (.inl rfl) e, c⟩
 | dK kvs => obtain ⟨z, y, vs, r, ob, es, ep, e, c⟩ := x; exact ⟨z, y, vs, r, ob, es, ep, k _ _ (.inl rfl) e, c⟩
 | dT kvs =>
  obtain ⟨z, y, xs, r, ob, es, ep, e, c⟩ := x
  exact ⟨z, y, xs, Paired.mapP r fun p q z => ⟨z.1, ht _ _ z.2.1, z.2.2⟩, ob, es, ep, k _ _ (.inl rfl) e, c⟩
 | set S n => obtain ⟨ob, es, ep, t, e, c⟩ := x; exact ⟨ob, es, ep, t, k _ _ (.inl rfl) e, c⟩
 | ins C dx fs =>
  obtain ⟨d, z, ne, e, mA, ⟨od, es, ep, e2, c⟩, r⟩ := x
  exact ⟨ho _ d, z, ne, k _ _ (.inl rfl) e, mA, ⟨od, es, ep, k _ _ (.inr d) e2, c⟩, r⟩
 | own y => obtain ⟨ob, e⟩ := x; exact ⟨ob, k _ _ (.inl rfl) e⟩
 | xd fs => obtain ⟨mA, ⟨od, es, ep, e, c⟩, r⟩ := x; exact ⟨mA, ⟨od, es, ep, k _ _ (.inl rfl) e, c⟩, r⟩
 | rng lo hi => obtain ⟨t, u, v, e⟩ := x; exact ⟨t, u, v, k _ _ (.inl rfl) e⟩
 | frz ob u ih => obtain ⟨e, q⟩ := x; exact ⟨k _ _ (.inl rfl) e, ih q⟩
 | tbl ps =>
  have e : h.get? a = some { cls := .none, data := .fields ps } := x
  show h'.get? a = some { cls := .none, data := .fields ps }
  exact k a _ (.inl rfl) e
 | met f y =>
  have e : h.get? a = some (PySem.W.methodObj (.ref f) (.ref y)) := x
  show h'.get? a = some (PySem.W.methodObj (.ref f) (.ref y))
  exact k a _ (.inl rfl) e
 | ext φ => obtain ⟨p, ⟨o, e⟩, st⟩ := x; exact ⟨st _ _ p fun o q => k _ _ (.inl rfl) q, ⟨o, k _ _ (.inl rfl) e⟩, st⟩
theorem HOk.lt (x : HOk P w H h) (e : H a = some o) : a < h.objs.size := (x a o e).lt
theorem HOk.fresh (x : HOk P w H h) (e : h.objs.size <= a) : H a = none := by
 cases q : H a with
 | none => rfl
 | some u => exact absurd (Nat.lt_of_lt_of_le (x.lt q) e) (Nat.lt_irrefl _)
theorem HOk.kept (x : HOk P w H h) (k : ∀ b u, h.get? b = some u -> h'.get? b = some u) : HOk P w H h' := fun a o e =>
 (x a o e).stay (fun b u _ q => k b u q) (fun _ q => q) fun _ _ q => q
theorem HOk.laid (x : HOk P w H h) (k : ∀ b u, h.get? b = some u -> h'.get? b = some u) (hp : h.objs.size <= a) (new : qc P w (upd H a o) h' a o) : HOk P w (upd H a o) h' := fun b u e => by
 have hn := x.fresh hp
 by_cases hb : b = a
 ·subst hb; rw [zd] at e; cases e; exact new
 ·rw [zE hb] at e
  exact (x b u e).stay (fun c v _ q => k c v q) (fun c q => by rw [zE (zF q hn)]; exact q) fun c xs q => by rw [zE (zF q hn)]; exact q
end
def Rd (H : Hp) (a : Addr) (u : HO) : Prop := H a = some u \/ ∃ o, H a = some (.frz o u)
theorem Rd.ok {P : Program} {w : World} {H : Hp} {h : Heap} {a : Addr} {u : HO} (r : Rd H a u) (x : HOk P w H h) : qc P w H h a u := by
 rcases r with r | ⟨o, r⟩
 ·exact x a u r
 ·obtain ⟨_, q⟩ := x a _ r
  exact q
def Mut : Option HO -> Prop
 | some (.lst _) => True
 | some (.dK _) => True
 | some (.dT _) => True
 | some (.set _ _) => True
 | some (.ins _ _ _) => True
 | some (.ext _) => True
 | _ => False
section
variable {P : Program} {w : World} {H : Hp} {h h' : Heap} {x e : Addr} {o' : HO}
theorem HOk.write (ok : HOk P w H h) (mu : Mut (H x)) (he : e = x \/ H e = some (.own x)) (k : ∀ b u, b ≠ e -> h.get? b = some u -> h'.get? b = some u) (heo : ∃ u, h'.get? e = some u)
  (new : qc P w (upd H x o') h' x o') : HOk P w (upd H x o') h' := fun b u q => by
 have nown : ∀ c y, H c = some (.own y) -> c ≠ x := fun c y r z => by subst z; rw [r] at mu; exact mu
 have ntup : ∀ c xs, H c = some (.tup xs) -> c ≠ x := fun c xs r z => by subst z; rw [r] at mu; exact mu
 by_cases hb : b = x
 ·subst hb; rw [zd] at q; cases q; exact new
 ·rw [zE hb] at q
  by_cases hbe : b = e
  ·have q' : H b = some (.own x) := by
    rcases he with z | z
    ·exact absurd (hbe.trans z) hb
    ·rw [hbe]; exact z
   rw [q] at q'; cases q'
   obtain ⟨v, hv⟩ := heo
   exact ⟨v, by rw [hbe]; exact hv⟩
  ·refine (ok b u q).stay (fun c v hc r => k c v ?_ r) (fun c r => by rw [zE (nown c b r)]; exact r) fun c xs r => by rw [zE (ntup c xs r)]; exact r
   rcases hc with rfl | hc
   ·exact hbe
   ·rintro rfl
    rcases he with z | z
    ·exact nown c b hc z
    ·rw [hc] at z; cases z; exact hb rfl
end
structure Un (fs ex : List Addr) (H H' : Hp) (h h' : Heap) : Prop where
 keep : ∀ b o, h.get? b = some o -> H b = none -> b ∉ fs -> b ∉ ex -> h'.get? b = some o
 slot : ∀ b o, h.get? b = some o -> H b = none -> b ∈ fs -> b ∉ ex -> ∃ sl, h'.get? b = some { o with slots := sl }
 free : ∀ b o, h.get? b = some o -> H b = none -> b ∉ ex -> H' b = none
 there : ∀ b o, h.get? b = some o -> b ∉ ex -> ∃ o', h'.get? b = some o'
 tups : ∀ b xs, H b = some (.tup xs) -> H' b = some (.tup xs)
 frzs : ∀ b o u, H b = some (.frz o u) -> H' b = some (.frz o u)
 tbls : ∀ b ps, H b = some (.tbl ps) -> ∃ more, H' b = some (.tbl (ps ++ more))
section
variable {fs fs' ex ex' : List Addr} {H H1 H2 : Hp} {h h1 h2 h' : Heap} {a x e : Addr} {o : HO}
theorem Un.any (u : Un fs ex H H1 h h1) {b : Addr} {ob : Obj} (q : h.get? b = some ob) (n : H b = none) (hx : b ∉ ex) : ∃ sl, h1.get? b = some { ob with slots := sl } := by
 by_cases hb : b ∈ fs
 ·exact u.slot b ob q n hb hx
 ·exact ⟨ob.slots, u.keep b ob q n hb hx⟩
theorem Un.kept (k : ∀ b u, h.get? b = some u -> h'.get? b = some u) : Un fs ex H H h h' :=
 ⟨fun b ob q _ _ _ => k b ob q, fun b ob q _ _ _ => ⟨ob.slots, k b ob q⟩, fun _ _ _ n _ => n, fun b ob q _ => ⟨ob, k b ob q⟩, fun _ _ q => q, fun _ _ _ q => q, fun _ ps q => ⟨#[], by rw [q]; simp⟩⟩
theorem Un.refl : Un fs ex H H h h := Un.kept fun _ _ q => q
theorem Un.laid (k : ∀ b u, h.get? b = some u -> h'.get? b = some u) (hp : h.objs.size <= a) (hn : H a = none) : Un fs ex H (upd H a o) h h' where
 keep := fun b u q _ _ _ => k b u q
 slot := fun b u q _ _ _ => ⟨u.slots, k b u q⟩
 free := fun b u q n _ => by rw [zE (Nat.ne_of_lt (Nat.lt_of_lt_of_le (Heap.lt_size q) hp))]; exact n
 there := fun b u q _ => ⟨u, k b u q⟩
 tups := fun b xs q => by rw [zE (zF q hn)]; exact q
 frzs := fun b u xs q => by rw [zE (zF q hn)]; exact q
 tbls := fun b ps q => ⟨#[], by rw [zE (zF q hn), q]; simp⟩
theorem Un.write (mu : Mut (H x)) (he : e = x \/ H e = some (.own x)) (k : ∀ b u, b ≠ e -> h.get? b = some u -> h'.get? b = some u) (heo : ∃ u, h'.get? e = some u) : Un fs ex H (upd H x o) h h' := by
 have hx : ∀ b, H b = none -> b ≠ x := fun b n z => by subst z; rw [n] at mu; exact mu
 have hb : ∀ b, H b = none -> b ≠ e := fun b n z => by
  subst z
  rcases he with r | r
  ·exact hx b n r
  ·rw [n] at r; cases r
 have hm : ∀ b u, H b = some u -> ¬ Mut (some u) -> b ≠ x := fun b u q nm z => by subst z; rw [q] at mu; exact nm mu
 refine ⟨fun b u q n _ _ => k b u (hb b n) q, fun b u q n _ _ => ⟨u.slots, k b u (hb b n) q⟩, fun b u q n _ => by rw [zE (hx b n)]; exact n, fun b u q _ => ?_,
  fun b xs q => by rw [zE (hm b _ q fun z => z)]; exact q, fun b u xs q => by rw [zE (hm b _ q fun z => z)]; exact q, fun b ps q => ⟨#[], by rw [zE (hm b _ q fun z => z), q]; simp⟩⟩
 by_cases hbe : b = e
 ·subst hbe; exact heo
 ·exact ⟨u, k b u hbe q⟩
end
def trk (h : Heap) (H : Hp) : List Addr := (List.range h.objs.size).filter fun a => (H a).isSome
def hidT (h : Heap) (H : Hp) : Heap := PySem.W.hideAll h (trk h H)
theorem yB (h : Heap) (H : Hp) : (hidT h H).objs.size = h.objs.size := PySem.W.hideAll_size _ _
theorem hidT_get {h : Heap} {H : Hp} {b : Addr} {o : Obj} (e : h.get? b = some o) (n : H b = none) : (hidT h H).get? b = some o :=
 PySem.W.hideAll_get _ e fun hm => by
  have q : (H b).isSome = true := (List.mem_filter.mp hm).2
  rw [n] at q; simp at q
theorem of_hidT {h : Heap} {H : Hp} {b : Addr} {o : Obj} (e : (hidT h H).get? b = some o) : h.get? b = some o /\ H b = none := by
 have e' : h.get? b = some o := PySem.W.of_hideAll (trk h H) e
 refine ⟨e', ?_⟩
 cases q : H b with
 | none => rfl
 | some x =>
  have hm : b ∈ trk h H := List.mem_filter.mpr ⟨List.mem_range.mpr (Heap.lt_size e'), by simp [q]⟩
  have z : (hidT h H).get? b = none := PySem.W.hideAll_none (trk h H) hm
  rw [z] at e; cases e
end L2
namespace L2
open PySem PySem.Spec PyProof.Rows
structure Mod (K : PySem.W.Frag) (mg : Str -> Option Value) (base : Heap) : Prop where
 kin : K.In base
 glob : base.Ns mainGlobals mg
 blt : ∃ mb, base.Ns builtinsNs mb /\ ∀ x : Str, x ≠ "__name__" -> mb x = bootBuiltins x
 nolimit : base.NoLimit
structure Cx where
 prog : Program
 w : World
 K : PySem.W.Frag
 mg : Str -> Option Value
 base : Heap
 A : Around
 N : List Str
 s₀ : Shared
 H₀ : Hp
 env : Env
 outer : List Env
 stack : List Env
 ex : List Addr
 fn : Str -> Bool
 calm : Bool
 pn : List (Addr × Obj)
 xe : Value -> Shared -> Prop
def frs (l : List Env) : List Addr := l.filterMap (·.frame)
abbrev Cx.fs (X : Cx) : List Addr := frs X.outer
def Vis (sc : Scope) (x : Str) : Prop := sc.names.lookup x = some .local \/ sc.names.lookup x = some .cell \/ sc.names.lookup x = some .free
def Loc (sc : Scope) (x : Str) : Prop := sc.names.lookup x = some .local \/ sc.names.lookup x = some .cell
def Look (env : Env) (h : Heap) (m : Str -> Option Value) (x : Str) (u : Value) : Prop :=
 (env.kindOf x = some .local /\ m x = some u) \/ ((env.kindOf x = some .cell \/ env.kindOf x = some .free) /\ ∃ c, env.cells.lookup x = some c /\ h.IsCell c (some u))
structure Cx.Ok (X : Cx) : Prop where
 mod : Mod X.K X.mg X.base
 kind : X.env.scope.kind = .function
 glob : X.env.globals = mainGlobals
 blt : X.env.builtins = builtinsNs
 above : X.s₀.heap.objs.size <= X.env.locals
 inj : ∀ x y c, X.env.cells.lookup x = some c -> X.env.cells.lookup y = some c -> x = y
 has : ∀ x, (X.env.kindOf x = some .cell \/ X.env.kindOf x = some .free) -> ∃ c, X.env.cells.lookup x = some c
 cab : ∀ x c, X.fn x = true -> X.env.cells.lookup x = some c -> X.s₀.heap.objs.size <= c
 hd : X.calm = true -> X.A.handled = none
 frames : X.A.frames = some X.stack
 stk : X.stack = X.outer \/ (X.stack = X.env :: X.outer /\ X.env.frame = some X.env.locals)
 exf : ∀ b ∈ X.ex, b ≠ X.env.locals /\ ∀ x c, X.env.cells.lookup x = some c -> c ≠ b
 bs : ∀ b o, X.base.get? b = some o -> X.s₀.heap.get? b = some o /\ X.H₀ b = none
 bsz : X.base.objs.size <= X.s₀.heap.objs.size
 noex : ∀ b o, X.base.get? b = some o -> b ∉ X.ex
 exfs : ∀ b ∈ X.ex, b ∉ X.fs
 funs : X.s₀.heap.FunFrames X.base X.outer
 frf : ∀ b ∈ X.fs, X.H₀ b = none
structure Inv (X : Cx) (pins : List (Addr × Obj)) (σ : List (Option V)) (H : Hp) (s : Shared) : Prop where
 ok : X.Ok
 os : s.os = X.s₀.os
 bare : AllBare s.gens
 base : Un X.fs X.ex X.H₀ H X.s₀.heap s.heap
 loc : ∃ m, s.heap.Ns X.env.locals m /\ ∀ (i : Nat) (x : Str) (v : V), X.N[i]? = some x -> σ[i]? = some (some v) -> Vis X.env.scope x -> ∃ u, RelV v u /\ Look X.env s.heap m x u
 cell : ∀ x c, X.env.cells.lookup x = some c -> ∃ v, s.heap.IsCell c v
 free : H X.env.locals = none
 freeC : ∀ x c, X.env.cells.lookup x = some c -> H c = none
 pin : ∀ p ∈ X.pn ++ pins, s.heap.get? p.1 = some p.2 /\ H p.1 = none /\ p.1 ≠ X.env.locals /\ p.1 ∉ X.fs /\ ∀ v, p.2.data ≠ .cell v
 hok : HOk X.prog X.w H s.heap
 len : σ.length = X.N.length
section
variable {X : Cx} {pins : List (Addr × Obj)} {σ : List (Option V)} {H H' : Hp} {s : Shared} {h' : Heap}
theorem Cx.Ok.nofr (ok : X.Ok) {b : Addr} {o : Obj} (e : X.base.get? b = some o) : b ∉ X.fs := fun hb => by
 have := (ok.funs.mem hb).1
 rw [e] at this; cases this
theorem Inv.bs (I : Inv X pins σ H s) : ∀ b o, X.base.get? b = some o -> s.heap.get? b = some o /\ H b = none := fun b o e =>
 ⟨I.base.keep b o (I.ok.bs b o e).1 (I.ok.bs b o e).2 (I.ok.nofr e) (I.ok.noex b o e), I.base.free b o (I.ok.bs b o e).1 (I.ok.bs b o e).2 (I.ok.noex b o e)⟩
theorem Inv.bk (I : Inv X pins σ H s) : ∀ b o, X.base.get? b = some o -> s.heap.get? b = some o := fun b o e => (I.bs b o e).1
theorem Inv.mod (I : Inv X pins σ H s) : Mod X.K X.mg X.base := I.ok.mod
theorem Inv.kIn (I : Inv X pins σ H s) : X.K.In s.heap := I.ok.mod.kin.keeps I.bk
theorem Inv.lt (I : Inv X pins σ H s) : X.env.locals < s.heap.objs.size := let ⟨_, hn, _⟩ := I.loc; hn.lt
theorem Inv.sz (I : Inv X pins σ H s) : X.s₀.heap.objs.size <= s.heap.objs.size := Nat.le_trans I.ok.above (Nat.le_of_lt I.lt)
theorem Inv.nofs (I : Inv X pins σ H s) {a : Addr} (h : s.heap.objs.size <= a) : a ∉ X.fs := fun hb => by
 obtain ⟨_, o, ho, _⟩ := I.ok.funs.mem hb
 exact absurd (Nat.lt_of_lt_of_le (Heap.lt_size ho) (Nat.le_trans I.sz h)) (Nat.lt_irrefl _)
theorem Inv.cne (I : Inv X pins σ H s) : ∀ x c, X.env.cells.lookup x = some c -> c ≠ X.env.locals := fun x c e z => by
 obtain ⟨v, o, ho, hd⟩ := I.cell x c e
 obtain ⟨m, ⟨o', es, ep, ho', hd', _⟩, _⟩ := I.loc
 rw [z, ho'] at ho; cases ho; rw [hd'] at hd; cases hd
theorem Inv.funs (I : Inv X pins σ H s) : s.heap.FunFrames X.base X.outer := by
 have all : ∀ (l : List Env), (∀ b ∈ frs l, b ∈ X.fs) -> X.s₀.heap.FunFrames X.base l -> s.heap.FunFrames X.base l := by
  intro l
  induction l with
  | nil => intro _ _; trivial
  | cons env r ih =>
   intro hs hl
   obtain ⟨hk, ⟨L, o, hf, hn, ho, hd⟩, hr⟩ := hl
   have hL : L ∈ X.fs := hs L (by unfold frs; rw [List.filterMap_cons, hf]; exact List.mem_cons_self)
   obtain ⟨sl, e⟩ := I.base.slot L o ho (I.ok.frf L hL) hL fun z => I.ok.exfs L z hL
   exact ⟨hk, ⟨L, _, hf, hn, e, hd⟩, ih (fun b hb => hs b (by unfold frs; rw [List.filterMap_cons, hf]; exact List.mem_cons_of_mem _ hb)) hr⟩
 exact all X.outer (fun _ hb => hb) I.ok.funs
theorem Inv.stack (I : Inv X pins σ H s) : s.heap.FunFrames X.base X.stack := by
 rcases I.ok.stk with e | ⟨e, hf⟩
 ·rw [e]; exact I.funs
 ·rw [e]
  obtain ⟨m, hn, _⟩ := I.loc
  refine .cons (by rw [I.ok.kind]; decide) hf hn ?_ I.funs
  exact Heap.get?_none_of_le (Nat.le_trans I.ok.bsz I.ok.above)
theorem Inv.stkSub (I : Inv X pins σ H s) : ∀ b ∈ frs X.stack, b ∈ X.env.locals :: X.fs := fun b hb => by
 rcases I.ok.stk with e | ⟨e, hf⟩
 ·rw [e] at hb; exact List.mem_cons_of_mem _ hb
 ·rw [e] at hb
  unfold frs at hb
  rw [List.filterMap_cons, hf] at hb
  exact hb
theorem Inv.stkFree (I : Inv X pins σ H s) : ∀ b ∈ frs X.stack, H b = none := fun b hb => by
 rcases List.mem_cons.mp (I.stkSub b hb) with e | hb
 ·rw [e]; exact I.free
 ·obtain ⟨_, o, ho, _⟩ := I.ok.funs.mem hb
  exact I.base.free b o ho (I.ok.frf b hb) fun z => I.ok.exfs b z hb
theorem Inv.step {g' : Array GenState} {t' : Nat} {d' : Drawn} {ch : List Addr} (I : Inv X pins σ H s)
  (hch : ∀ b ∈ ch, (b ∈ X.ex \/ X.s₀.heap.objs.size <= b) /\ b ≠ X.env.locals /\ (∀ x c, X.env.cells.lookup x = some c -> c ≠ b) /\ ∀ p ∈ X.pn ++ pins, p.1 ≠ b)
  (keep : ∀ b o, b ≠ X.env.locals -> b ∉ X.fs -> b ∉ ch -> s.heap.get? b = some o -> H b = none -> h'.get? b = some o)
  (slot : ∀ b o, b ≠ X.env.locals -> b ∈ X.fs -> b ∉ ch -> s.heap.get? b = some o -> H b = none -> ∃ sl, h'.get? b = some { o with slots := sl }) (free : ∀ b o, b ∉ ch -> s.heap.get? b = some o -> H b = none -> H' b = none)
  (there : ∀ b o, b ∉ ch -> s.heap.get? b = some o -> ∃ o', h'.get? b = some o')
  (tups : ∀ b xs, H b = some (.tup xs) -> H' b = some (.tup xs)) (frzs : ∀ b o u, H b = some (.frz o u) -> H' b = some (.frz o u)) (tbls : ∀ b ps, H b = some (.tbl ps) -> ∃ more, H' b = some (.tbl (ps ++ more)))
  (ns : ∀ m, s.heap.Ns X.env.locals m -> h'.Ns X.env.locals m) (hok : HOk X.prog X.w H' h') (hg : AllBare g') :
  Inv X pins σ H' { s with heap := h', gens := g', drawn := d', toks := t' } := by
 have neL : ∀ b o, X.s₀.heap.get? b = some o -> b ≠ X.env.locals := fun b o e => Nat.ne_of_lt (Nat.lt_of_lt_of_le (Heap.lt_size e) I.ok.above)
 have neC : ∀ b o, X.s₀.heap.get? b = some o -> b ∉ X.ex -> b ∉ ch := fun b o e hx hb => by
  rcases (hch b hb).1 with z | z
  ·exact hx z
  ·exact absurd (Nat.lt_of_lt_of_le (Heap.lt_size e) z) (Nat.lt_irrefl _)
 have cellK : ∀ x c, X.env.cells.lookup x = some c -> ∀ v, s.heap.IsCell c v -> h'.IsCell c v := fun x c e v ⟨o, ho, hd⟩ => by
  have nch : c ∉ ch := fun z => (hch c z).2.2.1 x c e rfl
  by_cases hc : c ∈ X.fs
  ·obtain ⟨sl, q⟩ := slot c o (I.cne x c e) hc nch ho (I.freeC x c e)
   exact ⟨_, q, hd⟩
  ·exact ⟨o, keep c o (I.cne x c e) hc nch ho (I.freeC x c e), hd⟩
 refine ⟨I.ok, I.os, hg, ⟨fun b o e n hb hx => ?_, fun b o e n hb hx => ?_, fun b o e n hx => ?_, fun b o e hx => ?_, fun b xs e => tups b xs (I.base.tups b xs e), fun b o xs e => frzs b o xs (I.base.frzs b o xs e), fun b ps e => ?_⟩, ?_, fun x c e => ?_, ?_, fun x c e => ?_, fun p hp => ?_, hok, I.len⟩
 ·exact keep b o (neL b o e) hb (neC b o e hx) (I.base.keep b o e n hb hx) (I.base.free b o e n hx)
 ·obtain ⟨sl, e1⟩ := I.base.slot b o e n hb hx
  obtain ⟨sl', e2⟩ := slot b _ (neL b o e) hb (neC b o e hx) e1 (I.base.free b o e n hx)
  exact ⟨sl', e2⟩
 ·obtain ⟨o', e1⟩ := I.base.there b o e hx
  exact free b o' (neC b o e hx) e1 (I.base.free b o e n hx)
 ·obtain ⟨o', e1⟩ := I.base.there b o e hx
  exact there b o' (neC b o e hx) e1
 ·obtain ⟨m1, e1⟩ := I.base.tbls b ps e
  obtain ⟨m2, e2⟩ := tbls b _ e1
  exact ⟨m1 ++ m2, by rw [e2, Array.append_assoc]⟩
 ·obtain ⟨m, hn, hl⟩ := I.loc
  refine ⟨m, ns m hn, fun i x v e1 e2 e3 => ?_⟩
  obtain ⟨u, r, l⟩ := hl i x v e1 e2 e3
  refine ⟨u, r, ?_⟩
  rcases l with l | ⟨k, c, e, z⟩
  ·exact .inl l
  ·exact .inr ⟨k, c, e, cellK x c e _ z⟩
 ·obtain ⟨v, z⟩ := I.cell x c e
  exact ⟨v, cellK x c e v z⟩
 ·obtain ⟨m, ⟨o, _, _, ho, _⟩, _⟩ := I.loc
  exact free _ o (fun z => (hch _ z).2.1 rfl) ho I.free
 ·obtain ⟨v, o, ho, hd⟩ := I.cell x c e
  exact free c o (fun z => (hch c z).2.2.1 x c e rfl) ho (I.freeC x c e)
 ·obtain ⟨e, n, ne, nf, d⟩ := I.pin p hp
  have nch : p.1 ∉ ch := fun z => (hch p.1 z).2.2.2 p hp rfl
  exact ⟨keep p.1 p.2 ne nf nch e n, free p.1 p.2 nch e n, ne, nf, d⟩
theorem Inv.un {t' : Nat} (I : Inv X pins σ H s) (u : Un X.fs [] H H' s.heap h') (hok : HOk X.prog X.w H' h') : Inv X pins σ H' { s with heap := h', toks := t' } := by
 obtain ⟨m, ⟨o, es, ep, ho, r⟩, _⟩ := id I.loc
 obtain ⟨sl, hL⟩ := u.any ho I.free (by simp)
 exact I.step (g' := s.gens) (d' := s.drawn) (ch := []) (fun _ z => nomatch z) (fun b o _ hb _ e n => u.keep b o e n hb (by simp)) (fun b o _ hb _ e n => u.slot b o e n hb (by simp)) (fun b o _ e n => u.free b o e n (by simp)) (fun b o _ e => u.there b o e (by simp)) u.tups u.frzs u.tbls (fun m' hm => by
  obtain ⟨o', es', ep', ho', r'⟩ := hm
  rw [ho] at ho'; cases ho'
  exact ⟨_, es', ep', hL, r'⟩) hok I.bare
theorem Inv.call {g' : Array GenState} {t' : Nat} {d' : Drawn} {ch : List Addr} (I : Inv X pins σ H s) (u : Un (frs X.stack) ch H H' s.heap h') (hok : HOk X.prog X.w H' h') (hg : AllBare g')
  (hch : ∀ b ∈ ch, (b ∈ X.ex \/ X.s₀.heap.objs.size <= b) /\ b ≠ X.env.locals /\ (∀ x c, X.env.cells.lookup x = some c -> c ≠ b) /\ ∀ p ∈ X.pn ++ pins, p.1 ≠ b) :
  Inv X pins σ H' { s with heap := h', gens := g', drawn := d', toks := t' } := by
 obtain ⟨m, ⟨o, es, ep, ho, r⟩, _⟩ := id I.loc
 obtain ⟨sl, hL⟩ := u.any ho I.free fun z => (hch _ z).2.1 rfl
 exact I.step (ch := ch) hch (fun b o hL hb hc e n => u.keep b o e n (fun z => (List.mem_cons.mp (I.stkSub b z)).elim hL hb) hc) (fun b o _ _ hc e n => u.any e n hc) (fun b o hc e n => u.free b o e n hc) (fun b o hc e => u.there b o e hc) u.tups u.frzs u.tbls (fun m' hm => by
  obtain ⟨o', es', ep', ho', r'⟩ := hm
  rw [ho] at ho'; cases ho'
  exact ⟨_, es', ep', hL, r'⟩) hok hg
theorem Inv.turned {t' : Nat} {it : Addr} (I : Inv X pins σ H s) (k : ∀ b o, b ≠ it -> s.heap.get? b = some o -> h'.get? b = some o) (hn : H it = none) (hL : it ≠ X.env.locals)
  (h1 : it ∈ X.ex \/ X.s₀.heap.objs.size <= it) (h2 : ∀ x c, X.env.cells.lookup x = some c -> c ≠ it) (h3 : ∀ p ∈ X.pn ++ pins, p.1 ≠ it) : Inv X pins σ H { s with heap := h', toks := t' } := by
 have nit : ∀ b u, H b = some u -> b ≠ it := fun b u e z => by rw [z, hn] at e; cases e
 refine I.step (g' := s.gens) (d' := s.drawn) (ch := [it]) (fun b hb => ?_) (fun b o _ _ hc e _ => k b o (fun z => hc (by simp [z])) e) (fun b o _ _ hc e _ => ⟨o.slots, k b o (fun z => hc (by simp [z])) e⟩) (fun _ _ _ _ n => n)
  (fun b o hc e => ⟨o, k b o (fun z => hc (by simp [z])) e⟩) (fun _ _ e => e) (fun _ _ _ e => e) (fun b ps e => ⟨#[], by rw [e]; simp⟩) (fun m hm => ?_) (fun b u e => ?_) I.bare
 ·have e : b = it := by simpa using hb
  subst e
  exact ⟨h1, hL, h2, h3⟩
 ·obtain ⟨o, es, ep, ho, r⟩ := hm
  exact ⟨o, es, ep, k _ o (Ne.symm hL) ho, r⟩
 ·refine (I.hok b u e).stay (fun c v hc q => k c v ?_ q) (fun _ q => q) fun _ _ q => q
  rcases hc with z | z
  ·rw [z]; exact nit b u e
  ·exact nit c _ z
theorem Inv.tok (I : Inv X pins σ H s) (t : Nat) : Inv X pins σ H { s with toks := t } := I.un (h' := s.heap) (t' := t) Un.refl I.hok
theorem Inv.kept {t' : Nat} (I : Inv X pins σ H s) (k : ∀ b u, s.heap.get? b = some u -> h'.get? b = some u) : Inv X pins σ H { s with heap := h', toks := t' } := I.un (Un.kept k) (I.hok.kept k)
theorem Inv.laid {a : Addr} {o : HO} {t' : Nat} (I : Inv X pins σ H s) (k : ∀ b u, s.heap.get? b = some u -> h'.get? b = some u) (hp : s.heap.objs.size <= a) (new : qc X.prog X.w (upd H a o) h' a o) :
  Inv X pins σ (upd H a o) { s with heap := h', toks := t' } := I.un (Un.laid k hp (I.hok.fresh hp)) (I.hok.laid k hp new)
theorem Inv.write {x e : Addr} {o : HO} {t' : Nat} (I : Inv X pins σ H s) (mu : Mut (H x)) (he : e = x \/ H e = some (.own x)) (k : ∀ b u, b ≠ e -> s.heap.get? b = some u -> h'.get? b = some u) (heo : ∃ u, h'.get? e = some u)
  (new : qc X.prog X.w (upd H x o) h' x o) : Inv X pins σ (upd H x o) { s with heap := h', toks := t' } := I.un (Un.write mu he k heo) (I.hok.write mu he k heo new)
theorem Inv.pins_of {pins' : List (Addr × Obj)} (I : Inv X pins σ H s) (h : ∀ p ∈ pins', s.heap.get? p.1 = some p.2 /\ H p.1 = none /\ p.1 ≠ X.env.locals /\ p.1 ∉ X.fs /\ ∀ v, p.2.data ≠ .cell v) : Inv X pins' σ H s :=
 ⟨I.ok, I.os, I.bare, I.base, I.loc, I.cell, I.free, I.freeC, fun p hp => (List.mem_append.mp hp).elim (fun z => I.pin p (List.mem_append_left _ z)) (h p), I.hok, I.len⟩
theorem Wq {N : List Str} (hN : N.Nodup) {i j : Nat} {x : Str} (a : N[i]? = some x) (b : N[j]? = some x) : i = j := by
 obtain ⟨h1, e1⟩ := List.getElem?_eq_some_iff.mp a
 obtain ⟨h2, e2⟩ := List.getElem?_eq_some_iff.mp b
 exact (List.getElem_inj hN).mp (e1.trans e2.symm)
theorem JA {M : Model} {A : Around} {E : Value -> Shared -> Prop} {i : Nat} {x : Str} {v : V} {u : Value} {Q : Unit -> Shared -> Prop} (I : Inv X pins σ H s) (hN : X.N.Nodup) (hi : X.N[i]? = some x) (hx : Loc X.env.scope x) (r : RelV v u)
  (h : ∀ s', Inv X pins (σ.set i (some v)) H s' -> (∃ a, Heap.SameBut a s.heap s'.heap /\ (a = X.env.locals \/ X.env.cells.lookup x = some a)) -> Q () s') (hf : X.fn x = true \/ X.env.scope.names.lookup x = some .local := by first | exact .inl rfl | exact .inr rfl | assumption) : wpAny M A (storeName X.env x u) Q E s := by
 obtain ⟨m, hn, hl⟩ := id I.loc
 have hcls : (X.env.scope.kind == .class || (X.env.scope.kind == .module && X.env.locals != X.env.globals)) = false := by rw [I.ok.kind]; rfl
 have hiσ : i < σ.length := by rw [I.len]; exact (List.getElem?_eq_some_iff.mp hi).1
 have cne := I.cne
 have tracked : ∀ {a : Addr} {h' : Heap}, (∃ o, s.heap.get? a = some o /\ H a = none) -> Heap.SameBut a s.heap h' -> HOk X.prog X.w H h' := fun {a h'} ha hs b ob e => by
  obtain ⟨_, _, hfree⟩ := ha
  refine (I.hok b ob e).stay (fun c w' hc q => (hs.2 c ?_).trans q) (fun _ q => q) fun _ _ q => q
  rintro rfl
  rcases hc with rfl | hc
  ·rw [hfree] at e; cases e
  ·rw [hfree] at hc; cases hc
 rcases hx with hk | hk
 ·refine wpAny_storeName_local hk hn (fun h' hn' hs => ?_) hcls
  obtain ⟨oL, _, _, hoL, _⟩ := id hn
  refine h _ ⟨I.ok, I.os, I.bare, ⟨fun b o e n hb hx => ?_, fun b o e n hb hx => ?_, I.base.free, fun b o e hx => ?_, I.base.tups, I.base.frzs, I.base.tbls⟩, ⟨_, hn', fun j y v' e1 e2 e3 => ?_⟩, fun y c e => ?_, I.free, I.freeC, fun p hp => ?_, tracked ⟨oL, hoL, I.free⟩ hs, by simpa using I.len⟩ ⟨_, hs, .inl rfl⟩
  ·exact (hs.2 b (Nat.ne_of_lt (Nat.lt_of_lt_of_le (Heap.lt_size e) I.ok.above))).trans (I.base.keep b o e n hb hx)
  ·obtain ⟨sl, e1⟩ := I.base.slot b o e n hb hx
   exact ⟨sl, (hs.2 b (Nat.ne_of_lt (Nat.lt_of_lt_of_le (Heap.lt_size e) I.ok.above))).trans e1⟩
  ·obtain ⟨o', e1⟩ := I.base.there b o e hx
   exact ⟨o', (hs.2 b (Nat.ne_of_lt (Nat.lt_of_lt_of_le (Heap.lt_size e) I.ok.above))).trans e1⟩
  ·by_cases hj : j = i
   ·subst hj
    rw [hi] at e1; cases e1
    rw [List.getElem?_set_self hiσ] at e2
    cases e2
    exact ⟨u, r, .inl ⟨hk, by simp⟩⟩
   ·rw [List.getElem?_set_ne (Ne.symm hj)] at e2
    obtain ⟨u', r', q⟩ := hl j y v' e1 e2 e3
    refine ⟨u', r', ?_⟩
    rcases q with ⟨k, e⟩ | ⟨k, c, e, z⟩
    ·refine .inl ⟨k, ?_⟩
     have : y ≠ x := fun e => hj (Wq hN e1 (e ▸ hi))
     simp [this, e]
    ·exact .inr ⟨k, c, e, z.sameBut hs (cne y c e)⟩
  ·obtain ⟨w', z⟩ := I.cell y c e
   exact ⟨w', z.sameBut hs (cne y c e)⟩
  ·obtain ⟨e, n, ne, nf, d⟩ := I.pin p hp
   exact ⟨(hs.2 p.1 ne).trans e, n, ne, nf, d⟩
 ·have hfn : X.fn x = true := by
   rcases hf with z | z
   ·exact z
   ·rw [z] at hk; cases hk
  obtain ⟨c, hc⟩ := I.ok.has x (.inl hk)
  obtain ⟨w', z⟩ := I.cell x c hc
  refine wpAny_storeName_cell I.ok.kind hk hc z (fun h' hc' hs => ?_)
  obtain ⟨oc, hoc, hocd⟩ := id z
  refine h { s with heap := h' } ⟨I.ok, I.os, I.bare, ⟨fun b o e n hb hx => ?_, fun b o e n hb hx => ?_, I.base.free, fun b o e hx => ?_, I.base.tups, I.base.frzs, I.base.tbls⟩, ⟨m, hn.sameBut hs (Ne.symm (cne x c hc)), fun j y v' e1 e2 e3 => ?_⟩, fun y c' e => ?_, I.free, I.freeC, fun p hp => ?_, tracked ⟨oc, hoc, I.freeC x c hc⟩ hs, by simpa using I.len⟩ ⟨c, hs, .inr hc⟩
  ·exact (hs.2 b (Nat.ne_of_lt (Nat.lt_of_lt_of_le (Heap.lt_size e) (I.ok.cab x c hfn hc)))).trans (I.base.keep b o e n hb hx)
  ·obtain ⟨sl, e1⟩ := I.base.slot b o e n hb hx
   exact ⟨sl, (hs.2 b (Nat.ne_of_lt (Nat.lt_of_lt_of_le (Heap.lt_size e) (I.ok.cab x c hfn hc)))).trans e1⟩
  ·obtain ⟨o', e1⟩ := I.base.there b o e hx
   exact ⟨o', (hs.2 b (Nat.ne_of_lt (Nat.lt_of_lt_of_le (Heap.lt_size e) (I.ok.cab x c hfn hc)))).trans e1⟩
  ·by_cases hj : j = i
   ·subst hj
    rw [hi] at e1; cases e1
    rw [List.getElem?_set_self hiσ] at e2
    cases e2
    exact ⟨u, r, .inr ⟨.inl hk, c, hc, hc'⟩⟩
   ·rw [List.getElem?_set_ne (Ne.symm hj)] at e2
    obtain ⟨u', r', q⟩ := hl j y v' e1 e2 e3
    refine ⟨u', r', ?_⟩
    rcases q with q | ⟨k, c', e, z'⟩
    ·exact .inl q
    ·refine .inr ⟨k, c', e, z'.sameBut hs ?_⟩
     rintro rfl
     exact hj (Wq hN e1 (I.ok.inj _ _ _ e hc ▸ hi))
  ·by_cases hcc : c' = c
   ·subst hcc; exact ⟨_, hc'⟩
   ·obtain ⟨w2, z2⟩ := I.cell y c' e
    exact ⟨w2, z2.sameBut hs hcc⟩
  ·obtain ⟨e, n, ne, nf, d⟩ := I.pin p hp
   refine ⟨(hs.2 p.1 ?_).trans e, n, ne, nf, d⟩
   intro q
   rw [q, hoc] at e
   have q' : oc = p.2 := Option.some.inj e
   exact d w' (by rw [<- q']; exact hocd)
theorem QY {M : Model} {A : Around} {E : Value -> Shared -> Prop} {i : Nat} {x : Str} {v : V} {u : Value} {Q : Unit -> Shared -> Prop} (I : Inv X pins σ H s) (hN : X.N.Nodup) (hi : X.N[i]? = some x) (hx : Loc X.env.scope x) (r : RelV v u)
  (h : ∀ s', Inv X pins (σ.set i (some v)) H s' -> Q () s') (hf : X.fn x = true \/ X.env.scope.names.lookup x = some .local := by first | exact .inl rfl | exact .inr rfl | assumption) : wpAny M A (storeName X.env x u) Q E s :=
 JA I hN hi hx r (fun s' I' _ => h s' I') hf
theorem Inv.call' {s' : Shared} {ch : List Addr} (I : Inv X pins σ H s) (ho : s'.os = s.os) (u : Un (frs X.stack) ch H H' s.heap s'.heap) (hok : HOk X.prog X.w H' s'.heap) (hg : AllBare s'.gens)
  (hch : ∀ b ∈ ch, (b ∈ X.ex \/ X.s₀.heap.objs.size <= b) /\ b ≠ X.env.locals /\ (∀ x c, X.env.cells.lookup x = some c -> c ≠ b) /\ ∀ p ∈ X.pn ++ pins, p.1 ≠ b) : Inv X pins σ H' s' := by
 obtain ⟨h', g', d', t', o'⟩ := s'
 have e : o' = s.os := ho
 subst e
 exact I.call (g' := g') (t' := t') (d' := d') u hok hg hch
end
abbrev XK := Value -> Option Addr -> Hp -> Prop
abbrev St := List (Option V)
abbrev VK := V -> Hp -> Prop
abbrev TE := St -> Hp -> VK -> Prop
abbrev TT := St -> Hp -> (Bool -> Hp -> Prop) -> Prop
abbrev TA := St -> Hp -> (List V -> Hp -> Prop) -> Prop
structure Ends where
 nx : St -> Hp -> Prop
 rt : VK
 bk : St -> Hp -> Prop := fun _ _ => False
 ct : St -> Hp -> Prop := fun _ _ => False
abbrev TS := Ends -> St -> Hp -> Prop
def EP (X : Cx) (pins : List (Addr × Obj)) (σ : St) (Q : VK) (u : Value) (s' : Shared) : Prop := ∃ v H', Inv X pins σ H' s' /\ RelV v u /\ Q v H'
def TP (X : Cx) (pins : List (Addr × Obj)) (σ : St) (Q : Bool -> Hp -> Prop) (b : Bool) (s' : Shared) : Prop := ∃ H', Inv X pins σ H' s' /\ Q b H'
def AP (X : Cx) (pins : List (Addr × Obj)) (σ : St) (Q : List V -> Hp -> Prop) (us : List Value) (s' : Shared) : Prop := ∃ vs H', Inv X pins σ H' s' /\ qe vs us /\ Q vs H'
def SP (X : Cx) (pins : List (Addr × Obj)) (D : Ends) (f : Flow) (s' : Shared) : Prop :=
 match f with
 | .next => ∃ σ' H', Inv X pins σ' H' s' /\ D.nx σ' H'
 | .brk => ∃ σ' H', Inv X pins σ' H' s' /\ D.bk σ' H'
 | .cont => ∃ σ' H', Inv X pins σ' H' s' /\ D.ct σ' H'
 | .ret u => ∃ v σ' H', Inv X pins σ' H' s' /\ RelV v u /\ D.rt v H'
def PE (X : Cx) (e : Expr) (t : TE) : Prop :=
 ∀ (pins : List (Addr × Obj)) (s : Shared) (σ : St) (H : Hp) (Q : VK), Inv X pins σ H s -> t σ H Q -> wpAny (model X.prog X.w) X.A (eval e X.env) (EP X pins σ Q) X.xe s
def PT (X : Cx) (e : Expr) (t : TT) : Prop :=
 ∀ (pins : List (Addr × Obj)) (s : Shared) (σ : St) (H : Hp) (Q : Bool -> Hp -> Prop), Inv X pins σ H s -> t σ H Q -> wpAny (model X.prog X.w) X.A (isTrue e X.env (eval e X.env)) (TP X pins σ Q) X.xe s
def PW (X : Cx) (e : Expr) (t : TT) : Prop :=
 ∀ (whole : Sem Value) (pins : List (Addr × Obj)) (s : Shared) (σ : St) (H : Hp) (Q : Bool -> Hp -> Prop), Inv X pins σ H s -> t σ H Q -> wpAny (model X.prog X.w) X.A (isTrue e X.env whole) (TP X pins σ Q) X.xe s
theorem PW.pt {X : Cx} {e : Expr} {t : TT} (h : PW X e t) : PT X e t := h _
def PA (X : Cx) (es : List Expr) (t : TA) : Prop :=
 ∀ (pos : Pos) (pins : List (Addr × Obj)) (s : Shared) (σ : St) (H : Hp) (Q : List V -> Hp -> Prop), Inv X pins σ H s -> t σ H Q -> wpAny (model X.prog X.w) X.A (spliced (backTo pos (starEach es X.env))) (AP X pins σ Q) X.xe s
def PS (X : Cx) (st : Stmt) (t : TS) : Prop :=
 ∀ (pins : List (Addr × Obj)) (s : Shared) (σ : St) (H : Hp) (D : Ends), Inv X pins σ H s -> t D σ H -> wpAny (model X.prog X.w) X.A (exec st X.env) (SP X pins D) X.xe s
def PSs (X : Cx) (st : List Stmt) (t : TS) : Prop :=
 ∀ (pins : List (Addr × Obj)) (s : Shared) (σ : St) (H : Hp) (D : Ends), Inv X pins σ H s -> t D σ H -> wpAny (model X.prog X.w) X.A (execs st X.env) (SP X pins D) X.xe s
theorem thn {α : Type} {t : Sem α} {Q Q' : α -> Shared -> Prop} {M : Model} {A : Around} {E : Value -> Shared -> Prop} {s : Shared} (h : wpAny M A t Q E s) (hQ : ∀ a s, Q a s -> Q' a s) : wpAny M A t Q' E s := wpAny_mono h hQ fun _ _ x => x
end L2
namespace L2
open PySem PySem.Spec PyProof.Rows
section
variable {X : Cx}
def tVar (i : Nat) : TE := fun σ H Q => ∃ v, σ[i]? = some (some v) /\ Q v H
def tC (v : V) : TE := fun _ H Q => Q v H
theorem pe_var {i : Nat} {x : Str} {pos : Pos} (hN : X.N[i]? = some x) (hv : Vis X.env.scope x) (hd : (x == ("__debug__" : Str)) = false := by decide) (hcd : (x == ("__classdict__" : Str)) = false := by decide) : PE X (.Name x pos) (tVar i) := by
 intro pins s σ H Q I h
 obtain ⟨v, e, h⟩ := h
 obtain ⟨m, hn, hl⟩ := I.loc
 obtain ⟨u, r, l⟩ := hl i x v hN e hv
 have fin : EP X pins σ Q u s := ⟨v, H, I, r, h⟩
 rcases l with ⟨hk, hm⟩ | ⟨hk, c, hc, hcell⟩
 ·exact wpAny_Name (wpAny_loadName_local I.ok.kind hk hn hm fin) hd
 ·rcases hk with hk | hk
  ·exact wpAny_Name (wpAny_loadName_cell I.ok.kind hk hc hcell fin) hd
  ·exact wpAny_Name (wpAny_loadName_free I.ok.kind hk hc hcell fin hcd) hd
theorem zj {i j pos} : PE X (.Constant (.int i) j pos) (tC (.int i)) := fun _ _ _ H _ I h => wpAny_Constant_int ⟨.int i, H, I.tok _, ⟨_, rfl⟩, h⟩
theorem wz {b j pos} : PE X (.Constant (.bool b) j pos) (tC (.bl b)) := fun _ _ _ H _ I h => Constant_bool ⟨.bl b, H, I, rfl, h⟩
theorem pe_non {j pos} : PE X (.Constant .none j pos) (tC .non) := fun _ _ _ H _ I h => Constant_none ⟨.non, H, I, rfl, h⟩
theorem qz {x j pos} : PE X (.Constant (.str x) j pos) (tC (.str x)) := fun _ _ _ H _ I h => Calls.Constant_str ⟨.str x, H, I.tok _, ⟨_, rfl⟩, h⟩
def Gl (X : Cx) (x : Str) : Prop := X.env.kindOf x = some .globalImplicit
theorem wA {E : Value -> Shared -> Prop} {pins : List (Addr × Obj)} {s : Shared} {σ : St} {H : Hp} {x : Str} {u : Value} {pos : Pos} {Q : Value -> Shared -> Prop} (I : Inv X pins σ H s) (hg : Gl X x) (hm : X.mg x = some u) (h : Q u s)
  (hd : (x == ("__debug__" : Str)) = false := by decide) : wpAny (model X.prog X.w) X.A (eval (.Name x pos) X.env) Q E s :=
 Calls.Name_function_global I.ok.kind hg (Calls.loadGlobal_global (by rw [I.ok.glob]; exact I.mod.glob.keeps I.bk) hm h) hd
theorem Zi {E : Value -> Shared -> Prop} {pins : List (Addr × Obj)} {s : Shared} {σ : St} {H : Hp} {x : Str} {u : Value} {pos : Pos} {Q : Value -> Shared -> Prop} (I : Inv X pins σ H s) (hg : Gl X x) (hm : X.mg x = none) (hv : bootBuiltins x = some u) (h : Q u s)
  (hn : x ≠ "__name__" := by decide) (hd : (x == ("__debug__" : Str)) = false := by decide) : wpAny (model X.prog X.w) X.A (eval (.Name x pos) X.env) Q E s := by
 obtain ⟨mb, h1, h2⟩ := I.mod.blt
 exact Calls.Name_function_global I.ok.kind hg (Calls.loadGlobal_builtin (by rw [I.ok.glob]; exact I.mod.glob.keeps I.bk) hm (by rw [I.ok.blt]; exact h1.keeps I.bk) ((h2 x hn).trans hv) h) hd
theorem pe_glob {x : Str} {v : V} {u : Value} {pos : Pos} (hg : Gl X x) (hm : X.mg x = some u) (r : RelV v u) (hd : (x == ("__debug__" : Str)) = false := by decide) : PE X (.Name x pos) (tC v) :=
 fun _ _ _ H _ I h => wA I hg hm ⟨v, H, I, r, h⟩ hd
theorem yC {x : Str} {v : V} {u : Value} {pos : Pos} (hg : Gl X x) (hm : X.mg x = none) (hv : bootBuiltins x = some u) (r : RelV v u) (hn : x ≠ "__name__" := by decide) (hd : (x == ("__debug__" : Str)) = false := by decide) : PE X (.Name x pos) (tC v) :=
 fun _ _ _ H _ I h => Zi I hg hm hv ⟨v, H, I, r, h⟩ hn hd
variable {a b : Expr} {ta tb : TE} {pos : Pos}
def tB (t : TE) : TT := fun σ H Q => t σ H fun x H1 => ∃ c, x = .bl c /\ Q c H1
theorem ZZ {e : Expr} {t : TE} (h : PE X e t) (he : ∀ whole, isTrue e X.env whole = (do let v <- whole; standAt e.pos; holding [v] (truthy v)) := by intro _; rfl) : PT X e (tB t) := by
 intro pins s σ H Q I hw
 refine isTrue_plain (thn (h pins s σ H _ I hw) fun v s1 ⟨x, H1, I1, r1, q1⟩ => ?_) (he _)
 obtain ⟨d, rfl, q⟩ := q1
 cases r1
 exact wpAny_truthy_bool ⟨H1, I1, q⟩
variable {tA tB' : TT} {rest : List Expr}
def tAnd (t u : TT) : TT := fun σ H Q => t σ H fun c H1 => if c = true then u σ H1 Q else Q false H1
def tOr (t u : TT) : TT := fun σ H Q => t σ H fun c H1 => if c = true then Q true H1 else u σ H1 Q
def tNot (t : TT) : TT := fun σ H Q => t σ H fun c H1 => Q (!c) H1
theorem wD (ha : PT X a tA) : PW X (.BoolOp .And [a] pos) tA := by
 intro wh pins s σ H Q I h
 refine isTrue_and (thn (ha pins s σ H Q I h) fun c s1 e => ?_)
 cases c with
 | true => exact isTrue_and_nil e
 | false => exact e
theorem Wr (ha : PT X a tA) : PW X (.BoolOp .Or [a] pos) tA := by
 intro wh pins s σ H Q I h
 refine isTrue_or (thn (ha pins s σ H Q I h) fun c s1 e => ?_)
 cases c with
 | false => exact isTrue_or_nil e
 | true => exact e
theorem yD (ha : PT X a tA) (hb : PW X (.BoolOp .And (b :: rest) pos) tB') : PW X (.BoolOp .And (a :: b :: rest) pos) (tAnd tA tB') := by
 intro wh pins s σ H Q I h
 refine isTrue_and (thn (ha pins s σ H _ I h) fun c s1 ⟨H1, I1, q1⟩ => ?_)
 cases c with
 | true => exact hb wh pins s1 σ H1 Q I1 q1
 | false => exact ⟨H1, I1, q1⟩
theorem yE (ha : PT X a tA) (hb : PW X (.BoolOp .Or (b :: rest) pos) tB') : PW X (.BoolOp .Or (a :: b :: rest) pos) (tOr tA tB') := by
 intro wh pins s σ H Q I h
 refine isTrue_or (thn (ha pins s σ H _ I h) fun c s1 ⟨H1, I1, q1⟩ => ?_)
 cases c with
 | true => exact ⟨H1, I1, q1⟩
 | false => exact hb wh pins s1 σ H1 Q I1 q1
theorem yF (ha : PT X a tA) : PT X (.UnaryOp .Not a pos) (tNot tA) := by
 intro pins s σ H Q I h
 exact isTrue_not (ha pins s σ H (fun c H1 => Q (!c) H1) I h)
def tAndV (ta tb : TE) : TE := fun σ H Q => ta σ H fun x H1 => ∃ c, x = .bl c /\ if c = true then tb σ H1 Q else Q (.bl false) H1
def tOrV (ta tb : TE) : TE := fun σ H Q => ta σ H fun x H1 => ∃ c, x = .bl c /\ if c = true then Q (.bl true) H1 else tb σ H1 Q
theorem pe_one {op} {t : TE} (h : PE X a t) : PE X (.BoolOp op [a] pos) t := fun pins s σ H Q I hw => BoolOp_one (h pins s σ H Q I hw)
theorem pe_and (ha : PE X a ta) (hb : PE X (.BoolOp .And (b :: rest) pos) tb) : PE X (.BoolOp .And (a :: b :: rest) pos) (tAndV ta tb) := by
 intro pins s σ H Q I h
 refine BoolOp_and (thn (ha pins s σ H _ I h) fun v s1 ⟨x, H1, I1, r1, q1⟩ => ?_)
 obtain ⟨c, rfl, q1⟩ := q1
 cases r1
 refine wpAny_truthy_bool ?_
 cases c with
 | true => exact hb pins s1 σ H1 Q I1 q1
 | false => exact ⟨.bl false, H1, I1, rfl, q1⟩
theorem pe_or (ha : PE X a ta) (hb : PE X (.BoolOp .Or (b :: rest) pos) tb) : PE X (.BoolOp .Or (a :: b :: rest) pos) (tOrV ta tb) := by
 intro pins s σ H Q I h
 refine BoolOp_or (thn (ha pins s σ H _ I h) fun v s1 ⟨x, H1, I1, r1, q1⟩ => ?_)
 obtain ⟨c, rfl, q1⟩ := q1
 cases r1
 refine wpAny_truthy_bool ?_
 cases c with
 | false => exact hb pins s1 σ H1 Q I1 q1
 | true => exact ⟨.bl true, H1, I1, rfl, q1⟩
end
end L2
namespace L2
open PySem PySem.Spec PyProof.Rows
def SqL (K : PySem.W.Frag) (H : Hp) (a : Addr) (xs : List V) : Prop :=
 Rd H a (.lst xs) \/
  ∃ (o : Obj) (its : Array Value) (n : Nat), K.lookup a = some o /\ o.cls = .type "list" /\ o.dict = none /\ o.data = .seq its n /\ its.size <= sizeLine /\ qe xs its.toList
def SqT (K : PySem.W.Frag) (H : Hp) (a : Addr) (xs : List V) : Prop :=
 Rd H a (.tup xs) \/
  ∃ (o : Obj) (its : Array Value) (n : Nat), K.lookup a = some o /\ o.cls = .type "tuple" /\ o.data = .seq its n /\ its.size <= sizeLine /\ qe xs its.toList
def absV : Value -> Option V
 | .none => some .non
 | .bool b => some (.bl b)
 | .int i _ => some (.int i)
 | .str x _ => some (.str x)
 | .bytes b _ => some (.byt b)
 | .float b _ => some (.flt b)
 | .ref a => some (.ref a)
 | .type n => some (.ty n)
 | _ => none
theorem RelV.abs {x : V} {u : Value} (r : RelV x u) : absV u = some x := by
 cases x with
 | non => cases r; rfl
 | bl _ => cases r; rfl
 | int _ => obtain ⟨t, rfl⟩ := r; rfl
 | str _ => obtain ⟨t, rfl⟩ := r; rfl
 | byt _ => obtain ⟨t, rfl⟩ := r; rfl
 | flt _ => obtain ⟨t, rfl⟩ := r; rfl
 | ref _ => cases r; rfl
 | ty _ => cases r; rfl
theorem RelV.inj {x y : V} {u : Value} (r : RelV x u) (q : RelV y u) : x = y := Option.some.inj (r.abs.symm.trans q.abs)
theorem qe.inj : ∀ {xs ys : List V} {us : List Value}, qe xs us -> qe ys us -> xs = ys
 | _, _, _, .nil, .nil => rfl
 | _, _, _, .cons r t, .cons r' t' => by rw [r.inj r', qe.inj t t']
section
variable {X : Cx} {pins : List (Addr × Obj)} {σ : St} {H : Hp} {s : Shared} {a : Addr} {xs ys : List V}
theorem SqL.of {K : PySem.W.Frag} (h : H a = some (.lst xs)) : SqL K H a xs := .inl (.inl h)
theorem SqT.of {K : PySem.W.Frag} (h : H a = some (.tup xs)) : SqT K H a xs := .inl (.inl h)
theorem Inv.list (I : Inv X pins σ H s) (h : SqL X.K H a xs) : ∃ its : List Value, qe xs its /\ PlainL s.heap a its.toArray /\ xs.length <= sizeLine := by
 rcases h with h | ⟨o, its, n, hk, hc, hd, hs, hz, r⟩
 ·obtain ⟨z, its, n, r, e⟩ := h.ok I.hok
  exact ⟨its, r, ⟨_, n, e, rfl, rfl, rfl⟩, z⟩
 ·refine ⟨its.toList, r, ⟨o, n, I.kIn a o hk, hc, hd, by simpa using hs⟩, ?_⟩
  have e := r.length
  simp only [Array.length_toList] at e
  omega
theorem Inv.tuple (I : Inv X pins σ H s) (h : SqT X.K H a xs) : ∃ its : List Value, qe xs its /\ IsTup s.heap a its.toArray /\ xs.length <= sizeLine := by
 rcases h with h | ⟨o, its, n, hk, hc, hs, hz, r⟩
 ·obtain ⟨z, its, r, p⟩ := h.ok I.hok
  exact ⟨its, r, p.isTup, z⟩
 ·refine ⟨its.toList, r, ⟨o, I.kIn a o hk, hc, n, by simpa using hs⟩, ?_⟩
  have e := r.length
  simp only [Array.length_toList] at e
  omega
theorem Inv.list_inj (I : Inv X pins σ H s) (h : SqL X.K H a xs) (h' : SqL X.K H a ys) : xs = ys := by
 obtain ⟨its, r, ⟨o, n, e, _, _, d⟩, _⟩ := I.list h
 obtain ⟨its', r', ⟨o', n', e', _, _, d'⟩, _⟩ := I.list h'
 rw [e] at e'; cases e'
 rw [d] at d'
 injection d' with d1 _
 have : its = its' := by simpa using congrArg Array.toList d1
 subst this
 exact r.inj r'
theorem Inv.tuple_inj (I : Inv X pins σ H s) (h : SqT X.K H a xs) (h' : SqT X.K H a ys) : xs = ys := by
 obtain ⟨its, r, ⟨o, e, _, n, d⟩, _⟩ := I.tuple h
 obtain ⟨its', r', ⟨o', e', _, n', d'⟩, _⟩ := I.tuple h'
 rw [e] at e'; cases e'
 rw [d] at d'
 injection d' with d1 _
 have : its = its' := by simpa using congrArg Array.toList d1
 subst this
 exact r.inj r'
end
abbrev Cx.wish (X : Cx) (E : Value -> Shared -> Prop) : Cx := { X with xe := E }
abbrev Cx.nox (X : Cx) : Cx := X.wish fun _ _ => False
theorem Cx.Ok.wish {X : Cx} (ok : X.Ok) (E : Value -> Shared -> Prop) : (X.wish E).Ok :=
 ⟨ok.mod, ok.kind, ok.glob, ok.blt, ok.above, ok.inj, ok.has, ok.cab, ok.hd, ok.frames, ok.stk, ok.exf, ok.bs, ok.bsz, ok.noex, ok.exfs, ok.funs, ok.frf⟩
theorem Cx.Ok.unwish {X : Cx} {E : Value -> Shared -> Prop} (ok : (X.wish E).Ok) : X.Ok :=
 ⟨ok.mod, ok.kind, ok.glob, ok.blt, ok.above, ok.inj, ok.has, ok.cab, ok.hd, ok.frames, ok.stk, ok.exf, ok.bs, ok.bsz, ok.noex, ok.exfs, ok.funs, ok.frf⟩
section
variable {X : Cx} {pins : List (Addr × Obj)} {σ : St} {H : Hp} {s : Shared} {E : Value -> Shared -> Prop}
theorem Inv.wish (I : Inv X pins σ H s) (E : Value -> Shared -> Prop) : Inv (X.wish E) pins σ H s := ⟨I.ok.wish E, I.os, I.bare, I.base, I.loc, I.cell, I.free, I.freeC, I.pin, I.hok, I.len⟩
theorem Inv.unwish (I : Inv (X.wish E) pins σ H s) : Inv X pins σ H s := ⟨I.ok.unwish, I.os, I.bare, I.base, I.loc, I.cell, I.free, I.freeC, I.pin, I.hok, I.len⟩
theorem SP.unwish {D : Ends} {f : Flow} {s' : Shared} (h : SP (X.wish E) pins D f s') : SP X pins D f s' := by
 cases f with
 | next => obtain ⟨σ', H', I, q⟩ := h; exact ⟨σ', H', I.unwish, q⟩
 | brk => obtain ⟨σ', H', I, q⟩ := h; exact ⟨σ', H', I.unwish, q⟩
 | cont => obtain ⟨σ', H', I, q⟩ := h; exact ⟨σ', H', I.unwish, q⟩
 | ret u => obtain ⟨v, σ', H', I, r, q⟩ := h; exact ⟨v, σ', H', I.unwish, r, q⟩
theorem PSs.nox {st : List Stmt} {t : TS} (h : PSs X.nox st t) : PSs X st t := fun pins s σ H D I hw =>
 wpAny_mono (h pins s σ H D (I.wish _) hw) (fun _ _ q => q.unwish) fun _ _ z => False.elim z
end
section
variable {X : Cx} {st : Stmt} {rest : List Stmt} {t u : TS} {e : Expr} {te : TE} {pos : Pos}
def tNext : TS := fun D σ H => D.nx σ H
def tSeq (t u : TS) : TS := fun D σ H => t { D with nx := u D } σ H
theorem zW : PSs X [] tNext := fun _ _ σ H _ I h => wpAny_execs_nil ⟨σ, H, I, h⟩
theorem zh (h1 : PS X st t) (h2 : PSs X rest u) : PSs X (st :: rest) (tSeq t u) := by
 intro pins s σ H D I h
 refine wpAny_execs_cons (thn (h1 pins s σ H { D with nx := u D } I h) fun f s1 q => ?_)
 cases f with
 | next =>
  obtain ⟨σ', H', I', q⟩ := q
  exact h2 pins s1 σ' H' D I' q
 | ret v => exact q
 | brk => exact q
 | cont => exact q
theorem zm (h1 : PS X st t) : PSs X [st] t := by
 intro pins s σ H D I h
 refine wpAny_execs_cons (thn (h1 pins s σ H D I h) fun f s1 q => ?_)
 cases f with
 | next => exact wpAny_execs_nil q
 | ret v => exact q
 | brk => exact q
 | cont => exact q
theorem Inv.quiet {pins : List (Addr × Obj)} {σ : St} {H : Hp} {s : Shared} (I : Inv X pins σ H s) : interactive X.env = false := by simp [interactive, I.ok.kind]
def tDrop (te : TE) : TS := fun D σ H => te σ H fun _ H1 => D.nx σ H1
theorem qy (he : PE X e te) (hs : swapsWith e none pos.line X.env = pure false := by rfl) : PS X (.Expr e pos) (tDrop te) := by
 intro pins s σ H D I h
 exact wpAny_Expr_any (thn (he pins s σ H _ I h) fun v s1 ⟨x, H1, I1, r1, q1⟩ => ⟨σ, H1, I1, q1⟩) I.quiet hs
def tRet (te : TE) : TS := fun D σ H => te σ H D.rt
theorem zP (he : PE X e te) : PS X (.Return (some e) pos) (tRet te) := by
 intro pins s σ H D I h
 exact wpAny_Return_some (thn (he pins s σ H _ I h) fun v s1 ⟨x, H1, I1, r1, q1⟩ => ⟨x, σ, H1, I1, r1, q1⟩)
def tIfS (c : TT) (t u : TS) : TS := fun D σ H => c σ H fun b H1 => if b = true then t D σ H1 else u D σ H1
theorem jk {c : Expr} {a b : List Stmt} {tc : TT} (hc : PT X c tc) (ha : PSs X a t) (hb : PSs X b u) : PS X (.If c a b pos) (tIfS tc t u) := by
 intro pins s σ H D I h
 refine wpAny_If (thn (hc pins s σ H _ I h) fun d s1 ⟨H1, I1, q1⟩ => ?_)
 cases d with
 | true => exact ha pins s1 σ H1 D I1 q1
 | false => exact hb pins s1 σ H1 D I1 q1
def tNever : TS := fun _ _ _ => False
theorem QZ : PS X st tNever := fun _ _ _ _ _ _ h => h.elim
end
abbrev TG := V -> St -> Hp -> (St -> Hp -> Prop) -> Prop
abbrev TGs := List V -> St -> Hp -> (St -> Hp -> Prop) -> Prop
def PG (X : Cx) (target : Expr) (t : TG) : Prop :=
 ∀ (pins : List (Addr × Obj)) (s : Shared) (σ : St) (H : Hp) (v : V) (u : Value) (Q : St -> Hp -> Prop), Inv X pins σ H s -> RelV v u -> t v σ H Q ->
  wpAny (model X.prog X.w) X.A (assign target X.env u) (fun _ s' => ∃ σ' H', Inv X pins σ' H' s' /\ Q σ' H') X.xe s
def PGs (X : Cx) (ts : List Expr) (t : TGs) : Prop :=
 ∀ (pins : List (Addr × Obj)) (s : Shared) (σ : St) (H : Hp) (vs : List V) (us : List Value) (Q : St -> Hp -> Prop), Inv X pins σ H s -> qe vs us -> t vs σ H Q ->
  wpAny (model X.prog X.w) X.A (assignInOrder ((assignEach ts X.env).map (·.2)) us) (fun _ s' => ∃ σ' H', Inv X pins σ' H' s' /\ Q σ' H') X.xe s
abbrev TSet := V -> V -> V -> Hp -> (Hp -> Prop) -> Prop
def PSet (X : Cx) (t : TSet) : Prop :=
 ∀ (pins : List (Addr × Obj)) (s : Shared) (σ : St) (H : Hp) (o i v : V) (ov iv u : Value) (Q : Hp -> Prop), Inv X pins σ H s -> RelV o ov -> RelV i iv -> RelV v u -> t o i v H Q ->
  wpAny (model X.prog X.w) X.A (setItem ov iv u) (fun _ s' => ∃ H', Inv X pins σ H' s' /\ Q H') X.xe s
section
variable {X : Cx} {pos : Pos}
def jJ (i : Nat) : TG := fun v σ H Q => Q (σ.set i (some v)) H
theorem zp {i : Nat} {x : Str} (hN : X.N.Nodup) (hi : X.N[i]? = some x) (hx : Loc X.env.scope x) (hf : X.fn x = true \/ X.env.scope.names.lookup x = some .local := by first | exact .inl rfl | exact .inr rfl | assumption) : PG X (.Name x pos) (jJ i) := by
 intro pins s σ H v u Q I r h
 exact wpAny_assign_Name (QY I hN hi hx r (fun s' I' => ⟨_, H, I', h⟩) hf)
def gNil : TGs := fun vs σ H Q => vs = [] /\ Q σ H
def JB (t : TG) (u : TGs) : TGs := fun vs σ H Q => ∃ v r, vs = v :: r /\ t v σ H fun σ' H' => u r σ' H' Q
theorem jM : PGs X [] gNil := by
 intro pins s σ H vs us Q I r h
 obtain ⟨e, h⟩ := h
 subst e
 cases r
 exact assignInOrder_nil ⟨σ, H, I, h⟩
theorem zK {e : Expr} {es : List Expr} {t : TG} {u : TGs} (h1 : PG X e t) (h2 : PGs X es u)
  (hs : (assignEach (e :: es) X.env).map (·.2) = assign e X.env :: (assignEach es X.env).map (·.2) := by rfl) : PGs X (e :: es) (JB t u) := by
 intro pins s σ H vs us Q I r h
 obtain ⟨v, vr, e1, h⟩ := h
 subst e1
 cases r with
 | cons r rr =>
  rw [hs]
  refine assignInOrder_cons (thn (h1 pins s σ H _ _ _ I r h) fun _ s1 ⟨σ1, H1, I1, q1⟩ => ?_)
  exact h2 pins s1 σ1 H1 _ _ Q I1 rr q1
def gTup (K : PySem.W.Frag) (n : Nat) (t : TGs) : TG := fun v σ H Q => ∃ a xs, v = .ref a /\ SqT K H a xs /\ xs.length = n /\ t xs σ H Q
theorem pg_tup {es : List Expr} {k : Nat} {t : TGs} {n : Nat} (hc : X.calm = true) (h : PGs X es t)
  (hn : (assignEach es X.env).length = n := by rfl) (hst : (assignEach es X.env).findIdx? (·.1) = none := by rfl) : PG X (.Tuple es k pos) (gTup X.K n t) := by
 intro pins s σ H v u Q I r hw
 obtain ⟨a, xs, e1, hq, hl, hw⟩ := hw
 subst e1
 cases r
 obtain ⟨its, rv, ht, hz⟩ := I.tuple hq
 refine assign_Tuple_tuple (I.ok.hd hc) ht (by simp [hn, <- hl, rv.length]) hst fun h' hx => ?_
 have I1 : Inv X pins σ H { s with heap := h' } := I.kept (t' := s.toks) fun b o e => hx b o (Nat.ne_of_lt (Heap.lt_size e)) e
 exact h pins _ σ H xs _ Q I1 (by simpa using rv) hw
def gSub (to ti : TE) (t : TSet) : TG := fun v σ H Q => to σ H fun o H1 => ti σ H1 fun i H2 => t o i v H2 fun H3 => Q σ H3
theorem pg_sub {o i : Expr} {to ti : TE} {t : TSet} (ho : PE X o to) (hi : PE X i ti) (hs : PSet X t)
  (ha : ∀ v, assign (.Subscript o i pos) X.env v = (do
   let ov <- holding [v] (eval o X.env)
   let iv <- holding [v, ov] (eval i X.env)
   standAt pos
   holding [v, ov, iv] (setItem ov iv v)
   release [v, ov, iv] []) := by intro _; rfl) : PG X (.Subscript o i pos) (gSub to ti t) := by
 intro pins s σ H v u Q I r h
 rw [ha]
 refine wpAny_bind (wpAny_holding (thn (ho pins s σ H _ I h) fun ov s1 ⟨x, H1, I1, r1, q1⟩ => ?_))
 refine wpAny_bind (wpAny_holding (thn (hi pins s1 σ H1 _ I1 q1) fun iv s2 ⟨y, H2, I2, r2, q2⟩ => ?_))
 refine wpAny_bind (wpAny_standAt (wpAny_bind (wpAny_holding (thn (hs pins s2 σ H2 x y v ov iv u _ I2 r1 r2 r q2) fun _ s3 ⟨H3, I3, q3⟩ => ?_))))
 exact wpAny_release ⟨σ, H3, I3, q3⟩
def tAsg (te : TE) (g : TG) : TS := fun D σ H => te σ H fun x H1 => g x σ H1 D.nx
theorem Ws {tg e : Expr} {te : TE} {g : TG} (he : PE X e te) (hg : PG X tg g) (hs : swapsWithSole [tg] e pos.line X.env = pure false := by rfl) (hw : swappedStores [tg] e X.env = pure none := by rfl)
  (h1 : (assignEach [tg] X.env).map (·.2) = [assign tg X.env] := by rfl) : PS X (.Assign [tg] e pos) (tAsg te g) := by
 intro pins s σ H D I h
 refine wpAny_Assign_stores (thn (he pins s σ H _ I h) fun v s1 ⟨x, H1, I1, r1, q1⟩ => ?_) hs hw
 rw [h1]
 exact thn (hg pins s1 σ H1 x v _ I1 r1 q1) fun _ s2 q => q
theorem zv {i : Nat} {x : Str} {e : Expr} {te : TE} {pos' : Pos} (hN : X.N.Nodup) (hi : X.N[i]? = some x) (hx : Loc X.env.scope x) (he : PE X e te) (hs : swapsWith e (some (.Name x pos')) pos.line X.env = pure false := by rfl) (hf : X.fn x = true \/ X.env.scope.names.lookup x = some .local := by first | exact .inl rfl | exact .inr rfl | assumption) :
  PS X (.Assign [.Name x pos'] e pos) (tAsg te (jJ i)) := by
 intro pins s σ H D I h
 refine wpAny_Assign_Name (thn (he pins s σ H _ I h) fun v s1 ⟨y, H1, I1, r1, q1⟩ => ?_) hs
 exact QY I1 hN hi hx r1 (fun s2 I2 => ⟨_, H1, I2, q1⟩) hf
end
section
variable {X : Cx} {pos : Pos}
def tWhile (c : TT) (tb : TS) : TS := fun D σ H => ∃ W : Nat -> St -> Hp -> Prop, (∃ m, W m σ H) /\ ∀ m σ H, W m σ H ->
 c σ H fun b H1 => if b = true then ∃ N : St -> Hp -> Prop, (∀ σ' H', N σ' H' -> ∃ m', m' < m /\ W m' σ' H') /\ tb { D with nx := N, ct := N, bk := D.nx } σ H1 else D.nx σ H1
theorem Wt {c : Expr} {body : List Stmt} {tc : TT} {tb : TS} (hp : PassesOwn (model X.prog X.w) X.A X.env X.xe) (hc : PT X c tc) (hb : PSs X body tb) : PS X (.While c body [] pos) (tWhile tc tb) := by
 intro pins s σ H D I h
 obtain ⟨W, ⟨m0, w0⟩, turn⟩ := h
 refine wpAny_While (codeAny_whileLoop (fun n s' => ∃ σ' H', Inv X pins σ' H' s' /\ W n σ' H') ?_ m0 ⟨σ, H, I, w0⟩)
 rintro n s1 ⟨σ1, H1, I1, w1⟩
 refine wpAny_passesOwn hp (thn (hc pins s1 σ1 H1 _ I1 (turn n σ1 H1 w1)) fun b s2 ⟨H2, I2, q2⟩ => ?_)
 cases b with
 | true =>
  obtain ⟨N, hN, q2⟩ := q2
  rw [if_pos rfl]
  refine wpAny_passesOwn hp (thn (hb pins s2 σ1 H2 _ I2 q2) fun f s3 q3 => ?_)
  cases f with
  | next =>
   obtain ⟨σ3, H3, I3, n3⟩ := q3
   obtain ⟨m', hm, w3⟩ := hN σ3 H3 n3
   exact ⟨m', hm, σ3, H3, I3, w3⟩
  | cont =>
   obtain ⟨σ3, H3, I3, n3⟩ := q3
   obtain ⟨m', hm, w3⟩ := hN σ3 H3 n3
   exact ⟨m', hm, σ3, H3, I3, w3⟩
  | brk => exact q3
  | ret v => exact q3
 | false =>
  rw [if_neg Bool.false_ne_true]
  exact wpAny_execs_nil ⟨σ1, H2, I2, q2⟩
end
structure It where
 go : Nat -> Hp -> Prop
 yld : Nat -> Hp -> V -> Hp -> Prop
 stop : Nat -> Hp -> Prop
def Wu (X : Cx) (pins : List (Addr × Obj)) (H : Hp) (b : Addr) : Prop :=
 H b = none /\ b ≠ X.env.locals /\ b ∉ X.fs /\ (b ∈ X.ex \/ X.s₀.heap.objs.size <= b) /\ (∀ x c, X.env.cells.lookup x = some c -> c ≠ b) /\ ∀ p ∈ X.pn ++ pins, p.1 ≠ b
theorem Inv.fpOk {X : Cx} {pins : List (Addr × Obj)} {σ : St} {H H' : Hp} {s : Shared} {b : Addr} (I : Inv X pins σ H s) (hb : s.heap.objs.size <= b) (hn : H' b = none) : Wu X pins H' b := by
 refine ⟨hn, Nat.ne_of_gt (Nat.lt_of_lt_of_le I.lt hb), I.nofs hb, .inr (Nat.le_trans I.sz hb), fun x c e z => ?_, fun p hp z => ?_⟩
 ·obtain ⟨v, q⟩ := I.cell x c e
  exact absurd (Nat.lt_of_lt_of_le q.lt (by rw [z]; exact hb)) (Nat.lt_irrefl _)
 ·exact absurd (Nat.lt_of_lt_of_le (Heap.lt_size (I.pin p hp).1) (by rw [z]; exact hb)) (Nat.lt_irrefl _)
structure Turn (P : Program) (w : World) (K : PySem.W.Frag) (tg : Expr) (J : It) (fp : List Addr) (it : Addr) (tn : Nat -> Heap -> Prop) : Prop where
 mem : it ∈ fp
 obj : ∀ i h, tn i h -> ∀ b ∈ fp, ∃ o, h.get? b = some o /\ ∀ v, o.data ≠ .cell v
 keep : ∀ i h h', tn i h -> (∀ b ∈ fp, ∀ o, h.get? b = some o -> h'.get? b = some o) -> tn i h'
 item : ∀ (X : Cx), X.prog = P -> X.w = w -> X.K = K -> X.calm = true -> ∀ (i : Nat) (pins : List (Addr × Obj)) (s : Shared) (σ : St) (H : Hp) (E : Value -> Shared -> Prop), Inv X pins σ H s -> (∀ b ∈ fp, Wu X pins H b) -> tn i s.heap -> J.go i H ->
  wpAny (model P w) X.A (pyNext (.ref it)) (fun r s1 => ∃ u, r = some u /\
   wpAny (model P w) X.A (letOwnedTupleGo tg (.ref it) u) (fun _ s2 => ∃ x H', Inv X pins σ H' s2 /\ RelV x u /\ J.yld i H x H' /\ tn (i + 1) s2.heap /\ ∀ b ∈ fp, H' b = none) E s1) E s
 done : ∀ (X : Cx), X.prog = P -> X.w = w -> X.K = K -> X.calm = true -> ∀ (i : Nat) (pins : List (Addr × Obj)) (s : Shared) (σ : St) (H : Hp) (E : Value -> Shared -> Prop), Inv X pins σ H s -> (∀ b ∈ fp, Wu X pins H b) -> tn i s.heap -> J.stop i H ->
  wpAny (model P w) X.A (pyNext (.ref it)) (fun r s1 => r = none /\ Inv X pins σ H s1) E s
 self : ∀ (A : Around) (i : Nat) (s : Shared) (Q : Value -> Shared -> Prop) (E : Value -> Shared -> Prop), tn i s.heap -> Q (.ref it) s -> wpAny (model P w) A (pyIter (.ref it)) Q E s
abbrev TI := St -> Hp -> (It -> Hp -> Prop) -> Prop
def PIE (X : Cx) (pins : List (Addr × Obj)) (σ : St) (tg : Expr) (R : It -> Hp -> Prop) (itv : Value) (s2 : Shared) : Prop :=
 ∃ (it : Addr) (fp : List Addr) (tn : Nat -> Heap -> Prop) (J : It) (H' : Hp), itv = .ref it /\ Inv X pins σ H' s2 /\ Turn X.prog X.w X.K tg J fp it tn /\ tn 0 s2.heap /\ (∀ b ∈ fp, Wu X pins H' b) /\ R J H'
def PI (X : Cx) (tg iter : Expr) (wi : TI) : Prop :=
 ∀ (pins : List (Addr × Obj)) (s : Shared) (σ : St) (H : Hp) (R : It -> Hp -> Prop), Inv X pins σ H s -> wi σ H R ->
  wpAny (model X.prog X.w) X.A (eval iter X.env) (fun v s1 => wpAny (model X.prog X.w) X.A (pyIter v) (PIE X pins σ tg R) X.xe s1) X.xe s
theorem yG {M : Model} {A : Around} {E : Value -> Shared -> Prop} {s : Shared} {tg : Expr} {it : Addr} {u : Value} {o : Obj} {n : String} {vs : Array Value} {Q : Unit -> Shared -> Prop} (ho : s.heap.get? it = some o) (hc : o.cls = .type n) (hd : o.data = .fields vs)
    (hn : ["enumerate", "zip", "dict_itemiterator", "dict_reverseitemiterator", "odict_iterator", "itertools.zip_longest", "itertools.pairwise"].contains n = false) (hQ : Q () s) : wpAny M A (letOwnedTupleGo tg (.ref it) u) Q E s := by
  unfold letOwnedTupleGo
  cases tg <;> first
    | exact wpAny_pure hQ
    | (cases u <;> first
        | exact wpAny_pure hQ
        | (refine wpAny_bind (wpAny_load ho ?_)
           rw [hc, hd]
           show wpAny M A (if (["enumerate", "zip", "dict_itemiterator", "dict_reverseitemiterator", "odict_iterator", "itertools.zip_longest", "itertools.pairwise"].contains n && vs[0]? == some (rawInt _)) = true then _ else _) Q E s
           rw [if_neg (by intro h; rw [hn, Bool.false_and] at h; cases h)]
           exact wpAny_pure hQ))
def Itl (K : PySem.W.Frag) (a : Addr) : It :=
 ⟨fun i H => ∃ xs x, SqL K H a xs /\ xs[i]? = some x, fun i H x H' => H' = H /\ ∀ xs, SqL K H a xs -> xs[i]? = some x, fun i H => ∃ xs, SqL K H a xs /\ xs.length <= i⟩
def Itt (K : PySem.W.Frag) (a : Addr) : It :=
 ⟨fun i H => ∃ xs x, SqT K H a xs /\ xs[i]? = some x, fun i H x H' => H' = H /\ ∀ xs, SqT K H a xs -> xs[i]? = some x, fun i H => ∃ xs, SqT K H a xs /\ xs.length <= i⟩
def Itr (lo : Int) (n : Nat) : It := ⟨fun i _ => i < n, fun i H x H' => H' = H /\ x = .int (lo + i), fun i _ => n <= i⟩
theorem yH {P : Program} {w : World} {K : PySem.W.Frag} {tg : Expr} (a it : Addr) : Turn P w K tg (Itl K a) [it] it (fun i h => h.IsListIter it a i) where
 mem := by simp
 obj := fun i h st b hb => by
  have e : b = it := by simpa using hb
  subst e
  obtain ⟨o, e, c, d⟩ := st
  exact ⟨o, e, fun v z => by rw [d] at z; cases z⟩
 keep := fun i h h' st k => st.at fun o e => k it (by simp) o e
 item := by
  intro X hP hw hK hc i pins s σ H E I hf st hg
  subst hP hw hK
  obtain ⟨xs, x, hq, hx⟩ := hg
  obtain ⟨its, rv, p, hz⟩ := I.list hq
  obtain ⟨u, hu, ru⟩ := rv.get hx
  obtain ⟨f0, f1, f2, f3, f4, f5⟩ := hf it (by simp)
  refine wpAny_pyNext_list_item st p.isList (x := u) (by simpa using hu) fun h' st' sb => ?_
  have I1 : Inv X pins σ H { s with heap := h' } := I.turned (t' := s.toks) (fun b o hb e => (sb.2 b hb).trans e) f0 f1 f3 f4 f5
  obtain ⟨o, e, c, d⟩ := id st'
  exact ⟨u, rfl, yG (s := { s with heap := h' }) e c d (by decide) ⟨x, H, I1, ru, ⟨rfl, fun ys hy => by rw [I.list_inj hy hq]; exact hx⟩, st', fun b hb => (hf b hb).1⟩⟩
 done := by
  intro X hP hw hK hc i pins s σ H E I hf st hg
  subst hP hw hK
  obtain ⟨xs, hq, hx⟩ := hg
  obtain ⟨its, rv, p, hz⟩ := I.list hq
  obtain ⟨f0, f1, f2, f3, f4, f5⟩ := hf it (by simp)
  have hl := rv.length
  exact wpAny_pyNext_list_end (I.ok.hd hc) st p.isList (by simp; omega) fun h' eb => ⟨rfl, I.turned (t' := s.toks) (fun b o hb e => eb b o hb e) f0 f1 f3 f4 f5⟩
 self := fun _ _ _ _ _ st h => wpAny_pyIter_listiter st h
theorem WV {P : Program} {w : World} {K : PySem.W.Frag} {tg : Expr} (a it : Addr) : Turn P w K tg (Itt K a) [it] it (fun i h => h.IsTupleIter it a i) where
 mem := by simp
 obj := fun i h st b hb => by
  have e : b = it := by simpa using hb
  subst e
  obtain ⟨o, e, c, d⟩ := st
  exact ⟨o, e, fun v z => by rw [d] at z; cases z⟩
 keep := fun i h h' st k => st.at fun o e => k it (by simp) o e
 item := by
  intro X hP hw hK hc i pins s σ H E I hf st hg
  subst hP hw hK
  obtain ⟨xs, x, hq, hx⟩ := hg
  obtain ⟨its, rv, p, hz⟩ := I.tuple hq
  obtain ⟨u, hu, ru⟩ := rv.get hx
  obtain ⟨f0, f1, f2, f3, f4, f5⟩ := hf it (by simp)
  refine wpAny_pyNext_tuple_item st (show s.heap.IsTuple a its.toArray from p) (x := u) (by simpa using hu) fun h' st' sb => ?_
  have I1 : Inv X pins σ H { s with heap := h' } := I.turned (t' := s.toks) (fun b o hb e => (sb.2 b hb).trans e) f0 f1 f3 f4 f5
  obtain ⟨o, e, c, d⟩ := id st'
  exact ⟨u, rfl, yG (s := { s with heap := h' }) e c d (by decide) ⟨x, H, I1, ru, ⟨rfl, fun ys hy => by rw [I.tuple_inj hy hq]; exact hx⟩, st', fun b hb => (hf b hb).1⟩⟩
 done := by
  intro X hP hw hK hc i pins s σ H E I hf st hg
  subst hP hw hK
  obtain ⟨xs, hq, hx⟩ := hg
  obtain ⟨its, rv, p, hz⟩ := I.tuple hq
  obtain ⟨f0, f1, f2, f3, f4, f5⟩ := hf it (by simp)
  have hl := rv.length
  exact wpAny_pyNext_tuple_end (I.ok.hd hc) st (show s.heap.IsTuple a its.toArray from p) (by simp; omega) fun h' eb => ⟨rfl, I.turned (t' := s.toks) (fun b o hb e => eb b o hb e) f0 f1 f3 f4 f5⟩
 self := fun _ _ _ _ _ st h => wpAny_pyIter_tupleiter st h
theorem WW {P : Program} {w : World} {K : PySem.W.Frag} {tg : Expr} (it : Addr) (lo : Int) (n : Nat) : Turn P w K tg (Itr lo n) [it] it (fun i h => IsRangeIter h it (lo + (i : Nat) * 1) ((n : Int) - (i : Nat)) 1) where
 mem := by simp
 obj := fun i h st b hb => by
  have e : b = it := by simpa using hb
  subst e
  exact ⟨_, st, fun v z => by
   have z' : Data.fields _ = Data.cell v := z
   cases z'⟩
 keep := fun i h h' st k => k it (by simp) _ st
 item := by
  intro X hP hw hK hc i pins s σ H E I hf st hg
  subst hP hw hK
  obtain ⟨f0, f1, f2, f3, f4, f5⟩ := hf it (by simp)
  have W := Walks.range (prog := X.prog) (w := X.w) (I.ok.hd hc) it lo 1 n
  refine W.item i s _ _ hg st fun v h' tk hv st' kk => ?_
  obtain ⟨t, rfl⟩ := hv
  have I1 : Inv X pins σ H { s with heap := h', toks := tk } := I.turned (fun b o hb e => kk b o (by simpa using hb) e) f0 f1 f3 f4 f5
  refine ⟨_, rfl, yG (s := { s with heap := h', toks := tk }) (n := "range_iterator") st' rfl rfl (by decide) ⟨.int (lo + i), H, I1, ⟨t, ?_⟩, ⟨rfl, rfl⟩, st', fun b hb => (hf b hb).1⟩⟩
  rw [Int.mul_one]
 done := by
  intro X hP hw hK hc i pins s σ H E I hf st hg
  subst hP hw hK
  obtain ⟨f0, f1, f2, f3, f4, f5⟩ := hf it (by simp)
  exact wpAny_pyNext_range_end (I.ok.hd hc) st (by have : n <= i := hg; omega) fun h' eb => ⟨rfl, I.turned (t' := s.toks) (fun b o hb e => eb b o hb e) f0 f1 f3 f4 f5⟩
 self := fun _ _ _ _ _ st h => wpAny_pyIter_rangeiter st h
end L2
namespace L2
open PySem PySem.Spec PyProof.Rows
section
variable {X : Cx} {tg : Expr}
def iList (K : PySem.W.Frag) (tl : TE) : TI := fun σ H R => tl σ H fun x H1 => ∃ a, x = .ref a /\ (∃ xs, SqL K H1 a xs) /\ R (Itl K a) H1
def iTup (K : PySem.W.Frag) (tl : TE) : TI := fun σ H R => tl σ H fun x H1 => ∃ a, x = .ref a /\ (∃ xs, SqT K H1 a xs) /\ R (Itt K a) H1
theorem pi_list {l : Expr} {tl : TE} (hl : PE X l tl) : PI X tg l (iList X.K tl) := by
 intro pins s σ H R I h
 refine thn (hl pins s σ H _ I h) fun v s1 ⟨x, H1, I1, r1, q1⟩ => ?_
 obtain ⟨a, e, ⟨xs, hq⟩, q⟩ := q1
 subst e
 cases r1
 obtain ⟨its, rv, p, hz⟩ := I1.list hq
 refine wpAny_pyIter_list p.isList ?_
 refine ⟨s1.heap.objs.size, [s1.heap.objs.size], _, _, H1, rfl, I1.kept (t' := s1.toks) fun b o e => Heap.get?_push_of_some _ e, yH a _, ⟨_, Heap.get?_push_size _ rfl, rfl, rfl⟩, fun b hb => ?_, q⟩
 have e : b = s1.heap.objs.size := by simpa using hb
 subst e
 exact I1.fpOk (Nat.le_refl _) (I1.hok.fresh (Nat.le_refl _))
theorem pi_tup {l : Expr} {tl : TE} (hl : PE X l tl) : PI X tg l (iTup X.K tl) := by
 intro pins s σ H R I h
 refine thn (hl pins s σ H _ I h) fun v s1 ⟨x, H1, I1, r1, q1⟩ => ?_
 obtain ⟨a, e, ⟨xs, hq⟩, q⟩ := q1
 subst e
 cases r1
 obtain ⟨its, rv, p, hz⟩ := I1.tuple hq
 refine wpAny_pyIter_tuple (show s1.heap.IsTuple a its.toArray from p) ?_
 refine ⟨s1.heap.objs.size, [s1.heap.objs.size], _, _, H1, rfl, I1.kept (t' := s1.toks) fun b o e => Heap.get?_push_of_some _ e, WV a _, ⟨_, Heap.get?_push_size _ rfl, rfl, rfl⟩, fun b hb => ?_, q⟩
 have e : b = s1.heap.objs.size := by simpa using hb
 subst e
 exact I1.fpOk (Nat.le_refl _) (I1.hok.fresh (Nat.le_refl _))
theorem range_it {pins : List (Addr × Obj)} {σ : St} {H : Hp} {s : Shared} {R : It -> Hp -> Prop} {E : Value -> Shared -> Prop} {lo hi : Int} {t u v : Tok} {tk : Nat} (I : Inv X pins σ H s) (h1 : -(2 ^ 62) <= lo) (h2 : lo < 2 ^ 62) (h3 : -(2 ^ 62) <= hi) (h4 : hi < 2 ^ 62)
  (q : R (Itr lo (hi - lo).toNat) H) : wpAny (model X.prog X.w) X.A (pyIter (.ref s.heap.objs.size)) (PIE X pins σ tg R) E { s with heap := s.heap.push { cls := .type "range", data := .fields #[.int lo t, .int hi u, .int 1 v] }, toks := tk } := by
 refine wpAny_pyIter_range (IsRange.new ..) (small_one h1 h2 h3 h4) ?_
 have I1 : Inv X pins σ H { s with heap := s.heap.push { cls := .type "range", data := .fields #[.int lo t, .int hi u, .int 1 v] }, toks := tk } := I.kept fun b o e => Heap.get?_push_of_some _ e
 refine ⟨(s.heap.push { cls := .type "range", data := .fields #[.int lo t, .int hi u, .int 1 v] }).objs.size, [(s.heap.push { cls := .type "range", data := .fields #[.int lo t, .int hi u, .int 1 v] }).objs.size], _, _, H, rfl,
  I1.kept (t' := tk) fun b o e => Heap.get?_push_of_some _ e, WW _ lo (hi - lo).toNat, ?_, fun b hb => ?_, q⟩
 ·have e1 : lo + ((0 : Nat) : Int) * 1 = lo := by simp
  have e2 : (((hi - lo).toNat : Nat) : Int) - ((0 : Nat) : Int) = Builtin.Range.rangeSize lo hi 1 := by rw [rangeSize_one]; split <;> omega
  show IsRangeIter _ _ (lo + ((0 : Nat) : Int) * 1) ((((hi - lo).toNat : Nat) : Int) - ((0 : Nat) : Int)) 1
  rw [e1, e2]
  exact Heap.get?_push_size _ rfl
 ·have e : b = (s.heap.push { cls := .type "range", data := .fields #[.int lo t, .int hi u, .int 1 v] }).objs.size := by simpa using hb
  subst e
  exact I1.fpOk (Nat.le_refl _) (I1.hok.fresh (Nat.le_refl _))
def iRng1 (ta : TA) : TI := fun σ H R => ta σ H fun vs H1 => ∃ j : Int, vs = [.int j] /\ -(2 ^ 62) <= j /\ j < 2 ^ 62 /\ R (Itr 0 j.toNat) H1
theorem zS {a : Expr} {ta : TA} {p pos : Pos} (hg : Gl X "range") (hm : X.mg "range" = none) (ha : PA X [a] ta) (hs : starEach [a] X.env = [(false, eval a X.env)] := by rfl) : PI X tg (.Call (.Name "range" p) [a] [] pos) (iRng1 ta) := by
 intro pins s σ H R I h
 refine Call_ (Zi I hg hm boot_range (PyProof.Rows.callWith_type1 (thn (ha pos pins s σ H _ I h) fun us s1 ⟨vs, H1, I1, r1, q1⟩ => ?_) hs rfl))
 obtain ⟨j, e, q1, q2, q⟩ := q1
 subst e
 cases r1 with
 | cons r rr =>
  cases rr
  obtain ⟨t, rfl⟩ := r
  exact call_range_1 (range_it I1 (by omega) (by omega) q1 q2 (by simpa using q))
def tFor (wi : TI) (g : TG) (tb : TS) : TS := fun D σ H => wi σ H fun J H1 => ∃ W : Nat -> Nat -> St -> Hp -> Prop, (∃ m, W 0 m σ H1) /\ ∀ i m σ H, W i m σ H ->
 (J.stop i H /\ D.nx σ H) \/ (J.go i H /\ ∃ N : St -> Hp -> Prop, (∀ σ' H', N σ' H' -> ∃ m', m' < m /\ W (i + 1) m' σ' H') /\ ∀ x H', J.yld i H x H' -> g x σ H' fun σ2 H2 => tb { D with nx := N, ct := N, bk := D.nx } σ2 H2)
def JC (fp : List Addr) (h : Heap) : List (Addr × Obj) := fp.filterMap fun b => (h.get? b).map fun o => (b, o)
theorem Zc {fp : List Addr} {h : Heap} {b : Addr} {o : Obj} (hb : b ∈ fp) (e : h.get? b = some o) : (b, o) ∈ JC fp h := List.mem_filterMap.mpr ⟨b, hb, by rw [e]; rfl⟩
theorem yI {fp : List Addr} {h : Heap} {p : Addr × Obj} (hp : p ∈ JC fp h) : p.1 ∈ fp /\ h.get? p.1 = some p.2 := by
 obtain ⟨b, hb, e⟩ := List.mem_filterMap.mp hp
 cases q : h.get? b with
 | none => rw [q] at e; cases e
 | some o =>
  rw [q] at e
  have e' : (b, o) = p := Option.some.inj e
  subst e'
  exact ⟨hb, q⟩
theorem Inv.pinned {pins : List (Addr × Obj)} {σ : St} {H : Hp} {s : Shared} {fp : List Addr} (I : Inv X pins σ H s) (hf : ∀ b ∈ fp, Wu X pins H b) (ho : ∀ b ∈ fp, ∃ o, s.heap.get? b = some o /\ ∀ v, o.data ≠ .cell v) : Inv X (pins ++ JC fp s.heap) σ H s :=
 I.pins_of fun p hp => (List.mem_append.mp hp).elim (fun z => I.pin p (List.mem_append_right _ z)) fun z => by
  obtain ⟨hb, e⟩ := yI z
  obtain ⟨f0, f1, f2, _⟩ := hf p.1 hb
  obtain ⟨o, e', d⟩ := ho p.1 hb
  rw [e] at e'; cases e'
  exact ⟨e, f0, f1, f2, d⟩
theorem Inv.unpinned {pins pl : List (Addr × Obj)} {σ : St} {H : Hp} {s : Shared} (I : Inv X (pins ++ pl) σ H s) : Inv X pins σ H s := I.pins_of fun p hp => I.pin p (List.mem_append_right _ (List.mem_append_left _ hp))
theorem qU {iter : Expr} {body : List Stmt} {wi : TI} {g : TG} {tb : TS} {pos : Pos} (hp : PassesOwn (model X.prog X.w) X.A X.env X.xe) (hc : X.calm = true) (hi : PI X tg iter wi) (hg : PG X tg g) (hb : PSs X body tb)
  (hs : ∀ x, foldedSetIterable iter X.env x = pure x := by intro _; rfl) : PS X (.For tg iter body [] pos) (tFor wi g tb) := by
 intro pins s σ H D I h
 refine wpAny_For (thn (hi pins s σ H _ I h) fun v s1 h1 => thn h1 fun itv s2 h2 => ?_) hs
 obtain ⟨it, fp, tn, J, H2, e, I2, T, st2, f2, W, ⟨m0, w0⟩, turn⟩ := h2
 subst e
 -- what stays true of the iterator's objects through the loop
 have stat : ∀ {H' : Hp}, (∀ b ∈ fp, H' b = none) -> ∀ b ∈ fp, Wu X pins H' b := fun hn b hb => ⟨hn b hb, (f2 b hb).2⟩
 refine codeAny_forLoop_any (fun n s' => ∃ i σ' H', Inv X pins σ' H' s' /\ tn i s'.heap /\ (∀ b ∈ fp, H' b = none) /\ W i n σ' H') ?_ m0 ⟨0, σ, H2, I2, st2, fun b hb => (f2 b hb).1, w0⟩
 rintro n s3 ⟨i, σ3, H3, I3, st3, fr3, w3⟩
 rcases turn i n σ3 H3 w3 with ⟨stop, qn⟩ | ⟨go, N, hN, step⟩
 ·refine wpAny_passesOwn hp (thn (T.done X rfl rfl rfl hc i pins s3 σ3 H3 X.xe I3 (stat fr3) st3 stop) fun r s4 ⟨hr, I4⟩ => ?_)
  subst hr
  exact wpAny_execs_nil ⟨σ3, H3, I4, qn⟩
 ·refine wpAny_passesOwn hp (thn (T.item X rfl rfl rfl hc i pins s3 σ3 H3 X.xe I3 (stat fr3) st3 go) fun r s4 ⟨u, hr, h4⟩ => ?_)
  subst hr
  refine wpAny_passesOwn hp (thn h4 fun _ s5 ⟨x, H5, I5, r5, y5, st5, fr5⟩ => ?_)
  have I5' := I5.pinned (stat fr5) (T.obj _ _ st5)
  refine wpAny_passesOwn hp (thn (hg _ s5 σ3 H5 x u _ I5' r5 (step x H5 y5)) fun _ s6 ⟨σ6, H6, I6, q6⟩ => ?_)
  refine wpAny_passesOwn hp (thn (hb _ s6 σ6 H6 _ I6 q6) fun f s7 q7 => ?_)
  have again : ∀ {σ7 : St} {H7 : Hp}, Inv X (pins ++ JC fp s5.heap) σ7 H7 s7 -> N σ7 H7 -> ∃ m, m < n /\ ∃ i σ' H', Inv X pins σ' H' s7 /\ tn i s7.heap /\ (∀ b ∈ fp, H' b = none) /\ W i m σ' H' := fun {σ7 H7} I7 n7 => by
   obtain ⟨m', hm, w7⟩ := hN σ7 H7 n7
   refine ⟨m', hm, i + 1, σ7, H7, I7.unpinned, T.keep _ _ _ st5 fun b hb o e => (I7.pin (b, o) (List.mem_append_right _ (List.mem_append_right _ (Zc hb e)))).1, fun b hb => ?_, w7⟩
   obtain ⟨o, e, d⟩ := T.obj _ _ st5 b hb
   exact (I7.pin (b, o) (List.mem_append_right _ (List.mem_append_right _ (Zc hb e)))).2.1
  cases f with
  | next => obtain ⟨σ7, H7, I7, n7⟩ := q7; exact again I7 n7
  | cont => obtain ⟨σ7, H7, I7, n7⟩ := q7; exact again I7 n7
  | brk => obtain ⟨σ7, H7, I7, q7⟩ := q7; exact ⟨σ7, H7, I7.unpinned, q7⟩
  | ret v => obtain ⟨x7, σ7, H7, I7, r7, q7⟩ := q7; exact ⟨x7, σ7, H7, I7.unpinned, r7, q7⟩
end
theorem qN {K : PySem.W.Frag} {a : Addr} {xs : List V} {g : TG} {tb : TS} {D : Ends} {σ : St} {H : Hp} (Pv : Nat -> St -> Hp -> Prop) (h0 : Pv 0 σ H) (hl : ∀ i σ H, i <= xs.length -> Pv i σ H -> SqL K H a xs)
  (hs : ∀ i x σ H, xs[i]? = some x -> Pv i σ H -> g x σ H fun σ2 H2 => tb { D with nx := Pv (i + 1), ct := Pv (i + 1), bk := D.nx } σ2 H2) (hd : ∀ σ H, Pv xs.length σ H -> D.nx σ H) :
  ∃ W : Nat -> Nat -> St -> Hp -> Prop, (∃ m, W 0 m σ H) /\ ∀ i m σ H, W i m σ H ->
   ((Itl K a).stop i H /\ D.nx σ H) \/ ((Itl K a).go i H /\ ∃ N : St -> Hp -> Prop, (∀ σ' H', N σ' H' -> ∃ m', m' < m /\ W (i + 1) m' σ' H') /\ ∀ x H', (Itl K a).yld i H x H' -> g x σ H' fun σ2 H2 => tb { D with nx := N, ct := N, bk := D.nx } σ2 H2) := by
 refine ⟨fun i m σ H => m = xs.length - i /\ i <= xs.length /\ Pv i σ H, ⟨xs.length, by simp, Nat.zero_le _, h0⟩, ?_⟩
 rintro i m σ H ⟨rfl, hi, p⟩
 have q := hl i σ H hi p
 by_cases hlt : i < xs.length
 ·refine .inr ⟨⟨xs, xs[i], q, by simp [hlt]⟩, Pv (i + 1), fun σ' H' p' => ⟨xs.length - (i + 1), by omega, rfl, hlt, p'⟩, fun x H' y => ?_⟩
  obtain ⟨e, y⟩ := y
  subst e
  exact hs i x σ _ (y xs q) p
 ·have e : i = xs.length := by omega
  subst e
  exact .inl ⟨⟨xs, q, Nat.le_refl _⟩, hd σ H p⟩
theorem Q0 {K : PySem.W.Frag} {a : Addr} {xs : List V} {g : TG} {tb : TS} {D : Ends} {σ : St} {H : Hp} (Pv : Nat -> St -> Hp -> Prop) (h0 : Pv 0 σ H) (hl : ∀ i σ H, i <= xs.length -> Pv i σ H -> SqT K H a xs)
  (hs : ∀ i x σ H, xs[i]? = some x -> Pv i σ H -> g x σ H fun σ2 H2 => tb { D with nx := Pv (i + 1), ct := Pv (i + 1), bk := D.nx } σ2 H2) (hd : ∀ σ H, Pv xs.length σ H -> D.nx σ H) :
  ∃ W : Nat -> Nat -> St -> Hp -> Prop, (∃ m, W 0 m σ H) /\ ∀ i m σ H, W i m σ H ->
   ((Itt K a).stop i H /\ D.nx σ H) \/ ((Itt K a).go i H /\ ∃ N : St -> Hp -> Prop, (∀ σ' H', N σ' H' -> ∃ m', m' < m /\ W (i + 1) m' σ' H') /\ ∀ x H', (Itt K a).yld i H x H' -> g x σ H' fun σ2 H2 => tb { D with nx := N, ct := N, bk := D.nx } σ2 H2) := by
 refine ⟨fun i m σ H => m = xs.length - i /\ i <= xs.length /\ Pv i σ H, ⟨xs.length, by simp, Nat.zero_le _, h0⟩, ?_⟩
 rintro i m σ H ⟨rfl, hi, p⟩
 have q := hl i σ H hi p
 by_cases hlt : i < xs.length
 ·refine .inr ⟨⟨xs, xs[i], q, by simp [hlt]⟩, Pv (i + 1), fun σ' H' p' => ⟨xs.length - (i + 1), by omega, rfl, hlt, p'⟩, fun x H' y => ?_⟩
  obtain ⟨e, y⟩ := y
  subst e
  exact hs i x σ _ (y xs q) p
 ·have e : i = xs.length := by omega
  subst e
  exact .inl ⟨⟨xs, q, Nat.le_refl _⟩, hd σ H p⟩
theorem Zw {lo : Int} {n : Nat} {g : TG} {tb : TS} {D : Ends} {σ : St} {H : Hp} (Pv : Nat -> St -> Hp -> Prop) (h0 : Pv 0 σ H)
  (hs : ∀ i σ H, i < n -> Pv i σ H -> g (.int (lo + i)) σ H fun σ2 H2 => tb { D with nx := Pv (i + 1), ct := Pv (i + 1), bk := D.nx } σ2 H2) (hd : ∀ σ H, Pv n σ H -> D.nx σ H) :
  ∃ W : Nat -> Nat -> St -> Hp -> Prop, (∃ m, W 0 m σ H) /\ ∀ i m σ H, W i m σ H ->
   ((Itr lo n).stop i H /\ D.nx σ H) \/ ((Itr lo n).go i H /\ ∃ N : St -> Hp -> Prop, (∀ σ' H', N σ' H' -> ∃ m', m' < m /\ W (i + 1) m' σ' H') /\ ∀ x H', (Itr lo n).yld i H x H' -> g x σ H' fun σ2 H2 => tb { D with nx := N, ct := N, bk := D.nx } σ2 H2) := by
 refine ⟨fun i m σ H => m = n - i /\ i <= n /\ Pv i σ H, ⟨n, by simp, Nat.zero_le _, h0⟩, ?_⟩
 rintro i m σ H ⟨rfl, hi, p⟩
 by_cases hlt : i < n
 ·refine .inr ⟨hlt, Pv (i + 1), fun σ' H' p' => ⟨n - (i + 1), by omega, rfl, hlt, p'⟩, fun x H' y => ?_⟩
  obtain ⟨e, y⟩ := y
  subst e y
  exact hs i σ _ hlt p
 ·have e : i = n := by omega
  subst e
  exact .inl ⟨Nat.le_refl _, hd σ H p⟩
end L2
namespace L2
open PySem PySem.Spec PyProof.Rows
abbrev R2 := V -> V -> Hp -> VK -> Prop
def OpR (X : Cx) (f : Value -> Value -> Sem Value) (r : R2) : Prop :=
 ∀ (pins : List (Addr × Obj)) (s : Shared) (σ : St) (H : Hp) (x y : V) (v u : Value) (Q : VK), Inv X pins σ H s -> RelV x v -> RelV y u -> r x y H Q ->
  wpAny (model X.prog X.w) X.A (f v u) (EP X pins σ Q) X.xe s
def UnR (X : Cx) (f : Value -> Sem Value) (r : V -> Hp -> VK -> Prop) : Prop :=
 ∀ (pins : List (Addr × Obj)) (s : Shared) (σ : St) (H : Hp) (x : V) (v : Value) (Q : VK), Inv X pins σ H s -> RelV x v -> r x H Q ->
  wpAny (model X.prog X.w) X.A (f v) (EP X pins σ Q) X.xe s
def qZ (X : Cx) (f : Value) (r : List V -> Hp -> VK -> Prop) : Prop :=
 ∀ (pins : List (Addr × Obj)) (s : Shared) (σ : St) (H : Hp) (xs : List V) (us : List Value) (Q : VK), Inv X pins σ H s -> qe xs us -> r xs H Q ->
  wpAny (model X.prog X.w) X.A (call f us) (EP X pins σ Q) X.xe s
def tOp (r : R2) (ta tb : TE) : TE := fun σ H Q => ta σ H fun x H1 => tb σ H1 fun y H2 => r x y H2 Q
def tUn (r : V -> Hp -> VK -> Prop) (ta : TE) : TE := fun σ H Q => ta σ H fun x H1 => r x H1 Q
def rI (C : Int -> Int -> Prop) (g : Int -> Int -> V) : R2 := fun x y H Q => ∃ i j, x = .int i /\ y = .int j /\ C i j /\ Q (g i j) H
def rI0 (g : Int -> Int -> V) : R2 := fun x y H Q => ∃ i j, x = .int i /\ y = .int j /\ Q (g i j) H
def rU (g : Int -> V) : V -> Hp -> VK -> Prop := fun x H Q => ∃ i, x = .int i /\ Q (g i) H
section
variable {X : Cx} {a b c : Expr} {ta tb tc : TE} {pos : Pos}
theorem binT (ha : PE X a ta) (hb : PE X b tb) {pins : List (Addr × Obj)} {s : Shared} {σ : St} {H : Hp} {R : V -> V -> Hp -> Prop} (I : Inv X pins σ H s)
  (h : ta σ H fun x H1 => tb σ H1 fun y H2 => R x y H2) {Q : Value -> Shared -> Prop} {f : Value -> Value -> Sem Value}
  (hf : ∀ v u s2 x y H2, Inv X pins σ H2 s2 -> RelV x v -> RelV y u -> R x y H2 -> wpAny (model X.prog X.w) X.A (f v u) Q X.xe s2) :
  wpAny (model X.prog X.w) X.A (eval a X.env) (fun v s₁ => wpAny (model X.prog X.w) X.A (eval b X.env) (fun u s₂ => wpAny (model X.prog X.w) X.A (f v u) Q X.xe s₂) X.xe s₁) X.xe s := by
 refine thn (ha pins s σ H _ I h) fun v s1 ⟨x, H1, I1, r1, q1⟩ => ?_
 refine thn (hb pins s1 σ H1 _ I1 q1) fun u s2 ⟨y, H2, I2, r2, q2⟩ => ?_
 exact hf v u s2 x y H2 I2 r1 r2 q2
theorem zO {op : Operator} {r : R2} (ho : OpR X (binaryOp op) r) (ha : PE X a ta) (hb : PE X b tb) : PE X (.BinOp a op b pos) (tOp r ta tb) := by
 intro pins s σ H Q I h
 exact wpAny_BinOp (binT ha hb I h fun v u s2 x y H2 I2 rx ry q => ho pins s2 σ H2 x y v u Q I2 rx ry q)
theorem pe_un {op : UnaryOp} {r : V -> Hp -> VK -> Prop} (ho : UnR X (unaryOp op) r) (ha : PE X a ta) : PE X (.UnaryOp op a pos) (tUn r ta) := by
 intro pins s σ H Q I h
 exact UnaryOp_ (thn (ha pins s σ H _ I h) fun v s1 ⟨x, H1, I1, r1, q1⟩ => ho pins s1 σ H1 x v Q I1 r1 q1)
theorem opI {f : Value -> Value -> Sem Value} {C : Int -> Int -> Prop} {g : Int -> Int -> Int}
  (rule : ∀ (i j : Int) (t u : Tok) (s : Shared) (Q : Value -> Shared -> Prop) (E : Value -> Shared -> Prop), C i j -> Q (.int (g i j) s.toks) { s with toks := s.toks + 1 } -> wpAny (model X.prog X.w) X.A (f (.int i t) (.int j u)) Q E s) :
  OpR X f (rI C fun i j => .int (g i j)) := by
 intro pins s σ H x y v u Q I rx ry h
 obtain ⟨i, j, rfl, rfl, hc, q⟩ := h
 obtain ⟨t, rfl⟩ := rx
 obtain ⟨t', rfl⟩ := ry
 exact rule i j t t' s _ _ hc ⟨.int (g i j), H, I.tok _, ⟨_, rfl⟩, q⟩
theorem opI0 {f : Value -> Value -> Sem Value} {g : Int -> Int -> Int}
  (rule : ∀ (i j : Int) (t u : Tok) (s : Shared) (Q : Value -> Shared -> Prop) (E : Value -> Shared -> Prop), Q (.int (g i j) s.toks) { s with toks := s.toks + 1 } -> wpAny (model X.prog X.w) X.A (f (.int i t) (.int j u)) Q E s) :
  OpR X f (rI0 fun i j => .int (g i j)) := by
 intro pins s σ H x y v u Q I rx ry h
 obtain ⟨i, j, rfl, rfl, q⟩ := h
 obtain ⟨t, rfl⟩ := rx
 obtain ⟨t', rfl⟩ := ry
 exact rule i j t t' s _ _ ⟨.int (g i j), H, I.tok _, ⟨_, rfl⟩, q⟩
theorem opB0 {f : Value -> Value -> Sem Value} {g : Int -> Int -> Bool}
  (rule : ∀ (i j : Int) (t u : Tok) (s : Shared) (Q : Value -> Shared -> Prop) (E : Value -> Shared -> Prop), Q (.bool (g i j)) s -> wpAny (model X.prog X.w) X.A (f (.int i t) (.int j u)) Q E s) :
  OpR X f (rI0 fun i j => .bl (g i j)) := by
 intro pins s σ H x y v u Q I rx ry h
 obtain ⟨i, j, rfl, rfl, q⟩ := h
 obtain ⟨t, rfl⟩ := rx
 obtain ⟨t', rfl⟩ := ry
 exact rule i j t t' s _ _ ⟨.bl (g i j), H, I, rfl, q⟩
def CDiv (i j : Int) : Prop := 0 < j /\ j < 1073741824
def CPow (i j : Int) : Prop := 0 <= j /\ j <= 1000000 /\ i.natAbs < 2 ^ 64
def CMul (i j : Int) : Prop := (-(2 ^ 64) < i /\ i < 2 ^ 64) \/ (-(2 ^ 64) < j /\ j < 2 ^ 64)
theorem CMul.ok {i j : Int} (h : CMul i j) : IntMulOk i j := by
 rcases h with ⟨h1, h2⟩ | ⟨h1, h2⟩
 ·exact .of_left (intBits_le_64 h1 h2)
 ·exact .of_right (intBits_le_64 h1 h2)
theorem qV : OpR X (binaryOp .Add) (rI0 fun i j => .int (i + j)) := opI0 fun _ _ _ _ _ _ _ q => add_int q
theorem QI : OpR X (binaryOp .Sub) (rI0 fun i j => .int (i - j)) := opI0 fun _ _ _ _ _ _ _ q => sub_int q
theorem Z0 : OpR X (binaryOp .Mult) (rI CMul fun i j => .int (i * j)) := opI fun _ _ _ _ _ _ _ hc q => mul_int q hc.ok
theorem wE : OpR X (binaryOp .FloorDiv) (rI CDiv fun i j => .int (i / j)) := opI fun i j _ _ _ _ _ hc q => by
 have h1 : (0 : Int) < j := hc.1
 have h2 : j < 1073741824 := hc.2
 exact floordiv_int (by omega) (by rw [Int.fdiv_eq_ediv_of_nonneg i (by omega)]; exact q) (.inl (PyProof.noPylong_small (by omega)))
theorem Zx : OpR X (binaryOp .Mod) (rI (fun _ j => 0 < j) fun i j => .int (i % j)) := opI fun i j _ _ _ _ _ hc q => by
 have h1 : (0 : Int) < j := hc
 exact mod_int' (by omega) (by rw [Int.fmod_eq_emod_of_nonneg i (by omega)]; exact q)
theorem op_pow : OpR X (binaryOp .Pow) (rI CPow fun i j => .int (i ^ j.toNat)) := opI fun _ _ _ _ _ _ _ hc q => pow_int_small hc.1 hc.2.1 hc.2.2 q
theorem unI {f : Value -> Sem Value} {g : Int -> Int}
  (rule : ∀ (i : Int) (t : Tok) (s : Shared) (Q : Value -> Shared -> Prop) (E : Value -> Shared -> Prop), Q (.int (g i) s.toks) { s with toks := s.toks + 1 } -> wpAny (model X.prog X.w) X.A (f (.int i t)) Q E s) :
  UnR X f (rU fun i => .int (g i)) := by
 intro pins s σ H x v Q I rx h
 obtain ⟨i, rfl, q⟩ := h
 obtain ⟨t, rfl⟩ := rx
 exact rule i t s _ _ ⟨.int (g i), H, I.tok _, ⟨_, rfl⟩, q⟩
theorem un_neg : UnR X (unaryOp .USub) (rU fun i => .int (-i)) := unI fun _ _ _ _ _ q => neg_int q
end
def scal : V -> V -> Bool
 | .non, .non => true | .non, .int _ => true | .int _, .non => true | .non, .bl _ => true | .bl _, .non => true | .non, .str _ => true | .str _, .non => true
 | .int _, .int _ => true | .bl _, .bl _ => true | .str _, .str _ => true | .byt _, .byt _ => true
 | .int _, .str _ => true | .str _, .int _ => true | .bl _, .str _ => true | .str _, .bl _ => true
 | _, _ => false
def rEq : R2 := fun x y H Q => scal x y = true /\ Q (.bl (decide (x = y))) H
def rNe : R2 := fun x y H Q => scal x y = true /\ Q (.bl (!decide (x = y))) H
theorem yJ {i j : Int} : decide (V.int i = V.int j) = (i == j) := by
 rw [Bool.eq_iff_iff]
 simp
theorem dec_bl {i j : Bool} : decide (V.bl i = V.bl j) = (i == j) := by
 rw [Bool.eq_iff_iff]
 simp
theorem yK {i j : Str} : decide (V.str i = V.str j) = (i == j) := by
 rw [Bool.eq_iff_iff]
 simp
theorem yL {i j : Array UInt8} : decide (V.byt i = V.byt j) = (i.toList == j.toList) := by
 rw [Bool.eq_iff_iff]
 cases i
 cases j
 simp
section
variable {X : Cx} {a b c : Expr} {ta tb tc : TE} {pos : Pos}
theorem zU {pins : List (Addr × Obj)} {σ : St} {H : Hp} {s : Shared} {Q : VK} {k k' : Bool} (I : Inv X pins σ H s) (q : Q (.bl k) H) (e : k = k') : EP X pins σ Q (.bool k') s := by
 subst e
 exact ⟨.bl k, H, I, rfl, q⟩
theorem Zg : OpR X (compareOp .Eq) rEq := by
 intro pins s σ H x y v u Q I rx ry h
 obtain ⟨hs, q⟩ := h
 cases x with
 | non =>
  cases rx
  cases y with
  | non => cases ry; exact PySem.EqNone.eq_none_none (zU I q (by simp))
  | bl j => cases ry; exact PySem.EqNone.eq_none_bool (zU I q (by simp))
  | int j => obtain ⟨t', rfl⟩ := ry; exact PySem.EqNone.eq_none_int (zU I q (by simp))
  | str j => obtain ⟨t', rfl⟩ := ry; exact PySem.EqNone.eq_none_str (zU I q (by simp))
  | _ => exact absurd (show false = true from hs) Bool.false_ne_true
 | bl i =>
  cases rx
  cases y with
  | non => cases ry; exact PySem.EqNone.eq_bool_none (zU I q (by simp))
  | bl j => cases ry; exact eq_bool (zU I q dec_bl)
  | str j => obtain ⟨t', rfl⟩ := ry; exact PySem.EqMixed.eq_bool_str (zU I q (by simp))
  | _ => exact absurd (show false = true from hs) Bool.false_ne_true
 | int i =>
  obtain ⟨t, rfl⟩ := rx
  cases y with
  | non => cases ry; exact PySem.EqNone.eq_int_none (zU I q (by simp))
  | int j => obtain ⟨t', rfl⟩ := ry; exact eq_int (zU I q yJ)
  | str j => obtain ⟨t', rfl⟩ := ry; exact PySem.EqMixed.eq_int_str (zU I q (by simp))
  | _ => exact absurd (show false = true from hs) Bool.false_ne_true
 | str i =>
  obtain ⟨t, rfl⟩ := rx
  cases y with
  | non => cases ry; exact PySem.EqNone.eq_str_none (zU I q (by simp))
  | bl j => cases ry; exact PySem.EqMixed.eq_str_bool (zU I q (by simp))
  | int j => obtain ⟨t', rfl⟩ := ry; exact PySem.EqMixed.eq_str_int (zU I q (by simp))
  | str j => obtain ⟨t', rfl⟩ := ry; exact eq_str (zU I q yK)
  | _ => exact absurd (show false = true from hs) Bool.false_ne_true
 | byt i =>
  obtain ⟨t, rfl⟩ := rx
  cases y with
  | byt j => obtain ⟨t', rfl⟩ := ry; exact PySem.W.eq_bytes (zU I q yL)
  | _ => exact absurd (show false = true from hs) Bool.false_ne_true
 | _ => cases y <;> exact absurd (show false = true from hs) Bool.false_ne_true
theorem op_ne : OpR X (compareOp .NotEq) rNe := by
 intro pins s σ H x y v u Q I rx ry h
 obtain ⟨hs, q⟩ := h
 cases x with
 | non =>
  cases rx
  cases y with
  | non => cases ry; exact PySem.EqNone.ne_none_none (zU I q (by simp))
  | bl j => cases ry; exact PySem.EqNone.ne_none_bool (zU I q (by simp))
  | int j => obtain ⟨t', rfl⟩ := ry; exact PySem.EqNone.ne_none_int (zU I q (by simp))
  | str j => obtain ⟨t', rfl⟩ := ry; exact PySem.EqNone.ne_none_str (zU I q (by simp))
  | _ => exact absurd (show false = true from hs) Bool.false_ne_true
 | bl i =>
  cases rx
  cases y with
  | non => cases ry; exact PySem.EqNone.ne_bool_none (zU I q (by simp))
  | bl j => cases ry; exact ne_bool (zU I q (congrArg not dec_bl))
  | str j => obtain ⟨t', rfl⟩ := ry; exact PySem.EqMixed.ne_bool_str (zU I q (by simp))
  | _ => exact absurd (show false = true from hs) Bool.false_ne_true
 | int i =>
  obtain ⟨t, rfl⟩ := rx
  cases y with
  | non => cases ry; exact PySem.EqNone.ne_int_none (zU I q (by simp))
  | int j => obtain ⟨t', rfl⟩ := ry; exact ne_int (zU I q (congrArg not yJ))
  | str j => obtain ⟨t', rfl⟩ := ry; exact PySem.EqMixed.ne_int_str (zU I q (by simp))
  | _ => exact absurd (show false = true from hs) Bool.false_ne_true
 | str i =>
  obtain ⟨t, rfl⟩ := rx
  cases y with
  | non => cases ry; exact PySem.EqNone.ne_str_none (zU I q (by simp))
  | bl j => cases ry; exact PySem.EqMixed.ne_str_bool (zU I q (by simp))
  | int j => obtain ⟨t', rfl⟩ := ry; exact PySem.EqMixed.ne_str_int (zU I q (by simp))
  | str j => obtain ⟨t', rfl⟩ := ry; exact ne_str (zU I q (congrArg not yK))
  | _ => exact absurd (show false = true from hs) Bool.false_ne_true
 | byt i =>
  obtain ⟨t, rfl⟩ := rx
  cases y with
  | byt j => obtain ⟨t', rfl⟩ := ry; exact PySem.W.ne_bytes (zU I q (congrArg not yL))
  | _ => exact absurd (show false = true from hs) Bool.false_ne_true
 | _ => cases y <;> exact absurd (show false = true from hs) Bool.false_ne_true
theorem op_lt : OpR X (compareOp .Lt) (rI0 fun i j => .bl (decide (i < j))) := opB0 fun _ _ _ _ _ _ _ q => lt_int q
theorem op_gt : OpR X (compareOp .Gt) (rI0 fun i j => .bl (decide (j < i))) := opB0 fun _ _ _ _ _ _ _ q => gt_int q
theorem op_ge : OpR X (compareOp .GtE) (rI0 fun i j => .bl (decide (j <= i))) := opB0 fun _ _ _ _ _ _ _ q => ge_int q
theorem qh (b : Expr) {op : CmpOp} (h : op ≠ .In := by decide) (h2 : op ≠ .NotIn := by decide) : behindInMarks op b = false := by
 have e1 : (op == CmpOp.In) = false := by cases op <;> first | rfl | exact absurd rfl h
 have e2 : (op == CmpOp.NotIn) = false := by cases op <;> first | rfl | exact absurd rfl h2
 cases b <;> simp [behindInMarks, e1, e2]
theorem Z1 {op : CmpOp} {r : R2} (ho : OpR X (compareOp op) r) (ha : PE X a ta) (hb : PE X b tb) (hm : behindInMarks op b = false) : PE X (.Compare a [op] [b] pos) (tOp r ta tb) := by
 intro pins s σ H Q I h
 exact wpAny_Compare1 (binT ha hb I h fun v u s2 x y H2 I2 rx ry q => ho pins s2 σ H2 x y v u Q I2 rx ry q) hm
def tTest (t : TE) : TT := fun σ H Q => t σ H fun x H' => ∃ k, x = .bl k /\ Q k H'
theorem zL {op : CmpOp} {r : R2} (ho : OpR X (compareOp op) r) (ha : PE X a ta) (hb : PE X b tb) (hm : behindInMarks op b = false) : PT X (.Compare a [op] [b] pos) (tTest (tOp r ta tb)) := by
 intro pins s σ H Q I h
 refine wpAny_isTrue_Compare1 (thn (ha pins s σ H _ I h) fun v s1 ⟨x, H1, I1, r1, q1⟩ => thn (hb pins s1 σ H1 _ I1 q1) fun u s2 ⟨y, H2, I2, r2, q2⟩ =>
  thn (ho pins s2 σ H2 x y v u _ I2 r1 r2 q2) fun c s3 ⟨z, H3, I3, r3, k, e, q3⟩ => ?_) hm
 subst e
 cases r3
 exact wpAny_truthy_bool ⟨H3, I3, q3⟩
def tChain (r r' : R2) (ta tb tc : TE) : TE := fun σ H Q => ta σ H fun x H1 => tb σ H1 fun y H2 => r x y H2 fun z H3 => ∃ k, z = .bl k /\
 (if k = true then tc σ H3 fun w' H4 => r' y w' H4 Q else Q (.bl false) H3)
theorem pe_chain {op op' : CmpOp} {r r' : R2} (ho : OpR X (compareOp op) r) (ho' : OpR X (compareOp op') r') (ha : PE X a ta) (hb : PE X b tb) (hc : PE X c tc)
  (hm : lastMarks [op, op'] [b, c] = false := by with_unfolding_all rfl) : PE X (.Compare a [op, op'] [b, c] pos) (tChain r r' ta tb tc) := by
 intro pins s σ H Q I h
 refine Compare_chain (thn (ha pins s σ H _ I h) fun v s1 ⟨x, H1, I1, r1, q1⟩ => chain_link (thn (hb pins s1 σ H1 _ I1 q1) fun u s2 ⟨y, H2, I2, r2, q2⟩ =>
  thn (ho pins s2 σ H2 x y v u _ I2 r1 r2 q2) fun d s3 ⟨z, H3, I3, r3, k, e, q3⟩ => ?_)) hm
 subst e
 cases r3
 refine wpAny_truthy_bool ?_
 cases k with
 | false => exact ite_ff ⟨.bl false, H3, I3, rfl, q3⟩
 | true => exact ite_tt (chain_last (thn (hc pins s3 σ H3 _ I3 q3) fun w' s4 ⟨z', H4, I4, r4, q4⟩ => ho' pins s4 σ H4 y z' u w' Q I4 r2 r4 q4))
theorem JD : (sizeLine : Nat) < 2 ^ 63 := by rw [sizeLine_eq]; decide
theorem QJ : OpR X (binaryOp .Add) (fun x y H Q => ∃ i j, x = .str i /\ y = .str j /\ i.length + j.length <= sizeLine /\ Q (.str (i ++ j)) H) := by
 intro pins s σ H x y v u Q I rx ry h
 obtain ⟨i, j, rfl, rfl, hz, q⟩ := h
 obtain ⟨t, rfl⟩ := rx
 obtain ⟨t', rfl⟩ := ry
 exact add_str (fun t' tk => ⟨.str (i ++ j), H, I.tok _, ⟨_, rfl⟩, q⟩) hz
theorem vals1 {x : V} {us : List Value} (r : qe [x] us) : ∃ u, us = [u] /\ RelV x u := by
 cases r with
 | cons r1 r2 => cases r2; exact ⟨_, rfl, r1⟩
theorem yM {x y : V} {us : List Value} (r : qe [x, y] us) : ∃ u w', us = [u, w'] /\ RelV x u /\ RelV y w' := by
 cases r with
 | cons r1 r2 =>
  cases r2 with
  | cons r3 r4 => cases r4; exact ⟨_, _, rfl, r1, r3⟩
theorem call_abs : qZ X (.builtin "abs") (fun xs H Q => ∃ i, xs = [.int i] /\ Q (.int (if i < 0 then -i else i)) H) := by
 intro pins s σ H xs us Q I r h
 obtain ⟨i, rfl, q⟩ := h
 obtain ⟨u, rfl, t, rfl⟩ := vals1 r
 exact call_abs_int fun u tk => ⟨.int (if i < 0 then -i else i), H, I.tok _, ⟨_, rfl⟩, q⟩
theorem yN (hc : X.calm = true) : qZ X (.builtin "max") (fun xs H Q => ∃ i j, xs = [.int i, .int j] /\ Q (.int (if j > i then j else i)) H) := by
 intro pins s σ H xs us Q I r h
 obtain ⟨i, j, rfl, q⟩ := h
 obtain ⟨u, w', rfl, ⟨t, rfl⟩, ⟨t', rfl⟩⟩ := yM r
 refine max_two_ints (I.ok.hd hc) fun h' tk k => ⟨_, H, I.kept k, ?_, q⟩
 by_cases hj : j > i
 ·rw [if_pos hj, if_pos hj]; exact ⟨_, rfl⟩
 ·rw [if_neg hj, if_neg hj]; exact ⟨_, rfl⟩
theorem yO (hc : X.calm = true) : qZ X (.builtin "min") (fun xs H Q => ∃ i j, xs = [.int i, .int j] /\ Q (.int (if j < i then j else i)) H) := by
 intro pins s σ H xs us Q I r h
 obtain ⟨i, j, rfl, q⟩ := h
 obtain ⟨u, w', rfl, ⟨t, rfl⟩, ⟨t', rfl⟩⟩ := yM r
 refine min_two_ints (I.ok.hd hc) fun h' tk k => ⟨_, H, I.kept k, ?_, q⟩
 by_cases hj : j < i
 ·rw [if_pos hj, if_pos hj]; exact ⟨_, rfl⟩
 ·rw [if_neg hj, if_neg hj]; exact ⟨_, rfl⟩
theorem JE : qZ X (.type "int") (fun xs H Q => (∃ i, xs = [.int i] /\ Q (.int i) H) \/ ∃ k, xs = [.bl k] /\ Q (.int (if k then 1 else 0)) H) := by
 intro pins s σ H xs us Q I r h
 rcases h with ⟨i, rfl, q⟩ | ⟨k, rfl, q⟩
 ·obtain ⟨u, rfl, t, rfl⟩ := vals1 r
  exact call_int_int ⟨.int i, H, I, ⟨_, rfl⟩, q⟩
 ·obtain ⟨u, rfl, r1⟩ := vals1 r
  cases r1
  exact call_int_bool ⟨.int (if k then 1 else 0), H, I.tok _, ⟨_, rfl⟩, q⟩
def LenV (K : PySem.W.Frag) (x : V) (H : Hp) (n : Nat) : Prop :=
 match x with
 | .str y => y.length <= sizeLine /\ n = y.length
 | .byt y => y.size <= sizeLine /\ n = y.size
 | .ref p => (∃ xs, SqL K H p xs /\ n = xs.length) \/ ∃ xs, SqT K H p xs /\ n = xs.length
 | _ => False
theorem call_len : qZ X (.builtin "len") (fun xs H Q => ∃ x n, xs = [x] /\ LenV X.K x H n /\ Q (.int n) H) := by
 intro pins s σ H xs us Q I r h
 obtain ⟨x, n, rfl, e, q⟩ := h
 obtain ⟨u, rfl, rx⟩ := vals1 r
 have hl := JD
 have hs : sizeLine = 16777216 := sizeLine_eq
 cases x with
 | str y =>
  obtain ⟨t, rfl⟩ := rx
  obtain ⟨hy, e'⟩ : y.length <= sizeLine /\ n = y.length := e
  subst e'
  exact len_str (by omega) ⟨.int _, H, I.tok _, ⟨_, rfl⟩, q⟩
 | byt y =>
  obtain ⟨t, rfl⟩ := rx
  obtain ⟨hy, e'⟩ : y.size <= sizeLine /\ n = y.size := e
  subst e'
  exact PySem.W.len_bytes (by omega) ⟨.int _, H, I.tok _, ⟨_, rfl⟩, q⟩
 | ref p =>
  cases rx
  have e' : (∃ xs, SqL X.K H p xs /\ n = xs.length) \/ ∃ xs, SqT X.K H p xs /\ n = xs.length := e
  rcases e' with ⟨xs, hx, e'⟩ | ⟨xs, hx, e'⟩
  ·subst e'
   obtain ⟨its, r', pl, hz⟩ := I.list hx
   have hlen := r'.length
   exact Calls.call_len_list pl.isList (by simp only [List.size_toArray]; omega) ⟨.int xs.length, H, I.tok _, ⟨_, by simp only [List.size_toArray]; rw [hlen]⟩, q⟩
  ·subst e'
   obtain ⟨its, r', pl, hz⟩ := I.tuple hx
   have hlen := r'.length
   exact len_tuple pl (by simp only [List.size_toArray]; omega) ⟨.int xs.length, H, I.tok _, ⟨_, by simp only [List.size_toArray]; rw [hlen]⟩, q⟩
 | _ => exact (show False from e).elim
theorem wF : qZ X (.builtin "divmod") (fun xs H Q => ∃ i j, xs = [.int i, .int j] /\ CDiv i j /\ ∀ p, H p = none -> Q (.ref p) (upd H p (.tup [.int (i / j), .int (i % j)]))) := by
 intro pins s σ H xs us Q I r h
 obtain ⟨i, j, rfl, ⟨h1, h2⟩, q⟩ := h
 obtain ⟨u, w', rfl, ⟨t, rfl⟩, ⟨t', rfl⟩⟩ := yM r
 refine divmod_int (by omega) ?_ (.inl (PyProof.noPylong_small (by omega)))
 rw [Int.fdiv_eq_ediv_of_nonneg i (by omega), Int.fmod_eq_emod_of_nonneg i (by omega)]
 have hn : H s.heap.objs.size = none := I.hok.fresh (Nat.le_refl _)
 refine ⟨.ref s.heap.objs.size, _, ?_, rfl, q _ hn⟩
 refine I.laid (fun b o e => Heap.get?_push_of_some _ e) (Nat.le_refl _) ⟨by simp only [List.length_cons, List.length_nil]; rw [sizeLine_eq]; decide, [.int (i / j) s.toks, .int (i % j) (s.toks + 1)], .cons ⟨_, rfl⟩ (.cons ⟨_, rfl⟩ .nil), ?_⟩
 exact ⟨_, Heap.get?_push_size s.heap rfl, rfl, ⟨0, rfl⟩, rfl⟩
end
end L2
namespace L2
open PySem PySem.Spec PyProof.Rows
structure ObjM (h : Heap) (x dx C : Addr) (mA : Str -> Option Value) : Prop where
 obj : h.get? x = some (PySem.W.instObj C dx)
 ns : h.Ns1 dx mA
 ne : dx ≠ x
theorem yP {h : Heap} {dx : Addr} {mA : Str -> Option Value} (n : h.Ns1 dx mA) : ∃ od, h.get? dx = some od /\ ∀ name, PySem.W.lookIn name od = some (mA name) := by
 obtain ⟨o, es, ep, ho, hd, hk, _, hm⟩ := n
 refine ⟨o, ho, fun name => ?_⟩
 have e := hm name
 unfold nsFind findBy at e
 rw [<- Array.find?_toList] at e
 unfold PySem.W.lookIn
 rw [hd]
 dsimp only
 split
 ·rename_i y q
  rw [q] at e
  exact congrArg some e
 ·rename_i q
  rw [q] at e
  have a : es.toList.any (·.refKey) = false := by
   rw [List.any_eq_false]
   intro y hy
   obtain ⟨z, t, hkey⟩ := hk y (Array.mem_toList_iff.mp hy)
   simp [DictEntry.refKey, hkey]
  have a' : ¬ es.toList.any (·.refKey) = true := by rw [a]; exact Bool.false_ne_true
  rw [if_neg a']
  exact congrArg some e
theorem ObjM.look {h : Heap} {x dx C : Addr} {mA : Str -> Option Value} (I : ObjM h x dx C mA) : ∃ od, PySem.W.InstAt h x (PySem.W.instObj C dx) C (some od) /\ ∀ name, PySem.W.lookIn name od = some (mA name) :=
 let ⟨od, ho, hl⟩ := yP I.ns
 ⟨od, ⟨I.obj, rfl, rfl, ho⟩, hl⟩
section
variable {prog : Program} {w : World} {A : Around} {E : Value -> Shared -> Prop} {s : Shared} {K : PySem.W.Frag} {x dx C f : Addr} {mA : Str -> Option Value} {name : Str} {v : Value}
end
theorem yu.some_of {v : V} {o : Option Value} (r : yu (some v) o) : ∃ u, o = some u /\ RelV v u := by
 cases o with
 | none => exact (show False from r).elim
 | some u => exact ⟨u, rfl, r⟩
section
variable {P : Program} {w : World} {H H' : Hp} {h h' : Heap} {a C dx : Addr} {fs fs' : List (Str × V)}
theorem ins_get (hok : HOk P w H h) (e : H a = some (.ins C dx fs)) : ∃ mA, ObjM h a dx C mA /\ (∀ f, yu (fs.lookup f) (mA f)) /\ PySem.Within mA (fs.map (·.1)) /\ fs.length <= 1000 /\ H dx = some (.own a) := by
 obtain ⟨d, z, ne, ob, mA, n, r, q⟩ := (show qc P w H h a (.ins C dx fs) from hok a _ e)
 exact ⟨mA, ⟨ob, n, ne⟩, r, q, z, d⟩
end
structure Cls (K : PySem.W.Frag) (C : Addr) : Prop where
 pg : PySem.W.plainGet K C Str.empty = true
 hd : PySem.W.hasDictIn K C = true
 po : PySem.W.plainOver K C = true
 sa : PySem.W.findIn K (.ref C) "__setattr__" = some (some (.builtin "object.__setattr__"))
theorem Cls.get {K : PySem.W.Frag} {C : Addr} (c : Cls K C) (f : Str) : PySem.W.plainGet K C f = true := c.pg
section
variable {X : Cx} {pins : List (Addr × Obj)} {σ : St} {H : Hp} {s : Shared} {a C dx : Addr} {fs : List (Str × V)} {f : Str} {v : V} {A : Around} {E : Value -> Shared -> Prop}
end
section
variable {X : Cx} {o e value : Expr} {f : Str} {pos pos' tpos : Pos} {ta tv : TE}
end
section
variable {X : Cx} {pins : List (Addr × Obj)} {σ : St} {H : Hp} {s : Shared} {A : Around} {E : Value -> Shared -> Prop} {Q : Value -> Shared -> Prop} {c : Value} {b : Bool}
inductive Wv (K : PySem.W.Frag) (H : Hp) : V -> Value -> Prop where
 | non : Wv K H .non (.type "NoneType")
 | bl (x : Bool) : Wv K H (.bl x) (.type "bool")
 | int (i : Int) : Wv K H (.int i) (.type "int")
 | str (x : Str) : Wv K H (.str x) (.type "str")
 | flt (x : UInt64) : Wv K H (.flt x) (.type "float")
 | lst {a : Addr} {xs : List V} (e : H a = some (.lst xs)) : Wv K H (.ref a) (.type "list")
 | frz {a : Addr} {o : Obj} {xs : List V} (e : H a = some (.frz o (.lst xs))) : Wv K H (.ref a) (.type "list")
 | tup {a : Addr} {xs : List V} (e : H a = some (.tup xs)) : Wv K H (.ref a) (.type "tuple")
 | dK {a : Addr} {kvs : List (Key × V)} (e : H a = some (.dK kvs)) : Wv K H (.ref a) (.type "dict")
 | dT {a : Addr} {kvs : List (List Key × V)} (e : H a = some (.dT kvs)) : Wv K H (.ref a) (.type "dict")
 | ins {a C dx : Addr} {fs : List (Str × V)} (e : H a = some (.ins C dx fs)) (cl : Cls K C) (ha : PySem.W.findIn K (.ref C) "__class__" = some (some (.builtin "object.__class__")))
   (hn : PySem.W.specialIn K (.builtin "object.__class__") "__get__" = some (some (.builtin "getset_descriptor.__get__"))) (htk : PySem.W.takesIn K (.builtin "object.__class__") = some true)
   (hm : PySem.W.mroIn K C (.type "object") = some true) : Wv K H (.ref a) (.ref C)
theorem yQ {x : V} {u t : Value} (I : Inv X pins σ H s) (rx : RelV x u) (ty : Wv X.K H x t) (e : PySem.W.kitOne X.K t c = some b) (h : ∀ tk, Q (.bool b) { s with toks := tk }) :
  wpAny (model X.prog X.w) A (call (.builtin "isinstance") [u, c]) Q E s := by
 cases ty with
 | non => cases (show u = Value.none from rx); exact PySem.W.kia_one PySem.W.kitx_none I.kIn True.intro e (fun z => nomatch z) h
 | bl y => cases (show u = Value.bool y from rx); exact PySem.W.kia_one PySem.W.kitx_bool I.kIn True.intro e (fun z => nomatch z) h
 | int i => obtain ⟨t, q⟩ := (show ∃ t, u = Value.int i t from rx); cases q; exact PySem.W.kia_one PySem.W.kitx_int I.kIn True.intro e (fun z => nomatch z) h
 | str y => obtain ⟨t, q⟩ := (show ∃ t, u = Value.str y t from rx); cases q; exact PySem.W.kia_one PySem.W.kitx_str I.kIn True.intro e (fun z => nomatch z) h
 | flt y => obtain ⟨t, q⟩ := (show ∃ t, u = Value.float y t from rx); cases q; exact PySem.W.kia_one PySem.W.kitx_float I.kIn True.intro e (fun z => nomatch z) h
 | @lst a xs ea =>
  cases (show u = Value.ref a from rx)
  obtain ⟨_, _, n, _, h1⟩ := (show qc X.prog X.w H s.heap a (.lst xs) from I.hok a _ ea)
  exact PySem.W.kia_one PySem.W.kitx_list I.kIn ⟨_, h1, rfl⟩ e (fun z => nomatch z) h
 | @frz a ob xs ea =>
  cases (show u = Value.ref a from rx)
  obtain ⟨_, _, _, n, _, h1⟩ := (show qc X.prog X.w H s.heap a (.frz ob (.lst xs)) from I.hok a _ ea)
  exact PySem.W.kia_one PySem.W.kitx_list I.kIn ⟨_, h1, rfl⟩ e (fun z => nomatch z) h
 | @tup a xs ea =>
  cases (show u = Value.ref a from rx)
  obtain ⟨_, _, _, p⟩ := (show qc X.prog X.w H s.heap a (.tup xs) from I.hok a _ ea)
  obtain ⟨o, h1, h2, _⟩ := p
  exact PySem.W.kia_one PySem.W.kitx_tuple I.kIn ⟨o, h1, h2⟩ e (fun z => nomatch z) h
 | @dK a kvs ea =>
  cases (show u = Value.ref a from rx)
  obtain ⟨_, _, vs, _, p⟩ := (show qc X.prog X.w H s.heap a (.dK kvs) from I.hok a _ ea)
  obtain ⟨o, es, ep, h1, h2, _⟩ := p
  exact PySem.W.kia_one PySem.W.kitx_dict I.kIn ⟨o, h1, h2.1⟩ e (fun z => nomatch z) h
 | @dT a kvs ea =>
  cases (show u = Value.ref a from rx)
  obtain ⟨_, _, xs, _, o, es, ep, h1, h2, _⟩ := (show qc X.prog X.w H s.heap a (.dT kvs) from I.hok a _ ea)
  exact PySem.W.kia_one PySem.W.kitx_dict I.kIn ⟨o, h1, h2.1⟩ e (fun z => nomatch z) h
 | @ins a C dx fs ea cl ha hn htk hm =>
  cases (show u = Value.ref a from rx)
  obtain ⟨mA, O, _⟩ := ins_get I.hok ea
  obtain ⟨od, J, _⟩ := O.look
  exact PySem.W.kia_one (PySem.W.kitx_own (cl.get _) cl.hd ha hn htk hm) I.kIn J e (fun z => nomatch z) h
end
end L2
namespace L2
open PySem PySem.Spec PyProof.Rows
structure Zj (k : Nat) (A : Around) : Prop where
 hd : A.handled = none
 dp : A.depth + 3 * k + 5 < recursionLimit
 un : A.units + 16 * k + 200 < cLine
theorem Zj.mono {j k : Nat} {A : Around} (r : Zj k A) (h : j <= k) : Zj j A := ⟨r.hd, by have := r.dp; omega, by have := r.un; omega⟩
theorem Zj.deeper {k : Nat} {A : Around} (r : Zj (k + 1) A) (env : Env) : Zj k (A.deeper env) :=
 ⟨r.hd, by have := r.dp; show A.depth + 1 + 3 * k + 5 < _; omega, by have := r.un; show A.units + 3 + 16 * k + 200 < _; omega⟩
theorem Zj.depth {k : Nat} {A : Around} (r : Zj k A) : A.depth < recursionLimit := by have := r.dp; omega
theorem Zj.units {k : Nat} {A : Around} (r : Zj k A) : A.units + 64 < cLine := by have := r.un; omega
def tNil : TA := fun _ H Q => Q [] H
def tCons (ta : TE) (tr : TA) : TA := fun σ H Q => ta σ H fun x H1 => tr σ H1 fun xs H2 => Q (x :: xs) H2
section
variable {X : Cx} {e : Expr} {es : List Expr} {te : TE} {t : TA} {pos : Pos}
theorem ze : PA X [] tNil := fun _ _ _ _ H Q I h => Calls.spliced_nil ⟨[], H, I, .nil, h⟩
theorem za (ha : PE X e te) (hr : PA X es t) (hs : starEach (e :: es) X.env = (false, eval e X.env) :: starEach es X.env := by rfl) : PA X (e :: es) (tCons te t) := by
 intro pos pins s σ H Q I h
 rw [hs]
 show wpAny _ _ (spliced ((false, eval e X.env) :: backTo pos (starEach es X.env))) _ _ s
 refine Calls.spliced_cons (thn (ha pins s σ H _ I h) fun u s1 ⟨x, H1, I1, r1, q1⟩ => ?_)
 exact thn (hr pos pins s1 σ H1 _ I1 q1) fun us s2 ⟨xs, H2, I2, r2, q2⟩ => ⟨x :: xs, H2, I2, .cons r1 r2, q2⟩
def tTup (t : TA) : TE := fun σ H Q => t σ H fun xs H1 => xs.length <= sizeLine /\ ∀ p, H1 p = none -> Q (.ref p) (upd H1 p (.tup xs))
def tLst (t : TA) : TE := fun σ H Q => t σ H fun xs H1 => xs.length <= sizeLine /\ ∀ p, H1 p = none -> Q (.ref p) (upd H1 p (.lst xs))
theorem qB {x1} (h : PA X es t) : PE X (.Tuple es x1 pos) (tTup t) := by
 intro pins s σ H Q I hq
 refine wpAny_Tuple_spliced (thn (h pos pins s σ H _ I hq) fun us s1 ⟨xs, H1, I1, r, z, q⟩ => ⟨by rw [<- r.length]; exact z, ?_⟩)
 have hf : H1 s1.heap.objs.size = none := I1.hok.fresh (Nat.le_refl _)
 refine ⟨.ref s1.heap.objs.size, upd H1 s1.heap.objs.size (.tup xs), I1.laid (t' := s1.toks) (fun b u e => Heap.get?_push_of_some _ e) (Nat.le_refl _) ?_, rfl, q _ hf⟩
 exact ⟨z, us, r, ⟨_, Heap.get?_push_size _ rfl, rfl, ⟨_, rfl⟩, rfl⟩⟩
theorem q5 (h : PA X es t) : PE X (.List es pos) (tLst t) := by
 intro pins s σ H Q I hq
 refine wpAny_List_spliced (thn (h pos pins s σ H _ I hq) fun us s1 ⟨xs, H1, I1, r, z, q⟩ => ⟨by rw [<- r.length]; exact z, ?_⟩)
 have hf : H1 s1.heap.objs.size = none := I1.hok.fresh (Nat.le_refl _)
 refine ⟨.ref s1.heap.objs.size, upd H1 s1.heap.objs.size (.lst xs), I1.laid (t' := s1.toks) (fun b u e => Heap.get?_push_of_some _ e) (Nat.le_refl _) ?_, rfl, q _ hf⟩
 exact ⟨z, us, 0, r, Heap.get?_push_size _ rfl⟩
end
abbrev Sp := List V -> Hp -> VK -> XK -> Prop
abbrev CXT := List Env -> Hp -> Shared -> XK -> Value -> Shared -> Prop
structure Env0 (P : Program) (w : World) (K : PySem.W.Frag) (mg : Str -> Option Value) (base : Heap) (A : Around) (outer : List Env) (s : Shared) (H : Hp) : Prop where
 frames : A.frames = some outer
 mod : Mod K mg base
 bs : ∀ b o, base.get? b = some o -> s.heap.get? b = some o /\ H b = none
 bsz : base.objs.size <= s.heap.objs.size
 funs : s.heap.FunFrames base outer
 frf : ∀ b ∈ frs outer, H b = none
 hok : HOk P w H s.heap
 bare : AllBare s.gens
def CE (outer : List Env) (P : Program) (w : World) (H : Hp) (s : Shared) (Q : VK) (u : Value) (s' : Shared) : Prop :=
 ∃ v H', s'.os = s.os /\ AllBare s'.gens /\ Un (frs outer) [] H H' s.heap s'.heap /\ HOk P w H' s'.heap /\ RelV v u /\ Q v H'
def CR (CX : CXT) (outer : List Env) (P : Program) (w : World) (H : Hp) (s : Shared) (Q : VK) (E : XK) (r : Result) (s' : Shared) : Prop :=
 match r with
 | .ok (.ret u) => CE outer P w H s Q u s'
 | .ok _ => False
 | .error e => CX outer H s E e s'
structure jY (P : Program) (w : World) (K : PySem.W.Frag) (mg : Str -> Option Value) (base : Heap) (CX : CXT) (k : Nat) (f : Addr) (fd : FuncData) (ps : List Str) (sp : Sp) : Prop where
 len : ∀ vs H Q E, sp vs H Q E -> vs.length = ps.length
 run : ∀ (A : Around) (outer : List Env) (s : Shared) (H : Hp) (args : Args) (us : List Value) (vs : List V) (Q : VK) (E : XK), Zj k A -> Env0 P w K mg base A outer s H -> BindsTo s fd args (ps.zip us) -> qe vs us -> sp vs H Q E ->
  codeAny (model P w) A (.call (.ref f) args) (CR CX outer P w H s Q E) s
section
variable {X : Cx} {pins : List (Addr × Obj)} {σ : St} {H : Hp} {s s' : Shared}
theorem Inv.env0 (I : Inv X pins σ H s) : Env0 X.prog X.w X.K X.mg X.base X.A X.stack s H :=
 ⟨I.ok.frames, I.ok.mod, I.bs, Nat.le_trans I.ok.bsz I.sz, I.stack, I.stkFree, I.hok, I.bare⟩
theorem Inv.after {Q : VK} {u : Value} (I : Inv X pins σ H s) (h : CE X.stack X.prog X.w H s Q u s') : EP X pins σ Q u s' := by
 obtain ⟨v, H', os, bare, un, hok, r, q⟩ := h
 obtain ⟨hh, g, d, t, os'⟩ := s'
 obtain rfl : os' = s.os := os
 exact ⟨v, H', I.call (h' := hh) (g' := g) (d' := d) (t' := t) (ch := []) un hok bare (fun b z => absurd z (by simp)), r, q⟩
end
def tCall (sp : Sp) (dvs : List V) (E : XK) (t : TA) : TE := fun σ H Q => t σ H fun vs H1 => sp (vs ++ dvs) H1 Q E
def Binds (K : PySem.W.Frag) (fd : FuncData) (ps : List Str) (ds : List Value) : Prop :=
 ∀ (s : Shared) (us : List Value), K.In s.heap -> (us ++ ds).length = ps.length -> BindsTo s fd ⟨us, []⟩ (ps.zip (us ++ ds))
theorem Binds.all {K : PySem.W.Frag} {fd : FuncData} {ps : List Str} (h : ∀ us : List Value, us.length = ps.length -> bindArgs fd ⟨us, []⟩ = pure (ps.zip us)) : Binds K fd ps [] := fun s us _ hl => by
 rw [List.append_nil] at hl ⊢
 exact .of_eq (h us hl)
def yR (CX : CXT) (X : Cx) (E : XK) : Prop := ∀ (pins : List (Addr × Obj)) (σ : St) (H : Hp) (s : Shared) (e : Value) (s' : Shared), Inv X pins σ H s -> CX X.stack H s E e s' -> X.xe e s'
section
theorem run_fn {pins : List (Addr × Obj)} {σ : St} {H : Hp} {s : Shared} {Q : VK} {us : List Value} {vs : List V} (F : jY X.prog X.w X.K X.mg X.base CX k f fd ps sp) (hr : Zj k X.A) (hb : Binds X.K fd ps ds) (hd : qe dvs ds) (hx : yR CX X E)
  (I : Inv X pins σ H s) (r : qe vs us) (h : sp (vs ++ dvs) H Q E) : wpAny (model X.prog X.w) X.A (call (.ref f) us) (EP X pins σ Q) X.xe s := by
 have r2 : qe (vs ++ dvs) (us ++ ds) := r.append hd
 have hl : (us ++ ds).length = ps.length := by rw [<- r2.length]; exact F.len _ _ _ _ h
 refine wpAny_call (codeAny_mono (F.run X.A X.stack s H ⟨us, []⟩ (us ++ ds) (vs ++ dvs) Q E hr I.env0 (hb s us I.kIn hl) r2 h) fun r s' hq => ?_)
 cases r with
 | error e => exact hx pins σ H s e s' I hq
 | ok fl =>
  cases fl with
  | ret u => exact I.after hq
  | next => exact False.elim hq
  | brk => exact False.elim hq
  | cont => exact False.elim hq
theorem pe_call (F : jY X.prog X.w X.K X.mg X.base CX k f fd ps sp) (hr : Zj k X.A) (hg : Gl X x) (hm : X.mg x = some (.ref f)) (hk : PySem.W.keepIn X.K (.ref f) = true) (hb : Binds X.K fd ps ds) (hd : qe dvs ds) (hx : yR CX X E)
  (ha : PA X (e :: es) t) (hdb : (x == ("__debug__" : Str)) = false := by decide) (he : starEach (e :: es) X.env = (false, eval e X.env) :: starEach es X.env := by rfl) (hpl : (backTo pos (starEach es X.env)).any (·.1) = false := by rfl) :
  PE X (.Call (.Name x p) (e :: es) [] pos) (tCall sp dvs E t) := by
 intro pins s σ H Q I h
 refine wpAny_Call_Name_kw (wA I hg hm ?_ hdb)
 refine PySem.W.callWith_K (h₀ := X.base) I.ok.mod.kin hk (thn (ha pos pins s σ H _ I h) fun us s1 ⟨vs, H1, I1, r, q⟩ => ⟨I1.kIn, ?_⟩) he hpl
 exact run_fn F hr hb hd hx I1 r q
end
section
variable {g : List Value -> List Value -> List Value} {gV : List V -> List V -> List V}
end
structure zH (N P : List Str) (sc : Scope) : Prop where
 kind : sc.kind = .function
 co : sc.isCoroutine = false
 gen : sc.isGenerator = false
 nd : N.Nodup
 pre : N.take P.length = P
 par : ∀ x ∈ P, sc.names.lookup x = some .local \/ sc.names.lookup x = some .cell
 nofree : ∀ y ∈ sc.names, y.2 ≠ .free
theorem JF {kindOf : Str -> Option NameKind} {x : Str} : ∀ {binds : List (Str × Value)} {m : Str -> Option Value}, (∀ v, (x, v) ∉ binds) -> bindL kindOf binds m x = m x
 | [], _, _ => rfl
 | (n, v) :: r, m, h => by
  unfold bindL
  rw [JF fun w hw => h w (List.mem_cons_of_mem _ hw)]
  split
  ·have : x ≠ n := by rintro rfl; exact h v List.mem_cons_self
   simp [this]
  ·rfl
theorem JG {kindOf : Str -> Option NameKind} {x : Str} : ∀ {binds : List (Str × Value)} {m : Str -> Option Value}, (∀ v, (x, v) ∉ binds) -> bindC kindOf binds m x = m x
 | [], _, _ => rfl
 | (n, v) :: r, m, h => by
  unfold bindC
  rw [JG fun w hw => h w (List.mem_cons_of_mem _ hw)]
  split
  ·rfl
  ·have : x ≠ n := by rintro rfl; exact h v List.mem_cons_self
   simp [this]
theorem JH {kindOf : Str -> Option NameKind} {x : Str} {v : Value} : ∀ {P : List Str} {vs : List Value} {i : Nat} {m : Str -> Option Value}, P.Nodup -> P[i]? = some x -> vs[i]? = some v -> kindOf x = some .local ->
  bindL kindOf (P.zip vs) m x = some v
 | [], _, _, _, _, h, _, _ => by simp at h
 | _ :: _, [], _, _, _, _, h, _ => by simp at h
 | p :: P, w :: vs, 0, m, nd, h1, h2, hk => by
  simp at h1 h2; subst h1; subst h2
  show bindL kindOf ((p, w) :: P.zip vs) m p = _
  unfold bindL
  rw [JF fun v hv => (List.nodup_cons.mp nd).1 (List.of_mem_zip hv).1, if_pos hk]
  simp
 | p :: P, w :: vs, i + 1, m, nd, h1, h2, hk => by
  show bindL kindOf ((p, w) :: P.zip vs) m x = _
  unfold bindL
  exact JH (i := i) (List.nodup_cons.mp nd).2 (by simpa using h1) (by simpa using h2) hk
theorem JI {kindOf : Str -> Option NameKind} {x : Str} {v : Value} : ∀ {P : List Str} {vs : List Value} {i : Nat} {m : Str -> Option Value}, P.Nodup -> P[i]? = some x -> vs[i]? = some v -> kindOf x ≠ some .local ->
  bindC kindOf (P.zip vs) m x = some v
 | [], _, _, _, _, h, _, _ => by simp at h
 | _ :: _, [], _, _, _, _, h, _ => by simp at h
 | p :: P, w :: vs, 0, m, nd, h1, h2, hk => by
  simp at h1 h2; subst h1; subst h2
  show bindC kindOf ((p, w) :: P.zip vs) m p = _
  unfold bindC
  rw [JG fun v hv => (List.nodup_cons.mp nd).1 (List.of_mem_zip hv).1, if_neg hk]
  simp
 | p :: P, w :: vs, i + 1, m, nd, h1, h2, hk => by
  show bindC kindOf ((p, w) :: P.zip vs) m x = _
  unfold bindC
  exact JI (i := i) (List.nodup_cons.mp nd).2 (by simpa using h1) (by simpa using h2) hk
def start (N : List Str) (vs : List V) : St := vs.map some ++ List.replicate (N.length - vs.length) none
def cxOf (CX : CXT) (P : Program) (w : World) (K : PySem.W.Frag) (mg : Str -> Option Value) (base : Heap) (N : List Str) (qual : Str) (scope : Scope) (f : Addr) (cd : Value) (A : Around) (outer : List Env) (s : Shared) (H : Hp) (E : XK) : Cx where
 prog := P
 w := w
 K := K
 mg := mg
 base := base
 A := A.deeper (envOfC qual scope s.heap.objs.size f cd)
 N := N
 s₀ := s
 H₀ := H
 env := envOfC qual scope s.heap.objs.size f cd
 outer := outer
 stack := envOfC qual scope s.heap.objs.size f cd :: outer
 ex := []
 calm := true
 fn := fun _ => true
 pn := []
 xe := fun e s' => wpAny (model P w) (A.deeper (envOfC qual scope s.heap.objs.size f cd)) (leaving (envOfC qual scope s.heap.objs.size f cd) e) (fun _ s'' => CX outer H s E e s'') (fun e' s'' => CX outer H s E e' s'') s'
theorem Ww {sc : Scope} {n : Nat} {x : Str} (h : sc.names.lookup x = some .cell) : ∃ c, (cellsFrom n sc.names []).lookup x = some c := by
 have q := PySem.W.cellsFrom_some sc.names n [] (.inl h)
 exact Option.isSome_iff_exists.mp q
theorem yS {CX : CXT} {P : Program} {w : World} {K : PySem.W.Frag} {mg : Str -> Option Value} {base : Heap} {N ps : List Str} {qual : Str} {scope : Scope} {f : Addr} {cd : Value} {A : Around} {outer : List Env} {s s1 : Shared} {H : Hp} {E : XK} {us : List Value} {vs : List V}
  (S : zH N ps scope) (hd : A.handled = none) (e0 : Env0 P w K mg base A outer s H) (hl : vs.length = ps.length) (r : qe vs us)
  (x : InCallC s s.heap.objs.size (bindL (envOfC qual scope s.heap.objs.size f cd).kindOf (ps.zip us) fun _ => none) (cellsFrom (s.heap.objs.size + 1) scope.names []) (bindC (envOfC qual scope s.heap.objs.size f cd).kindOf (ps.zip us) fun _ => none) s1) :
  Inv (cxOf CX P w K mg base N qual scope f cd A outer s H E) [] (start N vs) H s1 := by
 have hpl : ps.length <= N.length := by have := congrArg List.length S.pre; rw [List.length_take] at this; omega
 obtain ⟨h1, tk, rfl, hk⟩ := x.done
 have noA : ∀ b : Addr, b ∉ (cxOf CX P w K mg base N qual scope f cd A outer s H E).ex := fun b z => absurd (show b ∈ ([] : List Addr) from z) (by simp)
 refine ⟨⟨e0.mod, S.kind, rfl, rfl, Nat.le_refl _, fun y z c h1 h2 => ?_, fun y hy => ?_, fun y c _ h => ?_, fun _ => hd, Around.frames_deeper e0.frames, .inr ⟨rfl, rfl⟩, fun b z => absurd z (noA b), e0.bs, e0.bsz, fun b _ _ => noA b, fun b z => absurd z (noA b), e0.funs, e0.frf⟩,
  rfl, e0.bare, Un.kept hk, ⟨_, x.toInCall.ns, fun i y v h1 h2 h3 => ?_⟩, fun y c h => ⟨_, x.cell y c h⟩, e0.hok.fresh (Nat.le_refl _), fun y c h => ?_, fun p hp => absurd (show p ∈ ([] : List (Addr × Obj)) from hp) (by simp), e0.hok.kept hk, ?_⟩
 ·exact name_of_addr x.apart (PySem.mem_of_lookup h1) (PySem.mem_of_lookup h2)
 ·have hy : scope.names.lookup y = some .cell \/ scope.names.lookup y = some .free := hy
  rcases hy with hy | hy
  ·exact Ww hy
  ·exact absurd rfl (S.nofree _ (PySem.mem_of_lookup hy))
 ·exact Nat.le_of_lt (x.above y c (PySem.mem_of_lookup h))
 ·have hi : i < vs.length := by
   unfold start at h2
   by_cases hi : i < vs.length
   ·exact hi
   ·rw [List.getElem?_append_right (by simpa using hi)] at h2
    rw [List.getElem?_replicate] at h2
    split at h2 <;> cases h2
  have ha : vs[i]? = some v := by
   unfold start at h2
   rw [List.getElem?_append_left (by simpa using hi), List.getElem?_map] at h2
   cases e : vs[i]? with
   | none => rw [e] at h2; cases h2
   | some a => rw [e] at h2; cases h2; rfl
  obtain ⟨u, hu, rv⟩ := r.get ha
  have hp : ps[i]? = some y := by
   rw [<- S.pre, List.getElem?_take_of_lt (by omega)]; exact h1
  have ndP : ps.Nodup := by rw [<- S.pre]; exact S.nd.sublist (List.take_sublist _ _)
  refine ⟨u, rv, ?_⟩
  rcases S.par y (List.mem_of_getElem? hp) with k | k
  ·exact .inl ⟨k, JH ndP hp hu k⟩
  ·obtain ⟨c, e⟩ := Ww (n := s.heap.objs.size + 1) k
   refine .inr ⟨.inl k, c, e, ?_⟩
   have q := x.cell y c e
   rw [JI ndP hp hu (by show scope.names.lookup y ≠ _; rw [k]; decide)] at q
   exact q
 ·exact e0.hok.fresh (Nat.le_of_lt (x.above y c (PySem.mem_of_lookup h)))
 ·unfold start
  show _ = N.length
  rw [List.length_append, List.length_map, List.length_replicate]
  omega
theorem fn_of {CX : CXT} {P : Program} {w : World} {K : PySem.W.Frag} {mg : Str -> Option Value} {base : Heap} {k : Nat} {f : Addr} {name qual : Str} {params : Arguments} {body : List Stmt} {scope : Scope} {dV kV doc pm cdv ct oc : Value} {an od : Option Addr}
  {osl : Array (Option Value)} {N ps : List Str} {sp : Sp} (lk : K.lookup f = some ⟨oc, od, .func (PySem.W.fnOf name qual params body scope dV kV doc pm an cdv ct), osl⟩) (hcd : PySem.W.codeIn K cdv qual = true) (S : zH N ps scope)
  (len : ∀ vs H Q E, sp vs H Q E -> vs.length = ps.length)
  (hbody : ∀ (A : Around) (outer : List Env) (s : Shared) (H : Hp) (vs : List V) (Q : VK) (E : XK), Zj k (A.deeper (envOfC qual scope s.heap.objs.size f cdv)) -> sp vs H Q E ->
   ∃ t, PSs (cxOf CX P w K mg base N qual scope f cdv A outer s H E) body t /\ t { nx := fun _ H' => Q .non H', rt := Q } (start N vs) H) :
  jY P w K mg base CX (k + 1) f (PySem.W.fnOf name qual params body scope dV kV doc pm an cdv ct) ps sp := by
 refine ⟨len, fun A outer s H args us vs Q E hr e0 hb r hsp => ?_⟩
 have hl := len _ _ _ _ hsp
 have KX : K.In s.heap := e0.mod.kin.keeps fun b o e => (e0.bs b o e).1
 have lim : s.heap.NoLimit := e0.mod.nolimit.keeps fun b o e => (e0.bs b o e).1
 have hkind : ∀ y ∈ ps.zip us, scope.names.lookup y.1 = some .local \/ (scope.names.lookup y.1 = some .cell /\ ((cellsFrom (s.heap.objs.size + 1) scope.names []).lookup y.1).isSome = true) := fun ⟨n, v⟩ hy => by
  rcases S.par n (List.of_mem_zip hy).1 with q | q
  ·exact .inl q
  ·exact .inr ⟨q, PySem.W.cellsFrom_some _ _ _ (.inl q)⟩
 refine codeAny_call_function hr.depth (KX _ _ lk) rfl S.co S.gen rfl (PySem.W.codeRec_of KX hcd) (hb _ _ _ _ ?_)
 refine wpAny_newFunctionEnv_cells S.kind hkind fun env he s1 x => ?_
 subst he
 refine ⟨lim.keeps x.toInCall.keep, codeAny_func ?_⟩
 obtain ⟨t, ht, hq⟩ := hbody A outer s H vs Q E (hr.deeper _) hsp
 have I : Inv (cxOf CX P w K mg base N qual scope f cdv A outer s H E) [] (start N vs) H s1 := yS S hr.hd e0 hl r x
 refine wpAny_mono (ht [] s1 (start N vs) H _ I hq) (fun fl s' hs => ?_) fun e s' hs => hs
 have fin : ∀ {σ' : St} {H' : Hp} {v : V} {u : Value}, Inv (cxOf CX P w K mg base N qual scope f cdv A outer s H E) [] σ' H' s' -> RelV v u -> Q v H' -> CE outer P w H s Q u s' :=
  fun {σ' H' v u} J rv q => ⟨v, H', J.os, J.bare, J.base, J.hok, rv, q⟩
 cases fl with
 | ret u =>
  obtain ⟨v, σ', H', J, rv, q⟩ := hs
  exact fin J rv q
 | next =>
  obtain ⟨σ', H', J, q⟩ := hs
  exact fin (v := V.non) (u := Value.none) J rfl q
 | brk =>
  obtain ⟨_, _, _, q⟩ := hs
  exact False.elim q
 | cont =>
  obtain ⟨_, _, _, q⟩ := hs
  exact False.elim q
end L2
namespace L2
open PySem PySem.Spec PyProof.Rows
section
variable {X : Cx} {x : Str} {p pos : Pos} {e : Expr} {es : List Expr} {t : TA} {id T : String} {r : List V -> Hp -> VK -> Prop}
def tCB (r : List V -> Hp -> VK -> Prop) (t : TA) : TE := fun σ H Q => t σ H fun vs H1 => r vs H1 Q
theorem zA (hc : qZ X (.builtin id) r) (hg : Gl X x) (hm : X.mg x = none) (hv : bootBuiltins x = some (.builtin id)) (ha : PA X (e :: es) t) (hn : x ≠ "__name__" := by decide) (hdb : (x == ("__debug__" : Str)) = false := by decide)
  (he : starEach (e :: es) X.env = (false, eval e X.env) :: starEach es X.env := by rfl) (hpl : (backTo pos (starEach es X.env)).any (·.1) = false := by rfl) : PE X (.Call (.Name x p) (e :: es) [] pos) (tCB r t) := by
 intro pins s σ H Q I h
 refine wpAny_Call_Name_kw (Zi I hg hm hv ?_ hn hdb)
 exact PyProof.Rows.callWith_builtin1 (thn (ha pos pins s σ H _ I h) fun us s1 ⟨vs, H1, I1, r1, q1⟩ => hc pins s1 σ H1 vs us Q I1 r1 q1) he hpl
theorem zx (hc : qZ X (.type T) r) (hg : Gl X x) (hm : X.mg x = none) (hv : bootBuiltins x = some (.type T)) (ha : PA X (e :: es) t) (hn : x ≠ "__name__" := by decide) (hdb : (x == ("__debug__" : Str)) = false := by decide)
  (he : starEach (e :: es) X.env = (false, eval e X.env) :: starEach es X.env := by rfl) (hpl : (backTo pos (starEach es X.env)).any (·.1) = false := by rfl) : PE X (.Call (.Name x p) (e :: es) [] pos) (tCB r t) := by
 intro pins s σ H Q I h
 refine wpAny_Call_Name_kw (Zi I hg hm hv ?_ hn hdb)
 exact PyProof.Rows.callWith_type1 (thn (ha pos pins s σ H _ I h) fun us s1 ⟨vs, H1, I1, r1, q1⟩ => hc pins s1 σ H1 vs us Q I1 r1 q1) he hpl
end
end L2
namespace HT
open PySem PyProof.Rows
section
open PySem.SeqAt
open PySem.AutoSeq1 (wpAny_loadPart')
open PySem.MeetsSeq PySem.MeetsSeq2 PySem.MeetsSeq3
end
section
variable {prog : Program} {w : World} {A : Around} {E : Value -> Shared -> Prop} {s : Shared}
theorem cat_tup {t b : Addr} {vs ws : List Value} {Q : Value -> Shared -> Prop} (ht : IsTup s.heap t vs.toArray) (hb : IsTup s.heap b ws.toArray) (hv : vs ≠ [])
  (h1 : ws = [] -> Q (.ref t) s) (h2 : ws ≠ [] -> Q (.ref s.heap.objs.size) { s with heap := s.heap.push { cls := .type "tuple", data := .seq (vs ++ ws).toArray } })
  (hsz : vs.length + ws.length <= sizeLine) : wpAny (model prog w) A (binaryOp .Add (.ref t) (.ref b)) Q E s := by
 obtain ⟨⟨cls, dd, data, sl⟩, ho, hc, n, hd⟩ := id ht
 obtain ⟨⟨cls2, dd2, data2, sl2⟩, ho2, hc2, n2, hd2⟩ := id hb
 simp only at hc hd hc2 hd2
 subst hc hd hc2 hd2
 have e : vs.toArray ++ ws.toArray = (vs ++ ws).toArray := by simp
 by_cases hw : ws = []
 ·exact concat_meets ⟨_, ho, rfl⟩ ⟨_, ho2, rfl⟩ noFill_tuple_add seq_tuple_add PySem.F.slot_tuple_add PySem.F.entry_tuple_add (PySem.F.args_tuple_add_2 _ _)
   (tuple_addW1 t b vs.toArray ws.toArray n n2 dd dd2 sl sl2 (by simpa using hv) (by simp [hw])) ⟨ho, ho2, h1 hw⟩
 ·refine concat_meets ⟨_, ho, rfl⟩ ⟨_, ho2, rfl⟩ noFill_tuple_add seq_tuple_add PySem.F.slot_tuple_add PySem.F.entry_tuple_add (PySem.F.args_tuple_add_2 _ _)
   (tuple_addW2 t b vs.toArray ws.toArray n n2 dd dd2 sl sl2 (by simpa using hv) (by simpa using hw) (by rw [List.size_toArray, List.size_toArray]; exact hsz)) ⟨ho, ho2, ?_⟩
  rw [e]
  exact h2 hw
def sIx (n d : Nat) : Option Int -> Nat
 | none => d
 | some v => if v < 0 then (v + (n : Int)).toNat else min v.toNat n
theorem sIx_none (n d : Nat) : sIx n d none = d := rfl
theorem sIx_nat (n d k : Nat) : sIx n d (some (k : Int)) = min k n := by
 show (if (k : Int) < 0 then ((k : Int) + (n : Int)).toNat else min (k : Int).toNat n) = min k n
 rw [if_neg (by omega), Int.toNat_natCast]
theorem sIx_le (n d : Nat) (hd : d <= n) (o : Option Int) : sIx n d o <= n := by
 cases o with
 | none => exact hd
 | some v =>
  show (if v < 0 then (v + (n : Int)).toNat else min v.toNat n) <= n
  by_cases hv : v < 0
  ·rw [if_pos hv]; omega
  ·rw [if_neg hv]; exact Nat.min_le_right _ _
theorem clip_eq (v : Int) (n d : Nat) : (if v < 0 then max (v + (n : Int)) 0 else min v (n : Int)) = ((sIx n d (some v) : Nat) : Int) := by
 show (if v < 0 then max (v + (n : Int)) 0 else min v (n : Int)) = (((if v < 0 then (v + (n : Int)).toNat else min v.toNat n) : Nat) : Int)
 by_cases hv : v < 0
 ·simp only [if_pos hv]; omega
 ·simp only [if_neg hv]; omega
theorem adjust_gen (lo hi : Option Int) (n : Nat) : Builtin.Slice.sliceAdjust lo hi 1 (n : Int) = (((sIx n 0 lo : Nat) : Int), ((sIx n n hi : Nat) : Int)) := by
 have h1 : ¬ ((1 : Int) < 0) := by omega
 unfold Builtin.Slice.sliceAdjust
 simp only [h1, if_false]
 refine Prod.ext ?_ ?_
 ·cases lo with
  | none => rfl
  | some v => exact clip_eq v n 0
 ·cases hi with
  | none => rfl
  | some v => exact clip_eq v n n
theorem places_gen (i j : Nat) : Builtin.Slice.slicePlaces (i : Int) (j : Int) 1 = j - i := by
 unfold Builtin.Slice.slicePlaces
 have h1 : (1 : Int) > 0 := by omega
 simp only [h1, if_true, Int.ediv_one]
 split <;> omega
theorem slicePart_ {v : Value} {o : Option Int} {Q : Option Int -> Shared -> Prop} (p : IsPart v o) (h : Q o s) : wpAny (model prog w) A (Builtin.Slice.slicePartIndex v) Q E s := by
 cases p with
 | none => exact slicePart_none h
 | int i t => exact slicePart_int h
theorem sliceApplied_gen {sl : Addr} {vl vu : Value} {lo hi : Option Int} {n : Nat} {Q : Int × Int × Nat -> Shared -> Prop} (hs : s.heap.IsSliceOf sl vl vu .none) (pl : IsPart vl lo) (pu : IsPart vu hi)
  (h : Q (((sIx n 0 lo : Nat) : Int), 1, sIx n n hi - sIx n 0 lo) s) : wpAny (model prog w) A (Builtin.Slice.sliceApplied (.ref sl) (pure (n : Int))) Q E s := by
 obtain ⟨os, hos, hcs, hds⟩ := id hs
 unfold Builtin.Slice.sliceApplied Builtin.Slice.sliceFields
 refine wpAny_bind (wpAny_bind (wpAny_field hos hds (x := vl) rfl (wpAny_bind (wpAny_field hos hds (x := vu) rfl (wpAny_bind (wpAny_field hos hds (x := .none) rfl (wpAny_pure ?_)))))))
 refine wpAny_bind (slicePart_none ?_)
 show wpAny _ _ (if ((1 : Int) == 0) = true then _ else _) _ _ s
 rw [if_neg (by decide)]
 refine wpAny_bind (slicePart_ pl (wpAny_bind (slicePart_ pu (wpAny_bind (wpAny_pure ?_)))))
 show wpAny _ _ (match Builtin.Slice.sliceAdjust lo hi 1 (n : Int) with | (lo, hi) => pure (lo, (1 : Int), Builtin.Slice.slicePlaces lo hi 1)) _ _ s
 rw [adjust_gen lo hi n]
 show wpAny _ _ (pure (((sIx n 0 lo : Nat) : Int), (1 : Int), Builtin.Slice.slicePlaces ((sIx n 0 lo : Nat) : Int) ((sIx n n hi : Nat) : Int) 1)) _ _ s
 rw [places_gen]
 exact wpAny_pure h
theorem pick_gen (xs : Array Value) (i k : Nat) : ((List.range k).filterMap fun (m : Nat) => xs[((i : Int) + (m : Int) * 1).toNat]?).toArray = ((xs.toList.drop i).take k).toArray := by
 have e : (fun (m : Nat) => xs[((i : Int) + (m : Int) * 1).toNat]?) = fun m => xs[i + m]? := by
  funext m
  have : ((i : Int) + (m : Int) * 1).toNat = i + m := by omega
  rw [this]
 rw [e]
 have := pick_run xs i k
 rw [List.filterMap_map] at this
 have e2 : ((fun x => xs[x]?) ∘ fun x => i + x) = fun m => xs[i + m]? := rfl
 rw [e2] at this
 rw [this]
theorem getItem_tuple_cut {t sl : Addr} {items : Array Value} {vl vu : Value} {lo hi : Option Int} {Q : Value -> Shared -> Prop} (ht : IsTup s.heap t items) (hs : s.heap.IsSliceOf sl vl vu .none) (pl : IsPart vl lo) (pu : IsPart vu hi)
  (hw : ¬ (sIx items.size 0 lo = 0 /\ sIx items.size items.size hi = items.size))
  (h : Q (.ref s.heap.objs.size) { s with heap := s.heap.push { cls := .type "tuple", data := .seq ((items.toList.drop (sIx items.size 0 lo)).take (sIx items.size items.size hi - sIx items.size 0 lo)).toArray } })
  (hsz : items.size <= sizeLine) : wpAny (model prog w) A (getItem (.ref t) (.ref sl)) Q E s := by
 have htake : sizeOk (.seq ((items.toList.drop (sIx items.size 0 lo)).take (sIx items.size items.size hi - sIx items.size 0 lo)).toArray) := by
  show ((items.toList.drop (sIx items.size 0 lo)).take (sIx items.size items.size hi - sIx items.size 0 lo)).toArray.size <= sizeLine
  rw [List.size_toArray, List.length_take, List.length_drop, Array.length_toList]
  omega
 have hj : sIx items.size items.size hi <= items.size := sIx_le _ _ (Nat.le_refl _) hi
 obtain ⟨os, hos, hcs, hds⟩ := id hs
 have hTs : s.TypeIs (.ref sl) "slice" := ⟨os, hos, hcs⟩
 unfold getItem
 try with_reducible refine wpAny_holding ?_
 first | refine wpAny_bind (wpAny_pure ?_) | skip
 refine wpAny_bind (wpAny_sequenceKey ht.typeIs (by decide) ?_)
 refine wpAny_bind (wpAny_callSpecial?_slot (name := Str.ofString "__getitem__") ht.typeIs PyProof.Rows.slot_tuple_getitem
  (wpAny_call_entry PyProof.Rows.slot_tuple_getitem ht.typeIs entry_tuple_getitem ?_ (args_tuple_getitem _ _)))
 show wpAny _ _ (Builtin.Tuple.tupleItemsOf (.ref t) >>= _) _ _ s
 refine wpAny_bind (tupleItemsOf_ ht ?_)
 refine wpAny_bind (wpAny_typeOf hTs ?_)
 rw [if_pos (by decide)]
 refine wpAny_bind (sliceApplied_gen hs pl pu ?_)
 have hno : ¬ ((((sIx items.size 0 lo : Nat) : Int) == 0 && (1 : Int) == 1 && (sIx items.size items.size hi - sIx items.size 0 lo) == items.size) = true) := by
  intro q
  rw [Bool.and_eq_true, Bool.and_eq_true] at q
  have q1 : ((sIx items.size 0 lo : Nat) : Int) = 0 := eq_of_beq q.1.1
  have q2 : sIx items.size items.size hi - sIx items.size 0 lo = items.size := eq_of_beq q.2
  exact hw ⟨by omega, by omega⟩
 show wpAny _ _ (if (((sIx items.size 0 lo : Nat) : Int) == 0 && (1 : Int) == 1 && (sIx items.size items.size hi - sIx items.size 0 lo) == items.size) = true then _ else _) _ _ s
 rw [if_neg hno, pick_gen]
 first
  | exact wpAny_bind (m := Builtin.Tuple.tupleExact _) (wpAny_newObj_type (wpAny_pure ⟨_, rfl, wpAny_pure h⟩) htake)
  | exact wpAny_bind (m := Builtin.Tuple.tupleExact _) (wpAny_newObj_type (wpAny_bind (wpAny_pure (wpAny_pure ⟨_, rfl, wpAny_pure h⟩))) htake)
  | exact wpAny_bind (wpAny_bind (m := Builtin.Tuple.tupleExact _) (wpAny_newObj_type (wpAny_pure (wpAny_pure ⟨_, rfl, wpAny_pure h⟩)) htake))
  | exact wpAny_bind (wpAny_bind (m := Builtin.Tuple.tupleExact _) (wpAny_newObj_type (wpAny_pure ⟨_, rfl, wpAny_pure h⟩) htake))
end
end HT
namespace L2
open PySem PySem.Spec PyProof.Rows
abbrev TO := St -> Hp -> (Option Int -> Hp -> Prop) -> Prop
def PO (X : Cx) (e : Option Expr) (t : TO) : Prop :=
 ∀ (pins : List (Addr × Obj)) (s : Shared) (σ : St) (H : Hp) (Q : Option Int -> Hp -> Prop), Inv X pins σ H s -> t σ H Q ->
  wpAny (model X.prog X.w) X.A (evalPart e X.env) (fun u s' => ∃ o H', Inv X pins σ H' s' /\ IsPart u o /\ Q o H') X.xe s
def tNoPart : TO := fun _ H Q => Q none H
def tPart (t : TE) : TO := fun σ H Q => t σ H fun x H1 => ∃ i, x = .int i /\ Q (some i) H1
section
variable {X : Cx} {e : Expr} {te : TE} {lo hi : Option Expr} {tl th : TO} {pos p2 : Pos}
theorem jt : PO X none tNoPart := by
 intro pins s σ H Q I h
 rw [evalPart_none]
 exact wpAny_pure ⟨none, H, I, .none, h⟩
theorem ja (h : PE X e te) : PO X (some e) (tPart te) := by
 intro pins s σ H Q I hw
 rw [evalPart_some]
 refine thn (h pins s σ H _ I hw) fun u s1 ⟨x, H1, I1, r1, q1⟩ => ?_
 obtain ⟨i, rfl, q⟩ := q1
 obtain ⟨t, rfl⟩ := r1
 exact ⟨some i, H1, I1, .int i t, q⟩
def SlR (X : Cx) (r : V -> Option Int -> Option Int -> Hp -> VK -> Prop) : Prop :=
 ∀ (pins : List (Addr × Obj)) (s : Shared) (σ : St) (H : Hp) (x : V) (v vl vu : Value) (lo hi : Option Int) (sl : Addr) (Q : VK), Inv X pins σ H s -> RelV x v -> s.heap.IsSliceOf sl vl vu .none -> IsPart vl lo -> IsPart vu hi -> r x lo hi H Q ->
  ∃ T id, typeLookup (.type T) "__getitem__" = pure (some (.builtin id)) /\ s.TypeIs v T /\ wpAny (model X.prog X.w) X.A (getItem v (.ref sl)) (EP X pins σ Q) X.xe s
theorem SlR.or {r r' : V -> Option Int -> Option Int -> Hp -> VK -> Prop} (h : SlR X r) (h' : SlR X r') : SlR X (fun x lo hi H Q => r x lo hi H Q \/ r' x lo hi H Q) := by
 intro pins s σ H x v vl vu lo hi sl Q I rx hs pl pu q
 rcases q with q | q
 ·exact h pins s σ H x v vl vu lo hi sl Q I rx hs pl pu q
 ·exact h' pins s σ H x v vl vu lo hi sl Q I rx hs pl pu q
def tSl (r : V -> Option Int -> Option Int -> Hp -> VK -> Prop) (te : TE) (tl th : TO) : TE := fun σ H Q => te σ H fun x H1 => tl σ H1 fun l H2 => th σ H2 fun u H3 => r x l u H3 Q
theorem qO {r : V -> Option Int -> Option Int -> Hp -> VK -> Prop} (hr : SlR X r) (he : PE X e te) (hl : PO X lo tl) (hu : PO X hi th) : PE X (.Subscript e (.Slice lo hi none p2) pos) (tSl r te tl th) := by
 intro pins s σ H Q I h
 refine Subscript_ (thn (he pins s σ H _ I h) fun v s1 ⟨x, H1, I1, r1, q1⟩ => ?_)
 refine wpAny_Slice (thn (hl pins s1 σ H1 _ I1 q1) fun vl s2 ⟨l, H2, I2, pl, q2⟩ => thn (hu pins s2 σ H2 _ I2 q2) fun vu s3 ⟨u, H3, I3, pu, q3⟩ => ?_)
 rw [evalPart_none]
 refine wpAny_pure ?_
 have I4 : Inv X pins σ H3 { s3 with heap := s3.heap.push { cls := .type "slice", data := .fields #[vl, vu, .none] } } := I3.kept (t' := s3.toks) fun b ob q => Heap.get?_push_of_some _ q
 obtain ⟨T, id, hT, ht, hg⟩ := hr pins { s3 with heap := s3.heap.push { cls := .type "slice", data := .fields #[vl, vu, .none] } } σ H3 x v vl vu l u s3.heap.objs.size Q I4 r1 (Heap.IsSliceOf.new ..) pl pu q3
 show wpAny (model X.prog X.w) X.A (subscriptTail e (.Slice lo hi none p2) v (.ref s3.heap.objs.size)) (EP X pins σ Q) X.xe { s3 with heap := s3.heap.push { cls := .type "slice", data := .fields #[vl, vu, .none] } }
 exact tail_any (ops := [.ref s3.heap.objs.size, v]) ht hT hg (by with_unfolding_all rfl)
def j5 (xs : List V) (lo hi : Option Int) : List V := (xs.drop (HT.sIx xs.length 0 lo)).take (HT.sIx xs.length xs.length hi - HT.sIx xs.length 0 lo)
theorem Z2 (xs : List V) (lo hi : Option Int) : (j5 xs lo hi).length <= xs.length := by
 unfold j5
 rw [List.length_take, List.length_drop]
 omega
def rSlT (K : PySem.W.Frag) : V -> Option Int -> Option Int -> Hp -> VK -> Prop := fun x lo hi H Q => ∃ a xs, x = .ref a /\ SqT K H a xs /\
 ¬ (HT.sIx xs.length 0 lo = 0 /\ HT.sIx xs.length xs.length hi = xs.length) /\ ∀ p, H p = none -> Q (.ref p) (upd H p (.tup (j5 xs lo hi)))
theorem sl_tup : SlR X (rSlT X.K) := by
 intro pins s σ H x v vl vu lo hi sl Q I rx hs pl pu h
 obtain ⟨a, xs, rfl, hx, hw, q⟩ := h
 cases rx
 obtain ⟨its, r, ht, hz⟩ := I.tuple hx
 have hlen : its.toArray.size = xs.length := by rw [List.size_toArray]; exact r.length.symm
 refine ⟨"tuple", _, PyProof.Rows.slot_tuple_getitem.lookup, ht.typeIs, ?_⟩
 refine HT.getItem_tuple_cut ht hs pl pu (by rw [hlen]; exact hw) ?_ (by rw [hlen]; exact hz)
 rw [hlen]
 refine ⟨.ref s.heap.objs.size, _, I.laid (t' := s.toks) (o := .tup (j5 xs lo hi)) (fun b ob q => Heap.get?_push_of_some _ q) (Nat.le_refl _) ?_, rfl, q _ (I.hok.fresh (Nat.le_refl _))⟩
 exact ⟨Nat.le_trans (Z2 xs lo hi) hz, _, (r.drop (HT.sIx xs.length 0 lo)).take (HT.sIx xs.length xs.length hi - HT.sIx xs.length 0 lo), PTup.new _ _⟩
def rCatT (K : PySem.W.Frag) : R2 := fun x y H Q => ∃ a b xs ys, x = .ref a /\ y = .ref b /\ SqT K H a xs /\ SqT K H b ys /\ xs ≠ [] /\ xs.length + ys.length <= sizeLine /\
 (ys = [] -> Q (.ref a) H) /\ (ys ≠ [] -> ∀ p, H p = none -> Q (.ref p) (upd H p (.tup (xs ++ ys))))
theorem qe.nil_iff {xs : List V} {us : List Value} (r : qe xs us) : us = [] ↔ xs = [] := by
 cases r with
 | nil => simp
 | cons _ _ => simp
theorem op_catT : OpR X (binaryOp .Add) (rCatT X.K) := by
 intro pins s σ H x y v u Q I rx ry h
 obtain ⟨a, b, xs, ys, rfl, rfl, ha, hb, hx, hz, q1, q2⟩ := h
 cases rx
 cases ry
 obtain ⟨its, r1, p1, _⟩ := I.tuple ha
 obtain ⟨its2, r2, p2, _⟩ := I.tuple hb
 refine HT.cat_tup p1 p2 (fun z => hx (r1.nil_iff.mp z)) (fun z => ⟨.ref a, H, I, rfl, q1 (r2.nil_iff.mp z)⟩) (fun z => ?_) (by rw [<- r1.length, <- r2.length]; exact hz)
 refine ⟨.ref s.heap.objs.size, _, I.laid (t' := s.toks) (o := .tup (xs ++ ys)) (fun b ob q => Heap.get?_push_of_some _ q) (Nat.le_refl _) ?_, rfl, q2 (fun w => z (r2.nil_iff.mpr w)) _ (I.hok.fresh (Nat.le_refl _))⟩
 exact ⟨by rw [List.length_append]; exact hz, _, r1.append r2, PTup.new _ _⟩
end
end L2
namespace L2
open PySem PySem.Spec PyProof.Rows
def ixN (n : Nat) (i : Int) : Option Nat := if 0 <= i then (if i < n then some i.toNat else none) else if -(n : Int) <= i then some (i + n).toNat else none
def atI {α : Type} (xs : List α) (i : Int) : Option α := (ixN xs.length i).bind fun j => xs[j]?
theorem yT {n : Nat} {i : Int} {j : Nat} (h : ixN n i = some j) : seqIndex? i n = some j /\ j < n /\ -(n : Int) <= i /\ i < n := by
 unfold ixN at h
 by_cases h0 : 0 <= i
 ·rw [if_pos h0] at h
  by_cases h1 : i < n
  ·rw [if_pos h1] at h
   have e : i.toNat = j := Option.some.inj h
   exact ⟨by rw [seqIndex_of h0 h1, e], by omega, by omega, h1⟩
  ·rw [if_neg h1] at h; cases h
 ·rw [if_neg h0] at h
  by_cases h1 : -(n : Int) <= i
  ·rw [if_pos h1] at h
   have e : (i + n).toNat = j := Option.some.inj h
   exact ⟨by rw [seqIndex_neg (by omega) h1, e], by omega, h1, by omega⟩
  ·rw [if_neg h1] at h; cases h
theorem wG {α : Type} {xs : List α} {i : Int} {v : α} (h : atI xs i = some v) : ∃ j, seqIndex? i xs.length = some j /\ xs[j]? = some v /\ j < xs.length /\ -(xs.length : Int) <= i /\ i < xs.length := by
 unfold atI at h
 cases e : ixN xs.length i with
 | none => rw [e] at h; cases h
 | some j =>
  rw [e] at h
  obtain ⟨h1, h2, h3, h4⟩ := yT e
  exact ⟨j, h1, h, h2, h3, h4⟩
theorem qC {α : Type} {xs : List α} {j : Nat} {v : α} (h : xs[j]? = some v) : atI xs (j : Int) = some v := by
 have hj : j < xs.length := (List.getElem?_eq_some_iff.mp h).1
 have e : ixN xs.length (j : Int) = some j := by
  unfold ixN
  rw [if_pos (by omega), if_pos (by omega)]; simp
 unfold atI; rw [e]; exact h
theorem Wx {α : Type} (xs : List α) (v : α) : atI (xs ++ [v]) (-1) = some v := by
 have hl : (xs ++ [v]).length = xs.length + 1 := by simp
 have e : ixN (xs ++ [v]).length (-1) = some xs.length := by
  unfold ixN
  rw [hl, if_neg (by decide), if_pos (by omega)]
  congr 1
  omega
 unfold atI
 rw [e]
 show (xs ++ [v])[xs.length]? = some v
 simp
def PlainIx (b : Expr) : Prop := ∀ o i, subscripted b false o i = operate [o, i] (getItem o i)
def IxR (X : Cx) (r : R2) : Prop :=
 ∀ (value slice : Expr) (pins : List (Addr × Obj)) (s : Shared) (σ : St) (H : Hp) (x y : V) (v u : Value) (Q : VK), Inv X pins σ H s -> RelV x v -> RelV y u -> r x y H Q ->
  subscripted slice false v u = operate [v, u] (getItem v u) -> wpAny (model X.prog X.w) X.A (subscriptTail value slice v u) (EP X pins σ Q) X.xe s
def MtR (X : Cx) (id : String) (r : V -> List V -> Hp -> VK -> Prop) : Prop :=
 ∀ (pins : List (Addr × Obj)) (s : Shared) (σ : St) (H : Hp) (x : V) (xs : List V) (v : Value) (us : List Value) (Q : VK), Inv X pins σ H s -> RelV x v -> qe xs us -> r x xs H Q ->
  wpAny (model X.prog X.w) X.A (call (.builtin id) (v :: us)) (EP X pins σ Q) X.xe s
section
variable {X : Cx} {a b : Expr} {ta tb : TE} {pos : Pos}
theorem IxR.or {r r' : R2} (h : IxR X r) (h' : IxR X r') : IxR X (fun x y H Q => r x y H Q \/ r' x y H Q) := by
 intro value slice pins s σ H x y v u Q I rx ry q hs
 rcases q with q | q
 ·exact h value slice pins s σ H x y v u Q I rx ry q hs
 ·exact h' value slice pins s σ H x y v u Q I rx ry q hs
theorem zQ {r : R2} (hr : IxR X r) (ha : PE X a ta) (hb : PE X b tb) (hs : PlainIx b) : PE X (.Subscript a b pos) (tOp r ta tb) := by
 intro pins s σ H Q I h
 exact Subscript_ (binT ha hb I h fun v u s2 x y H2 I2 rx ry q => hr a b pins s2 σ H2 x y v u Q I2 rx ry q (hs _ _))
def rIxL (K : PySem.W.Frag) : R2 := fun x y H Q => ∃ p xs i v, x = .ref p /\ y = .int i /\ SqL K H p xs /\ atI xs i = some v /\ Q v H
def rIxT (K : PySem.W.Frag) : R2 := fun x y H Q => ∃ p xs i v, x = .ref p /\ y = .int i /\ SqT K H p xs /\ atI xs i = some v /\ Q v H
def rIxS : R2 := fun x y H Q => ∃ z i c, x = .str z /\ y = .int i /\ z.length <= sizeLine /\ atI z.cps.toList i = some c /\ Q (.str ⟨#[c]⟩) H
theorem ix_list : IxR X (rIxL X.K) := by
 intro value slice pins s σ H x y v u Q I rx ry h hs
 obtain ⟨p, xs, i, z, rfl, rfl, hq, he, q⟩ := h
 cases rx
 obtain ⟨t, rfl⟩ := ry
 obtain ⟨its, r, pl, hz⟩ := I.list hq
 obtain ⟨j, h1, h2, h3, h4, h5⟩ := wG he
 obtain ⟨w, ew, rw'⟩ := r.get h2
 have hl := r.length
 have hn := JD
 have fin : EP X pins σ Q w s := ⟨z, H, I, rw', q⟩
 by_cases h0 : 0 <= i
 ·have hj : i.toNat = j := by
   rw [seqIndex_of h0 h5] at h1
   exact Option.some.inj h1
  exact item_listR pl.isList h0 (by omega) (by rw [hj]; simpa using ew) fin hs
 ·have hj : (i + (its.toArray.size : Int)).toNat = j := by
   rw [seqIndex_neg (by omega) h4] at h1
   rw [List.size_toArray, <- hl]
   exact Option.some.inj h1
  exact subscriptTail_builtinR (x := w) pl.isList.typeIs slot_list_getitem.lookup
   (wpAny_getItem_list_neg (Q := fun r s' => r = w /\ EP X pins σ Q r s') pl.isList (by omega) (by rw [List.size_toArray] <;> omega) (by omega) (by rw [hj]; simpa using ew) ⟨rfl, fin⟩) hs
theorem ix_tup : IxR X (rIxT X.K) := by
 intro value slice pins s σ H x y v u Q I rx ry h hs
 obtain ⟨p, xs, i, z, rfl, rfl, hq, he, q⟩ := h
 cases rx
 obtain ⟨t, rfl⟩ := ry
 obtain ⟨its, r, pl, hz⟩ := I.tuple hq
 obtain ⟨j, h1, h2, h3, h4, h5⟩ := wG he
 obtain ⟨w, ew, rw'⟩ := r.get h2
 have hl := r.length
 have hn := JD
 have fin : EP X pins σ Q w s := ⟨z, H, I, rw', q⟩
 exact subscriptTail_builtinR (x := w) pl.typeIs slot_tuple_getitem.lookup
  (getItem_tuple (j := j) (Q := fun r s' => r = w /\ EP X pins σ Q r s') pl (by omega) (by omega) (by rw [List.size_toArray, <- hl]; exact h1) (by simpa using ew) ⟨rfl, fin⟩) hs
theorem ix_str : IxR X rIxS := by
 intro value slice pins s σ H x y v u Q I rx ry h hs
 obtain ⟨z, i, c, rfl, rfl, hz, he, q⟩ := h
 obtain ⟨t, rfl⟩ := rx
 obtain ⟨t', rfl⟩ := ry
 obtain ⟨j, h1, h2, h3, h4, h5⟩ := wG he
 have hl : z.cps.toList.length = z.length := by simp [Str.length]
 rw [hl] at h1 h4 h5
 have hn := JD
 exact tail_any (typeIs_str s z t) slot_str_getitem.lookup (getItem_str (c := c) (by
  have e1 : decide (i < -(2 ^ 63 : Int)) = false := decide_eq_false (by omega)
  have e2 : decide (i ≥ 2 ^ 63) = false := decide_eq_false (by omega)
  rw [e1, e2, Bool.or_false]) (by rw [h1]; simpa using h2) ⟨.str ⟨#[c]⟩, H, I.tok _, ⟨_, rfl⟩, q⟩) hs
def rIx (K : PySem.W.Frag) : R2 := fun x y H Q => rIxL K x y H Q \/ rIxT K x y H Q \/ rIxS x y H Q
theorem ix_seq : IxR X (rIx X.K) := ix_list.or (ix_tup.or ix_str)
theorem WX (its : List Value) (n j : Nat) (u : Value) : Obj.mapSeq (·.setIfInBounds j u) { cls := .type "list", data := .seq its.toArray n } = { cls := .type "list", data := .seq (its.set j u).toArray n } := by
 simp [Obj.mapSeq]
theorem Inv.lst {pins : List (Addr × Obj)} {σ : St} {H : Hp} {s : Shared} {p : Addr} {xs : List V} (I : Inv X pins σ H s) (h : H p = some (.lst xs)) :
  ∃ (its : List Value) (n : Nat), qe xs its /\ s.heap.get? p = some { cls := .type "list", data := .seq its.toArray n } /\ xs.length <= sizeLine := by
 obtain ⟨z, its, n, r, e⟩ := I.hok p _ h
 exact ⟨its, n, r, e, z⟩
theorem Inv.lstUpd {pins : List (Addr × Obj)} {σ : St} {H : Hp} {s : Shared} {p : Addr} {xs ys : List V} {its its' : List Value} {n n' : Nat} {f : Obj -> Obj} (I : Inv X pins σ H s) (h : H p = some (.lst xs))
  (ho : s.heap.get? p = some { cls := .type "list", data := .seq its.toArray n }) (hf : f { cls := .type "list", data := .seq its.toArray n } = { cls := .type "list", data := .seq its'.toArray n' }) (r : qe ys its') (hz : ys.length <= sizeLine) (t : Nat) :
  Inv X pins σ (upd H p (.lst ys)) { s with heap := s.heap.update p f, toks := t } := by
 have e : (s.heap.update p f).get? p = some { cls := .type "list", data := .seq its'.toArray n' } := by
  rw [Heap.get?_update_self f ho (by rw [hf] <;> rfl), hf]
 refine I.write (x := p) (e := p) (by rw [h]; trivial) (.inl rfl) (fun b u hb q => (Heap.get?_update_other _ _ (Ne.symm hb)).trans q) ⟨_, e⟩ ?_
 exact ⟨hz, its', n', r, e⟩
def rSetL : V -> V -> V -> Hp -> (Hp -> Prop) -> Prop := fun o i v H Q => ∃ p xs k j, o = .ref p /\ i = .int k /\ H p = some (.lst xs) /\ ixN xs.length k = some j /\ Q (upd H p (.lst (xs.set j v)))
theorem Wy : PSet X rSetL := by
 intro pins s σ H o i v ov iv u Q I ro ri rv h
 obtain ⟨p, xs, k, j, rfl, rfl, hp, hj, q⟩ := h
 cases ro
 obtain ⟨t, rfl⟩ := ri
 obtain ⟨its, n, r, ho, hz⟩ := I.lst hp
 obtain ⟨h1, h2, h3, h4⟩ := yT hj
 have hl := r.length
 have hn := JD
 have I' : Inv X pins σ (upd H p (.lst (xs.set j v))) { s with heap := s.heap.update p (Obj.mapSeq (·.setIfInBounds j u)) } :=
  I.lstUpd hp ho (WX its n j u) (r.set rv j) (by rw [List.length_set]; exact hz) s.toks
 by_cases h0 : 0 <= k
 ·have hk : k.toNat = j := by
   rw [seqIndex_of h0 h4] at h1
   exact Option.some.inj h1
  exact PySem.W.ki_setAt ho h0 (by omega) (by rw [List.size_toArray, <- hl]; exact h4) (by rw [hk]; exact ⟨_, I', q⟩)
 ·have hk : (k + (its.toArray.size : Int)).toNat = j := by
   rw [seqIndex_neg (by omega) h3] at h1
   rw [List.size_toArray, <- hl]
   exact Option.some.inj h1
  exact PySem.W.ki_setBack ho (by omega) (by rw [List.size_toArray, <- hl]; exact h3) (by omega) (by rw [hk]; exact ⟨_, I', q⟩)
theorem JJ (lo hi : Option Int) (n : Nat) : (sliceBounds lo hi none n).1 = ((HT.sIx n 0 lo : Nat) : Int) /\ (sliceBounds lo hi none n).2.1 = ((HT.sIx n n hi : Nat) : Int) /\ (sliceBounds lo hi none n).2.2 = 1 := by
 refine ⟨?_, ?_, rfl⟩
 ·cases lo with
  | none => simp [sliceBounds, HT.sIx]
  | some i =>
   simp only [sliceBounds, HT.sIx, Option.getD_none, show (1 : Int) > 0 by decide, if_true]
   by_cases h : i < 0
   ·simp only [h, if_true] <;> omega
   ·simp only [h, if_false] <;> omega
 ·cases hi with
  | none => simp [sliceBounds, HT.sIx]
  | some i =>
   simp only [sliceBounds, HT.sIx, Option.getD_none, show (1 : Int) > 0 by decide, if_true]
   by_cases h : i < 0
   ·simp only [h, if_true] <;> omega
   ·simp only [h, if_false] <;> omega
theorem Q1 (its : List Value) (lo hi : Option Int) : slicePick its.toArray lo hi none = ((its.drop (HT.sIx its.length 0 lo)).take (HT.sIx its.length its.length hi - HT.sIx its.length 0 lo)).toArray := by
 obtain ⟨h1, h2, h3⟩ := JJ lo hi its.toArray.size
 unfold slicePick
 rw [h1, h2, h3]
 simp only [sliceRange_one, pick_run, List.size_toArray] <;> rfl
def rSlL (K : PySem.W.Frag) : V -> Option Int -> Option Int -> Hp -> VK -> Prop := fun x lo hi H Q => ∃ a xs, x = .ref a /\ SqL K H a xs /\ ∀ p, H p = none -> Q (.ref p) (upd H p (.lst (j5 xs lo hi)))
theorem sl_list : SlR X (rSlL X.K) := by
 intro pins s σ H x v vl vu lo hi sl Q I rx hs pl pu h
 obtain ⟨a, xs, rfl, hx, q⟩ := h
 cases rx
 obtain ⟨its, r, ht, hz⟩ := I.list hx
 have hlen := r.length
 refine ⟨"list", _, slot_list_getitem.lookup, ht.isList.typeIs, ?_⟩
 refine wpAny_getItem_list_slice ht.isList hs pl pu .none (by simp) ?_ (by rw [List.size_toArray] <;> omega)
 rw [Q1, <- hlen]
 refine ⟨.ref s.heap.objs.size, _, I.laid (t' := s.toks) (o := .lst (j5 xs lo hi)) (fun b ob q => Heap.get?_push_of_some _ q) (Nat.le_refl _) ?_, rfl, q _ (I.hok.fresh (Nat.le_refl _))⟩
 exact ⟨Nat.le_trans (Z2 xs lo hi) hz, _, 0, (r.drop (HT.sIx xs.length 0 lo)).take (HT.sIx xs.length xs.length hi - HT.sIx xs.length 0 lo), Heap.get?_push_size _ rfl⟩
def Zh : V -> Bool
 | .non => true
 | .bl _ => true
 | .int _ => true
 | .str _ => true
 | _ => false
def eqV : V -> V -> Bool
 | .non, .non => true
 | .bl a, .bl b => a == b
 | .bl a, .int b => (if a then 1 else 0) == b
 | .int a, .bl b => a == (if b then 1 else 0)
 | .int a, .int b => a == b
 | .str a, .str b => a == b
 | _, _ => false
theorem yU {A : Around} {s : Shared} {y x : V} {u v : Value} (ry : RelV y u) (rx : RelV x v) (fy : Zh y = true) (fx : Zh x = true) : SeqAt.EqAt A s u v (eqV y x) := by
 cases y with
 | non =>
  cases ry
  cases x with
  | non => cases rx; exact SeqAt.EqAt.same _
  | bl b => cases rx; exact SeqAt.EqAt.none_bool b
  | int b => obtain ⟨t, rfl⟩ := rx; exact SeqAt.EqAt.none_int b t
  | str b => obtain ⟨t, rfl⟩ := rx; exact SeqAt.EqAt.none_str b t
  | _ => exact absurd (show false = true from fx) Bool.false_ne_true
 | bl a =>
  cases ry
  cases x with
  | non => cases rx; exact SeqAt.EqAt.bool_none a
  | bl b => cases rx; exact SeqAt.EqAt.bool_bool a b
  | int b => obtain ⟨t, rfl⟩ := rx; exact SeqAt.EqAt.bool_int a b t
  | str b => obtain ⟨t, rfl⟩ := rx; exact SeqAt.EqAt.bool_str a b t
  | _ => exact absurd (show false = true from fx) Bool.false_ne_true
 | int a =>
  obtain ⟨t', rfl⟩ := ry
  cases x with
  | non => cases rx; exact SeqAt.EqAt.int_none a t'
  | bl b => cases rx; exact SeqAt.EqAt.int_bool a t' b
  | int b => obtain ⟨t, rfl⟩ := rx; exact SeqAt.EqAt.int_int a t' b t
  | str b => obtain ⟨t, rfl⟩ := rx; exact SeqAt.EqAt.int_str a t' b t
  | _ => exact absurd (show false = true from fx) Bool.false_ne_true
 | str a =>
  obtain ⟨t', rfl⟩ := ry
  cases x with
  | non => cases rx; exact SeqAt.EqAt.str_none a t'
  | bl b => cases rx; exact SeqAt.EqAt.str_bool a t' b
  | int b => obtain ⟨t, rfl⟩ := rx; exact SeqAt.EqAt.str_int a t' b t
  | str b => obtain ⟨t, rfl⟩ := rx; exact SeqAt.EqAt.str_str a t' b t
  | _ => exact absurd (show false = true from fx) Bool.false_ne_true
 | _ => exact absurd (show false = true from fy) Bool.false_ne_true
theorem JK : qZ X (.type "list") (fun xs H Q => ∃ p ys, xs = [.ref p] /\ (SqL X.K H p ys \/ SqT X.K H p ys) /\ ∀ l, H l = none -> Q (.ref l) (upd H l (.lst ys))) := by
 intro pins s σ H xs us Q I r h
 obtain ⟨p, ys, rfl, hq, q⟩ := h
 obtain ⟨u, rfl, rx⟩ := vals1 r
 cases rx
 have fin : ∀ (its : List Value), qe ys its -> ys.length <= sizeLine -> ∀ (h' : Heap) (c' : Nat), (∀ b o', s.heap.get? b = some o' -> h'.get? b = some o') ->
   h'.get? s.heap.objs.size = some { cls := .type "list", dict := none, data := .seq its.toArray c', slots := #[] } -> EP X pins σ Q (.ref s.heap.objs.size) { s with heap := h' } := fun its r' hz h' c' kp e =>
  ⟨.ref s.heap.objs.size, _, I.laid (t' := s.toks) kp (Nat.le_refl _) (show qc X.prog X.w _ h' _ (.lst ys) from ⟨hz, its, c', r', e⟩), rfl, q _ (I.hok.fresh (Nat.le_refl _))⟩
 rcases hq with hq | hq
 ·obtain ⟨its, r', pl, hz⟩ := I.list hq
  have hlen := r'.length
  obtain ⟨o, ho, hc, n, hd⟩ := pl.isList
  exact call_list_seq p (.inl rfl) ho hc hd (fun h' c' kp e => fin its r' hz h' c' kp e) (by simp only [List.size_toArray] <;> omega)
 ·obtain ⟨its, r', pl, hz⟩ := I.tuple hq
  have hlen := r'.length
  obtain ⟨o, ho, hc, n, hd⟩ := pl
  exact call_list_seq p (.inr rfl) ho hc hd (fun h' c' kp e => fin its r' hz h' c' kp e) (by simp only [List.size_toArray] <;> omega)
theorem Q2 : qZ X (.type "tuple") (fun xs H Q => ∃ p ys, xs = [.ref p] /\ ((SqL X.K H p ys /\ ∀ l, H l = none -> Q (.ref l) (upd H l (.tup ys))) \/ (SqT X.K H p ys /\ Q (.ref p) H))) := by
 intro pins s σ H xs us Q I r h
 obtain ⟨p, ys, rfl, h⟩ := h
 obtain ⟨u, rfl, rx⟩ := vals1 r
 cases rx
 rcases h with ⟨hq, q⟩ | ⟨hq, q⟩
 ·obtain ⟨its, r', pl, hz⟩ := I.list hq
  have hlen := r'.length
  refine call_tuple_list pl.isList (fun h' kp => ?_) (by simp only [List.size_toArray] <;> omega)
  have I1 : Inv X pins σ H { s with heap := h' } := I.kept (t' := s.toks) kp
  have I2 : Inv X pins σ (upd H h'.objs.size (.tup ys)) { s with heap := h'.push { cls := .type "tuple", data := .seq its.toArray } } :=
   I1.laid (t' := s.toks) (fun b o e => Heap.get?_push_of_some _ e) (Nat.le_refl _) (show qc X.prog X.w _ _ _ (.tup ys) from ⟨hz, its, r', PTup.new _ _⟩)
  exact ⟨.ref h'.objs.size, _, I2, rfl, q _ (I1.hok.fresh (Nat.le_refl _))⟩
 ·obtain ⟨its, r', pl, hz⟩ := I.tuple hq
  exact call_tuple_same pl ⟨.ref p, H, I, rfl, q⟩
def tyV (K : PySem.W.Frag) (T : String) (x : V) (H : Hp) : Prop := match x with
 | .str _ => T = "str"
 | .int _ => T = "int"
 | .ref p => (T = "list" /\ ∃ xs, SqL K H p xs) \/ (T = "tuple" /\ ∃ o, K.lookup p = some o /\ o.cls = .type "tuple" /\ o.dict = none) \/
   (T = "dict" /\ ((∃ kvs, H p = some (.dK kvs)) \/ ∃ kvs, H p = some (.dT kvs))) \/ (T = "set" /\ ∃ S n, H p = some (.set S n)) \/ (T = "tuple" /\ ∃ xs, H p = some (.tup xs))
 | _ => False
theorem yV {pins : List (Addr × Obj)} {σ : St} {H : Hp} {s : Shared} {T : String} {x : V} {v : Value} (I : Inv X pins σ H s) (r : RelV x v) (ty : tyV X.K T x H) :
  s.TypeIs v T /\ ∀ a, v = .ref a -> ∃ ob, s.heap.get? a = some ob /\ ob.dict = none := by
 cases x with
 | str z =>
  obtain ⟨t, rfl⟩ := r
  cases (show T = "str" from ty)
  exact ⟨typeIs_str s z t, fun _ e => nomatch e⟩
 | int i =>
  obtain ⟨t, rfl⟩ := r
  cases (show T = "int" from ty)
  exact ⟨typeIs_int s i t, fun _ e => nomatch e⟩
 | ref p =>
  cases r
  rcases ty with ⟨rfl, xs, hq⟩ | ⟨rfl, o, hk, hc, hd⟩ | ⟨rfl, hk⟩ | ⟨rfl, S, n, hk⟩ | ⟨rfl, xs, hk⟩
  rotate_left 4
  ·obtain ⟨_, its, _, o, e, c, _, hd⟩ := I.hok p _ hk
   exact ⟨⟨o, e, c⟩, fun a e2 => by cases e2; exact ⟨o, e, hd⟩⟩
  ·obtain ⟨its, _, pl, _⟩ := I.list hq
   refine ⟨pl.isList.typeIs, fun a e => ?_⟩
   cases e
   obtain ⟨o, n, e, c, hd, _⟩ := pl
   exact ⟨o, e, hd⟩
  ·refine ⟨⟨o, I.kIn p o hk, hc⟩, fun a e => ?_⟩
   cases e
   exact ⟨o, I.kIn _ o hk, hd⟩
  ·have z : ∃ o, s.heap.get? p = some o /\ o.ExactDict := by
    rcases hk with ⟨kvs, hk⟩ | ⟨kvs, hk⟩
    ·obtain ⟨_, _, _, _, o, _, _, e, ex, _⟩ := I.hok p _ hk
     exact ⟨o, e, ex⟩
    ·obtain ⟨_, _, _, _, o, _, _, e, ex, _⟩ := I.hok p _ hk
     exact ⟨o, e, ex⟩
   obtain ⟨o, e, ex⟩ := z
   refine ⟨⟨o, e, ex.1⟩, fun a e2 => ?_⟩
   cases e2
   exact ⟨o, e, ex.2.1⟩
  ·obtain ⟨o, _, _, _, e, ex, _⟩ := I.hok p _ hk
   refine ⟨⟨o, e, ex.1⟩, fun a e2 => ?_⟩
   cases e2
   exact ⟨o, e, ex.2.1⟩
 | _ => exact False.elim ty
def tBM0 (K : PySem.W.Frag) (T : String) (r : V -> List V -> Hp -> VK -> Prop) (to : TE) : TE := fun σ H Q => to σ H fun x H1 => tyV K T x H1 /\ r x [] H1 Q
def tBM (K : PySem.W.Frag) (T : String) (r : V -> List V -> Hp -> VK -> Prop) (to : TE) (t : TA) : TE := fun σ H Q => to σ H fun x H1 => tyV K T x H1 /\ t σ H1 fun xs H2 => r x xs H2 Q
variable {o e : Expr} {es : List Expr} {to : TE} {t : TA} {name : Str} {apos cpos : Pos} {T id : String} {r : V -> List V -> Hp -> VK -> Prop}
theorem pe_bm0 (pa : PlainAttrs T) (slot : Slot T name id) (hty : typeOf (.builtin id) = pure (.type "method_descriptor")) (hm : MtR X id r) (ho : PE X o to)
  (hbase : attributeBase o name X.env (eval o X.env) = eval o X.env := by rfl) (hline : (apos.endLine == cpos.line) = true := by rfl) : PE X (.Call (.Attribute o name apos) [] [] cpos) (tBM0 X.K T r to) := by
 intro pins s σ H Q I h
 refine wpAny_Call_method0_late hbase hline (thn (ho pins s σ H _ I h) fun v s1 ⟨x, H1, I1, r1, ty, q1⟩ => ?_)
 obtain ⟨h1, h2⟩ := yV I1 r1 ty
 exact ⟨T, id, pa, slot, hty, h1, h2, Calls.callWith_builtin rfl (PySem.evalArgs_none (hm pins s1 σ H1 x [] v [] Q I1 r1 .nil q1))⟩
theorem pe_bm (pa : PlainAttrs T) (slot : Slot T name id) (hty : typeOf (.builtin id) = pure (.type "method_descriptor")) (hm : MtR X id r) (ho : PE X o to) (ha : PA X (e :: es) t)
  (hbase : attributeBase o name X.env (eval o X.env) = eval o X.env := by rfl)
  (hfew : ((backTo cpos (starEach (e :: es) X.env)).all (fun x => !x.1) && (backToKw cpos (keywordEach [] X.env)).all (fun x => x.1.isSome)
   && decide ((e :: es).length + ([] : List Keyword).length + (if ([] : List Keyword).isEmpty then 0 else 1) < 30)) = true := by rfl)
  (hline : (apos.endLine == cpos.line) = true := by rfl) (hs : starEach (e :: es) X.env = (false, eval e X.env) :: starEach es X.env := by rfl) (hplain : (backTo cpos (starEach es X.env)).any (·.1) = false := by rfl) :
  PE X (.Call (.Attribute o name apos) (e :: es) [] cpos) (tBM X.K T r to t) := by
 intro pins s σ H Q I h
 refine wpAny_Call_method_late hbase hfew hline rfl (thn (ho pins s σ H _ I h) fun v s1 ⟨x, H1, I1, r1, ty, q1⟩ => ?_)
 obtain ⟨h1, h2⟩ := yV I1 r1 ty
 refine ⟨T, id, pa, slot, hty, h1, h2, ?_⟩
 have hA := ha cpos pins s1 σ H1 _ I1 q1
 rw [hs] at hA ⊢
 refine Calls.callWith_builtin (by show (false || (backTo cpos (starEach es X.env)).any (·.1)) = false; rw [hplain] <;> rfl) (Calls.evalArgs_plain ?_)
 exact thn hA fun us s2 ⟨vs, H2, I2, r2, q2⟩ => hm pins s2 σ H2 x vs v us Q I2 r1 r2 q2
/- xs.append(e), list.index on a module's tuple .. are MtR facts of 06m -/
end
end L2
namespace L2
open PySem PySem.Spec PyProof.Rows
def MtM (X : Cx) (id : String) (r : V -> List V -> Hp -> VK -> Prop) : Prop :=
 ∀ (pins : List (Addr × Obj)) (s : Shared) (σ : St) (H : Hp) (x : V) (xs : List V) (v : Value) (us : List Value) (Q : VK), Inv X pins σ H s -> RelV x v -> qe xs us -> r x xs H Q ->
  wpAny (model X.prog X.w) X.A (call (.builtin id) (v :: us)) (EP X pins σ Q) X.xe s
theorem qe.one : ∀ {x : V} {us : List Value}, qe [x] us -> ∃ u, us = [u] /\ RelV x u
 | _, _, .cons r .nil => ⟨_, rfl, r⟩
theorem qe.zero : ∀ {us : List Value}, qe [] us -> us = []
 | _, .nil => rfl
theorem qe.dropLast {xs : List V} {us : List Value} (h : qe xs us) : qe xs.dropLast us.dropLast := by
 induction h with
 | nil => exact .nil
 | cons r t ih =>
  cases t with
  | nil => exact .nil
  | cons q t' => exact .cons r ih
theorem qe.rep {xs : List V} {us : List Value} (h : qe xs us) : ∀ k : Nat, qe (List.replicate k xs).flatten (List.replicate k us).flatten
 | 0 => .nil
 | k + 1 => by
  rw [List.replicate_succ, List.replicate_succ, List.flatten_cons, List.flatten_cons]
  exact qe.append h (qe.rep h k)
theorem WY {α : Type} (l : List α) : l.eraseIdx (l.length - 1) = l.dropLast := by
 induction l with
 | nil => rfl
 | cons a r ih =>
  cases r with
  | nil => rfl
  | cons b r =>
   have e : (a :: b :: r).length - 1 = ((b :: r).length - 1) + 1 := by
    have h1 : (a :: b :: r).length = r.length + 2 := rfl
    have h2 : (b :: r).length = r.length + 1 := rfl
    omega
   rw [e, List.eraseIdx_cons_succ, ih]
   all_goals rfl
theorem JL (its : List Value) : ∀ (k : Nat) (acc : List Value),
  List.foldl (fun x1 x2 => x1 ++ x2) acc.toArray (List.replicate k its.toArray) = (acc ++ (List.replicate k its).flatten).toArray
 | 0, acc => by simp
 | k + 1, acc => by
  have e : acc.toArray ++ its.toArray = (acc ++ its).toArray := by simp
  have e2 : (acc ++ its) ++ (List.replicate k its).flatten = acc ++ (List.replicate (k + 1) its).flatten := by
   rw [List.replicate_succ, List.flatten_cons, List.append_assoc]
  rw [<- e2, <- JL its k (acc ++ its), <- e, List.replicate_succ, List.foldl_cons]
section
variable {X : Cx} {pins : List (Addr × Obj)} {σ : St} {H : Hp} {s : Shared} {l b : Addr} {xs ys zs : List V}
theorem Inv.lset {its its' : List Value} {n : Nat} {f : Array Value -> Array Value} {t' : Nat} (I : Inv X pins σ H s) (hH : H l = some (.lst xs))
  (e : s.heap.get? l = some { cls := .type "list", data := .seq its.toArray n }) (hf : f its.toArray = its'.toArray) (hv : qe ys its') (hz : ys.length <= sizeLine) :
  Inv X pins σ (upd H l (.lst ys)) { s with heap := s.heap.update l (Obj.mapSeq f), toks := t' } := by
 have q := PySem.IsL.update e f
 rw [hf] at q
 refine I.write (x := l) (e := l) (by rw [hH]; exact trivial) (.inl rfl) (fun b' u hb hu => (Heap.get?_update_other s.heap (Obj.mapSeq f) (Ne.symm hb)).trans hu) ⟨_, q⟩ ?_
 exact ⟨hz, its', _, hv, q⟩
theorem Inv.lnew {its : List Value} {t' : Nat} (I : Inv X pins σ H s) (hv : qe ys its) (hz : ys.length <= sizeLine) :
  Inv X pins σ (upd H s.heap.objs.size (.lst ys)) { s with heap := s.heap.push { cls := .type "list", data := .seq its.toArray }, toks := t' } :=
 I.laid (fun _ _ q => Heap.get?_push_of_some _ q) (Nat.le_refl _) ⟨hz, its, 0, hv, Heap.get?_push_size _ rfl⟩
theorem Inv.fresh (I : Inv X pins σ H s) : H s.heap.objs.size = none := I.hok.fresh (Nat.le_refl _)
theorem Inv.lstM (I : Inv X pins σ H s) (hH : H l = some (.lst xs)) : xs.length <= sizeLine /\ ∃ (its : List Value) (n : Nat), qe xs its /\ xs.length = its.length /\ s.heap.get? l = some { cls := .type "list", data := .seq its.toArray n } := by
 obtain ⟨z, its, n, r, e⟩ := I.hok l _ hH
 exact ⟨z, its, n, r, r.length, e⟩
theorem notLongL {n : Nat} (h : n <= sizeLine) : Builtin.List.listTooLong n = false := by
 unfold Builtin.List.listTooLong
 exact decide_eq_false (by omega)
end
section
variable {X : Cx}
def rAppend : V -> List V -> Hp -> VK -> Prop := fun x vs H Q => ∃ l xs y, x = .ref l /\ vs = [y] /\ H l = some (.lst xs) /\ xs.length < sizeLine /\ Q .non (upd H l (.lst (xs ++ [y])))
theorem qE : MtM X "list.append" rAppend := by
 intro pins s σ H x vs v us Q I rx rv h
 obtain ⟨l, xs, y, rfl, rfl, hH, hz, q⟩ := h
 cases rx
 obtain ⟨u, rfl, ru⟩ := rv.one
 obtain ⟨z, its, n, r, hl, e⟩ := I.lstM hH
 refine call_meets F.slot_list_append ⟨_, e, rfl⟩ F.entry_list_append (F.args_list_append_2 _ _) (PySem.list_append l its.toArray n u (by rw [List.size_toArray]; omega)) ⟨e, ?_⟩
 refine ⟨.non, _, I.lset (its' := its ++ [u]) hH e (by simp) (r.append (.cons ru .nil)) ?_, rfl, q⟩
 rw [List.length_append, List.length_singleton]
 omega
def rExtend : V -> List V -> Hp -> VK -> Prop := fun x vs H Q => ∃ l b xs zs, x = .ref l /\ vs = [.ref b] /\ H l = some (.lst xs) /\ H b = some (.lst zs) /\ xs.length + zs.length <= sizeLine /\ Q .non (upd H l (.lst (xs ++ zs)))
theorem Z3 : MtM X "list.extend" rExtend := by
 intro pins s σ H x vs v us Q I rx rv h
 obtain ⟨l, b, xs, zs, rfl, rfl, hH, hB, hz, q⟩ := h
 cases rx
 obtain ⟨u, rfl, ru⟩ := rv.one
 cases ru
 obtain ⟨z, its, n, r, hl, e⟩ := I.lstM hH
 obtain ⟨z2, its2, n2, r2, hl2, e2⟩ := I.lstM hB
 have hsz : its.toArray.size + its2.toArray.size <= sizeLine := by rw [List.size_toArray, List.size_toArray]; omega
 have hlong : ¬ (!its.toArray.isEmpty && Builtin.List.listTooLong (its.toArray.size + its2.toArray.size)) = true := by
  rw [notLongL hsz, Bool.and_false]
  exact Bool.false_ne_true
 refine call_meets F.slot_list_extend ⟨_, e, rfl⟩ F.entry_list_extend (F.args_list_extend_2 _ _)
  (AutoSeq1.list_extend_list_list_0 l its.toArray n b its2.toArray n2 hlong (by rw [List.size_toArray]; omega) (by omega)) ⟨e, e2, ?_⟩
 refine ⟨.non, _, I.lset (its' := its ++ its2) hH e (by simp) (r.append r2) ?_, rfl, q⟩
 rw [List.length_append]
 omega
def rPop : V -> List V -> Hp -> VK -> Prop := fun x vs H Q => ∃ l xs y, x = .ref l /\ vs = [] /\ H l = some (.lst xs) /\ xs[xs.length - 1]? = some y /\ Q y (upd H l (.lst xs.dropLast))
theorem mt_pop : MtM X "list.pop" rPop := by
 intro pins s σ H x vs v us Q I rx rv h
 obtain ⟨l, xs, y, rfl, rfl, hH, hy, q⟩ := h
 cases rx
 have hus := rv.zero
 subst hus
 obtain ⟨z, its, n, r, hl, e⟩ := I.lstM hH
 obtain ⟨u, hu, ru⟩ := r.get hy
 have hy' : its.toArray[its.toArray.size - 1]? = some u := by
  show its.toArray[its.length - 1]? = some u
  rw [<- Array.getElem?_toList, <- hl]
  exact hu
 refine call_meets F.slot_list_pop ⟨_, e, rfl⟩ F.entry_list_pop (F.args_list_pop_1 _) (MeetsSeq.list_pop_last l its.toArray n u hy' (by rw [List.size_toArray]; omega)) ⟨e, ?_⟩
 refine ⟨y, _, I.lset (its' := its.dropLast) hH e ?_ r.dropLast ?_, ru, q⟩
 ·show its.toArray.eraseIdxIfInBounds (its.toArray.size - 1) = its.dropLast.toArray
  rw [List.size_toArray, List.eraseIdxIfInBounds_toArray, WY]
 ·rw [List.length_dropLast]
  omega
def rCat : R2 := fun x y H Q => ∃ l b xs zs, x = .ref l /\ y = .ref b /\ H l = some (.lst xs) /\ H b = some (.lst zs) /\ xs.length + zs.length <= sizeLine /\ ∀ p, H p = none -> Q (.ref p) (upd H p (.lst (xs ++ zs)))
theorem op_cat : OpR X (binaryOp .Add) rCat := by
 intro pins s σ H x y v u Q I rx ry h
 obtain ⟨l, b, xs, zs, rfl, rfl, hH, hB, hz, q⟩ := h
 cases rx
 cases ry
 obtain ⟨z, its, n, r, hl, e⟩ := I.lstM hH
 obtain ⟨z2, its2, n2, r2, hl2, e2⟩ := I.lstM hB
 refine PySem.P.add_list e e2 ?_ (by rw [List.size_toArray, List.size_toArray]; omega)
 have ea : its.toArray ++ its2.toArray = (its ++ its2).toArray := by simp
 rw [ea]
 exact ⟨.ref _, _, I.lnew (t' := s.toks) (r.append r2) (by rw [List.length_append]; omega), rfl, q _ I.fresh⟩
theorem len_rep {α : Type} (xs : List α) (k : Nat) : (List.replicate k xs).flatten.length = k * xs.length := by
 induction k with
 | zero => simp
 | succ k ih => rw [List.replicate_succ, List.flatten_cons, List.length_append, ih, Nat.succ_mul, Nat.add_comm]
end
section
variable {prog : Program} {w : World} {A : Around} {E : Value -> Shared -> Prop} {s : Shared}
set_option maxRecDepth 100000 in
end
section
variable {X : Cx}
end
end L2
namespace Att
open PySem PySem.W PySem.Calls PyProof.Rows
theorem ints_of_wellAll {P : Params} {h : Heap} : ∀ (ns : List Int) (vs : List Value), WellAll P h vs (ns.map WData.int) -> IntsAre vs ns := by
 intro ns
 induction ns with
 | nil =>
  intro vs w
  rw [List.map_nil] at w
  cases w
  exact .nil
 | cons n ns ih =>
  intro vs w
  rw [List.map_cons] at w
  cases w with
  | cons a b =>
   cases a
   exact .cons _ _ (ih _ b)
theorem script_of {l : OpenLaw} {n : Nat} (hn : l.most = some n) {P : Params} {h : Heap} {args : List WData} {vals : List Value}
  (hpre : l.row.toRowW.claim.pre args = true) (hwl : WellAll P h vals args) :
  ∃ a vs ns, vals = [Value.ref a] /\ args = [WData.list (ns.map WData.int)] /\ h.get? a = some { cls := .type "list", data := .seq vs.toArray } /\ IntsAre vs ns /\ ns.length <= n := by
 have hsh : WShape.hasAll [] args [.list .int] = true := (pre_splitW hpre).1
 have hc : l.pre.holds [] { args := args } = true := (pre_splitW hpre).2
 obtain ⟨d, r, rfl, h1, h2⟩ := hasAllW_cons hsh
 obtain rfl := hasAllW_nil h2
 obtain ⟨xs, rfl, h3⟩ := hasW_list h1
 obtain ⟨ns, rfl⟩ := items_int h3
 have hlen : ns.length <= n := by
  unfold OpenLaw.pre at hc
  have h4 : (WTm.not (.lt (.lit (.int (n : Int))) (.len (.arg 0)))).holds [] { args := [.list (ns.map .int)] } = true := by
   have h4 := (holds_andW hc).1
   rw [hn] at h4
   exact h4
  have h5 := condW_of h4 (w_not (w_lt w_lit (w_len_list (w_arg rfl))))
  rw [List.length_map] at h5
  refine Nat.le_of_not_lt fun q => ?_
  have q' : (n : Int) < ((ns.length : Nat) : Int) := by omega
  first
   | (rw [decide_eq_true q'] at h5; exact absurd h5 (by decide))
   | (simp at h5; omega)
 cases hwl with
 | cons w1 w2 =>
  cases w2
  cases w1 with
  | list ho hall => exact ⟨_, _, ns, rfl, rfl, ho, ints_of_wellAll ns _ hall, hlen⟩
theorem post_true (l : OpenLaw) (args : List WData) : l.row.toRowW.claim.post args (.bool true) args = true :=
 postW_of (r := l.row.toRowW) (X := (true == true))
  (show WShape.has [] (.bool true) .bool = true by first | rfl | decide | simp [WShape.has, WShape.arms, WShape.armsAll])
  (show (WTm.eq .res (.lit (.bool true))).value [] { args := args, res := some (.bool true), after := args } = some (.bool (true == true)) from w_eq_bool (w_res rfl) w_lit) rfl
theorem attach_call {l : OpenLaw} {n : Nat} {q : Program} {loose : List Str} {XP : (Str -> Option Value) -> Heap -> Prop} {YP : World -> Heap -> Prop} {d : DefRec}
  (hn : l.most = some n) (hdf : d.params.defaults = [])
  (call : ∀ (w : World) (s₀ s₁ : Shared) (mg mb : Str -> Option Value) (fa : Addr) (o : Obj) (pm cd doc : Value) (a : Addr) (vs : List Value) (ns : List Int),
   Ground q loose [] XP w s₀ mg mb s₁.heap -> YP w s₁.heap ->
   s₁.heap.get? fa = some o -> o.data = .func (docDef d.name d.params d.body d.scope pm cd doc) -> s₁.heap.CodeRec cd d.name -> mg d.name = some (.ref fa) ->
   s₁.heap.get? a = some { cls := .type "list", data := .seq vs.toArray } -> IntsAre vs ns -> ns.length <= n -> s₁.gens = #[] ->
   codeAny (model l.prog w) callerA (.call (.ref fa) ⟨[.ref a], []⟩) (fun r s' => r = .ok (.ret (.bool true)) /\ OldK s₁.heap s'.heap /\ s'.os = s₁.os /\ AllBare s'.gens) s₁) :
  WalkO q loose XP YP l.row.toRowW d [] (fun f vs => PySem.call f vs) := by
 intro w s₀ s₁ mg mb G Y fa o pm cd doc dV kV ho hd hcd hD hmg hg args vals as hpre hlay hrd hwl hlo
 obtain rfl : dV = .none := Dflts.none hD hdf
 obtain rfl : kV = .none := Dflts.noKw hD
 obtain ⟨a, vs, ns, rfl, rfl, hobj, hints, hlen⟩ := script_of hn hpre hwl
 refine enter_call (codeAny_mono (call w s₀ s₁ mg mb fa o pm cd doc a vs ns G Y ho (fd_plain hd) hcd hmg hobj hints hlen hg) fun r s' hq => ?_)
 obtain ⟨rfl, h2, h3, h4⟩ := hq
 exact ⟨.inl ⟨.bool true, .bool true, [], rfl, fun _ => rfl, .bool true, post_true l _, fun _ => ⟨List.Pairwise.nil, fun _ hm => (nomatch hm)⟩⟩, h2, h3, h4⟩
section
variable {prog : Program} {w : World} {A : Around} {E : Value -> Shared -> Prop} {s : Shared} {K : Frag}
end
end Att
namespace L2
open PySem PySem.Spec PyProof.Rows
theorem JM : ∀ {vs : List Value} {ns : List Int}, IntsAre vs ns -> qe (ns.map V.int) vs
 | _, _, .nil => .nil
 | _, _, .cons n t h => .cons ⟨t, rfl⟩ (JM h)
def Only (H : Hp) : Prop := ∀ b, H b = none \/ ∃ o xs, H b = some (.frz o (.lst xs))
theorem law_call {P : Program} {w : World} {K : PySem.W.Frag} {mg mb : Str -> Option Value} {CX : CXT} {k : Nat} {fa a : Addr} {fd : FuncData} {x : Str} {sp : Sp} {s₁ : Shared} {vs : List Value} {ns : List Int}
  (KX : K.In s₁.heap) (hns : s₁.heap.Ns mainGlobals mg) (hb : s₁.heap.Ns builtinsNs mb) (hbb : ∀ x : Str, x ≠ "__name__" -> mb x = bootBuiltins x) (hlim : s₁.heap.NoLimit) (hg : s₁.gens = #[])
  (ha : s₁.heap.get? a = some { cls := .type "list", data := .seq vs.toArray }) (hi : IntsAre vs ns) (hl : ns.length <= sizeLine) (hr : Zj k callerA)
  (F : ∀ base : Heap, K.In base -> base.Ns mainGlobals mg -> jY P w K mg base CX k fa fd [x] sp) (hbind : ∀ (s : Shared) (u : Value), BindsTo s fd ⟨[u], []⟩ [(x, u)])
  (hsp : ∀ H : Hp, Only H -> SqL K H a (ns.map V.int) -> sp [.ref a] H (fun v _ => v = .bl true) fun _ _ _ => False)
  (hCX : ∀ H e s', CX [] H s₁ (fun _ _ _ => False) e s' -> False) :
  codeAny (model P w) callerA (.call (.ref fa) ⟨[.ref a], []⟩) (fun r s' => r = .ok (.ret (.bool true)) /\ OldK s₁.heap s'.heap /\ s'.os = s₁.os /\ AllBare s'.gens) s₁ := by
 have rv := JM hi
 have lenV := hi.length
 -- from an abstract heap in which nothing but the script may be tracked
 have core : ∀ H : Hp, Only H -> SqL K H a (ns.map V.int) -> HOk P w H s₁.heap -> (∀ b, H b ≠ none -> b = a) -> (H a ≠ none -> K.lookup a = none) ->
   codeAny (model P w) callerA (.call (.ref fa) ⟨[.ref a], []⟩) (fun r s' => r = .ok (.ret (.bool true)) /\ OldK s₁.heap s'.heap /\ s'.os = s₁.os /\ AllBare s'.gens) s₁ := by
  intro H hO hS hok hA hK
  have base_of : ∀ {b : Addr} {o : Obj}, s₁.heap.get? b = some o -> H b = none -> (hidT s₁.heap H).get? b = some o := fun e n => hidT_get e n
  have noA : ∀ {b : Addr} {o : Obj} {es : Array DictEntry} {ep : Nat}, s₁.heap.get? b = some o -> o.data = .dict es ep -> H b = none := fun {b o es ep} e d => by
   cases q : H b with
   | none => rfl
   | some u =>
    have e' : b = a := hA b (by rw [q]; simp)
    subst e'
    rw [ha] at e; cases e
    have d' : Data.seq vs.toArray _ = Data.dict es ep := d
    cases d'
  have nsK : ∀ {b : Addr} {m : Str -> Option Value}, s₁.heap.Ns b m -> (hidT s₁.heap H).Ns b m := fun {b m} ⟨o, es, ep, e, d, r⟩ => ⟨o, es, ep, base_of e (noA e d), d, r⟩
  have hKb : K.In (hidT s₁.heap H) := fun b o e => base_of (KX b o e) (by
   cases q : H b with
   | none => rfl
   | some u =>
    have e' : b = a := hA b (by rw [q]; simp)
    subst e'
    rw [hK (by rw [q]; simp)] at e; cases e)
  have hM : Mod K mg (hidT s₁.heap H) := ⟨hKb, nsK hns, ⟨mb, nsK hb, hbb⟩, let ⟨mc, h1, h2⟩ := hlim; ⟨mc, nsK h1, h2⟩⟩
  have e0 : Env0 P w K mg (hidT s₁.heap H) callerA [] s₁ H := ⟨rfl, hM, fun b o e => of_hidT e, Nat.le_of_eq (yB _ _), trivial, fun b hb => absurd (show b ∈ ([] : List Addr) from hb) (by simp), hok, .of_eq hg⟩
  refine codeAny_mono ((F _ hKb (nsK hns)).run callerA [] s₁ H ⟨[.ref a], []⟩ [.ref a] [.ref a] _ _ hr e0 (hbind s₁ (.ref a)) (.cons rfl .nil) (hsp H hO hS)) fun r s' h => ?_
  cases r with
  | error e => exact (hCX H e s' h).elim
  | ok fl =>
   cases fl with
   | next => exact False.elim h
   | brk => exact False.elim h
   | cont => exact False.elim h
   | ret u =>
    obtain ⟨v, H', os, bare, un, hok', r', q⟩ := h
    have q' : v = .bl true := q
    subst q'
    obtain rfl : u = Value.bool true := r'
    refine ⟨rfl, OldK.of_keep fun b o e => ?_, os, bare⟩
    cases q : H b with
    | none => exact un.keep b o e q (by intro z; exact absurd (show b ∈ ([] : List Addr) from z) (by simp)) (by simp)
    | some u =>
     rcases hO b with z | ⟨ob, xs, z⟩
     ·rw [q] at z; cases z
     ·have z2 := un.frzs b ob _ z
      obtain ⟨e1, _⟩ := hok b _ z
      obtain ⟨e2, _⟩ := hok' b _ z2
      rw [e] at e1; cases e1
      exact e2
 cases hk : K.lookup a with
 | some o =>
  -- the script is one of the module's own objects
  have e := KX a o hk
  rw [ha] at e
  cases e
  refine core (fun _ => none) (fun _ => .inl rfl) (.inr ⟨_, vs.toArray, _, hk, rfl, rfl, rfl, by rw [List.size_toArray, lenV]; exact hl, by simpa using rv⟩) (fun b u z => by have z' : (none : Option HO) = some u := z; cases z') (fun b z => absurd rfl z) fun z => absurd rfl z
 | none =>
  refine core (fun b => if b = a then some (.frz { cls := .type "list", data := .seq vs.toArray } (.lst (ns.map V.int))) else none) (fun b => ?_) (.inl (.inr ⟨{ cls := .type "list", data := .seq vs.toArray }, if_pos rfl⟩)) (fun b u z => ?_) (fun b z => ?_) fun _ => hk
  ·by_cases hb : b = a
   ·exact .inr ⟨_, _, if_pos hb⟩
   ·exact .inl (if_neg hb)
  ·by_cases hb : b = a
   ·have z' := (if_pos hb).symm.trans z
    cases z'
    subst hb
    exact ⟨ha, by rw [List.length_map]; exact hl, vs, _, rv, ha⟩
   ·have z' := (if_neg hb).symm.trans z
    cases z'
  ·by_cases hb : b = a
   ·exact hb
   ·exact absurd (if_neg hb) z
end L2
namespace L2
open PySem PySem.Spec PyProof.Rows
theorem yW {l : PySem.W.OpenLaw} {n k : Nat} {q : Program} {loose : List Str} {XP : (Str -> Option Value) -> Heap -> Prop} {YP : World -> Heap -> Prop} {d : DefRec} {K : Params -> PySem.W.Frag} {CX : World -> CXT} {sp : World -> Sp} {x : Str}
  (hn : l.most = some n) (hn2 : n <= sizeLine) (hdf : d.params.defaults = []) (hr : Zj k callerA)
  (hY : ∀ (w : World) (h : Heap), YP w h -> (K w.params).In h)
  (F : ∀ (w : World) (mg : Str -> Option Value) (fa : Addr) (h : Heap), (K w.params).In h -> h.Ns mainGlobals mg -> mg d.name = some (.ref fa) ->
   ∃ fd : FuncData, (∀ (s : Shared) (u : Value), BindsTo s fd ⟨[u], []⟩ [(x, u)]) /\
    ∀ base : Heap, (K w.params).In base -> base.Ns mainGlobals mg -> jY l.prog w (K w.params) mg base (CX w) k fa fd [x] (sp w))
  (hsp : ∀ (w : World) (H : Hp) (a : Addr) (ns : List Int), ns.length <= n -> Only H -> SqL (K w.params) H a (ns.map V.int) -> sp w [.ref a] H (fun v _ => v = .bl true) fun _ _ _ => False)
  (hCX : ∀ (w : World) (H : Hp) (s : Shared) (e : Value) (s' : Shared), CX w [] H s (fun _ _ _ => False) e s' -> False) :
  PySem.W.WalkO q loose XP YP l.row.toRowW d [] (fun f vs => PySem.call f vs) := by
 refine Att.attach_call hn hdf fun w s₀ s₁ mg mb fa o pm cd doc a vs ns G Y ho hd hcd hmg hobj hints hlen hg => ?_
 have KX := hY w _ Y
 obtain ⟨fd, hb, hF⟩ := F w mg fa _ KX G.T.g hmg
 exact law_call KX G.T.g G.T.b G.T.builtins G.T.nolimit hg hobj hints (Nat.le_trans hlen hn2) hr hF hb (fun H hO hS => hsp w H a ns hlen hO hS) fun H e s' => hCX w H s₁ e s'
end L2
/- THE LAST THEOREM (shape; LID, My.* are yours):
   My.Adr: a structure of the addresses that your layer names (classes, functions); My.Txt K t: a structure (Prop) of the equations over K;
   My.txt_mk : {K} {implicit addresses ..} (e1 : nsIn K mainGlobals "law" = some (some (.ref f))) (e2 : K.lookup f = some ⟨oc, od, .func (fnOf "law" "law" params body scope dV kV doc pm an cdv ct), sl⟩) (e3 : codeIn K cdv "law" = true) .. : ∃ t, My.Txt K t
set_option maxRecDepth 100000 in
set_option maxHeartbeats 0 in
theorem PySem.Challenge.cw_LID_holds : PySem.Challenge.rw_LID.Holds := by
 w_on; o_law; k_head; (case hw => w_witness2)
 k_fill
 refine L2.yW (l := PySem.Challenge.rw_LID) (n := 63) (k := 40) (x := "script") (CX := fun w => ..) (sp := fun _ => My.sp_law) rfl (by decide) rfl ⟨rfl, by decide, by decide⟩ (fun w h Y => PySem.W.kIn_of Y) ?F ?S ?C
 case F =>
  intro w mg fa h KX G hmg
  have T : ∃ t, My.Txt (L2.KOf KX) t := by
   dsimp only [L2.KOf]                          -- K must stand as «<heap const> w.params» for k_is
   refine' My.txt_mk ?e1 ?e2 ?e3 ..
   (case e1 => PySem.W.k_is)                    -- in the order: a name -> its address -> its object -> its parts
   (case e2 => PySem.W.k_is)
   ..
  obtain ⟨t, T⟩ := T
  have e0 := hmg.symm.trans (PySem.W.mg_of KX G T.law)
  cases e0                                       -- fa is the law's own address
  exact ⟨_, fun s u => .of_eq rfl, fun base kb nb => My.law_fn T kb nb⟩     -- if «.of_eq rfl» comes too early: refine' ⟨_, ?b, fun base kb nb => My.law_fn T kb nb⟩; exact fun s u => .of_eq rfl
 case S => exact fun w H a ns hl hO hS => ..
 case C => exact ..
(the tactic k_is has no namespace: write k_is) -/
namespace L2
open PySem PySem.Spec PyProof.Rows
def zG (s : Stmt) : Arguments := match s with
 | .FunctionDef _ a _ _ _ _ _ _ _ _ => a
 | _ => { posonlyargs := [], args := [], vararg := none, kwonlyargs := [], kw_defaults := [], kwarg := none, defaults := [] }
def zB (s : Stmt) : List Stmt := match s with
 | .FunctionDef _ _ b _ _ _ _ _ _ _ => b
 | _ => []
def zg (s : Stmt) : Scope := match s with
 | .FunctionDef _ _ _ _ _ _ sc _ _ _ => sc
 | _ => { kind := .function, names := [], isGenerator := false, isCoroutine := false }
abbrev CX0 : CXT := fun _ _ _ _ _ _ => False
abbrev E0 : XK := fun _ _ _ => False
theorem pass0 {X : Cx} : yR CX0 X E0 := fun _ _ _ _ _ _ _ h => h.elim
structure Fun (K : PySem.W.Frag) (x qual : Str) (st : Stmt) (f : Addr) (fd : FuncData) : Prop where
 ex : ∃ (oc : Value) (od : Option Addr) (kV doc pm : Value) (an : Option Addr) (cdv ct : Value) (osl : Array (Option Value)),
  fd = PySem.W.fnOf x qual (zG st) (zB st) (zg st) .none kV doc pm an cdv ct /\ K.lookup f = some ⟨oc, od, .func fd, osl⟩ /\ PySem.W.codeIn K cdv qual = true
 kp : PySem.W.keepIn K (.ref f) = true
section
variable {P : Program} {w : World} {K : PySem.W.Frag} {mg : Str -> Option Value} {base : Heap}
theorem Fun.ok {x qual : Str} {st : Stmt} {f : Addr} {fd : FuncData} {N ps : List Str} {k : Nat} {sp : Sp} (F : Fun K x qual st f fd) (S : zH N ps (zg st)) (len : ∀ vs H Q E, sp vs H Q E -> vs.length = ps.length)
  (hbody : ∀ (cdv : Value) (A : Around) (outer : List Env) (s : Shared) (H : Hp) (vs : List V) (Q : VK) (E : XK), Zj k (A.deeper (envOfC qual (zg st) s.heap.objs.size f cdv)) -> sp vs H Q E ->
   ∃ t, PSs (cxOf CX0 P w K mg base N qual (zg st) f cdv A outer s H E).nox (zB st) t /\ t { nx := fun _ H' => Q .non H', rt := Q } (start N vs) H) : jY P w K mg base CX0 (k + 1) f fd ps sp := by
 obtain ⟨oc, od, kV, doc, pm, an, cdv, ct, osl, rfl, lk, hcd⟩ := F.ex
 refine fn_of lk hcd S len fun A outer s H vs Q E hr hsp => ?_
 obtain ⟨t, h, q⟩ := hbody cdv A outer s H vs Q E hr hsp
 exact ⟨t, h.nox, q⟩
theorem Fun.binds {x qual : Str} {st : Stmt} {f : Addr} {fd : FuncData} {ps : List Str} (F : Fun K x qual st f fd)
  (h : ∀ (kV doc pm : Value) (an : Option Addr) (cdv ct : Value) (us : List Value), us.length = ps.length -> bindArgs (PySem.W.fnOf x qual (zG st) (zB st) (zg st) .none kV doc pm an cdv ct) ⟨us, []⟩ = pure (ps.zip us)) : Binds K fd ps [] := by
 obtain ⟨oc, od, kV, doc, pm, an, cdv, ct, osl, rfl, lk, hcd⟩ := F.ex
 exact .all (h kV doc pm an cdv ct)
theorem zY {x qual : Str} {st : Stmt} {f : Addr} {oc : Value} {od an : Option Addr} {osl : Array (Option Value)} {kV doc pm cdv ct : Value} (l : K.lookup f = some ⟨oc, od, .func (PySem.W.fnOf x qual (zG st) (zB st) (zg st) .none kV doc pm an cdv ct), osl⟩)
  (c : PySem.W.codeIn K cdv qual = true) (k : PySem.W.keepIn K (.ref f) = true) : Fun K x qual st f (PySem.W.fnOf x qual (zG st) (zB st) (zg st) .none kV doc pm an cdv ct) := ⟨⟨oc, od, kV, doc, pm, an, cdv, ct, osl, rfl, l, c⟩, k⟩
end
theorem hu_of {A : Around} {k : Nat} (hr : Zj k A) : A.units + 1 < cLine := Nat.lt_of_le_of_lt (Nat.add_le_add_left (by decide : 1 <= 64) _) hr.units
theorem zo {n : Nat} (h : n <= 1000) : n < sizeLine := Nat.lt_of_le_of_lt h (by decide)
section
variable {X : Cx}
theorem pv (i : Nat) {x : Str} {pos : Pos} (hN : X.N[i]? = some x := by rfl) (hv : Vis X.env.scope x := by first | exact Or.inl rfl | exact Or.inr (Or.inl rfl) | exact Or.inr (Or.inr rfl)) (hd : (x == ("__debug__" : Str)) = false := by decide)
  (hcd : (x == ("__classdict__" : Str)) = false := by decide) : PE X (.Name x pos) (tVar i) := pe_var hN hv hd hcd
end
theorem Wz {A B : Prop} (h : B) : if false = true then A else B := by
 rw [if_neg Bool.false_ne_true]
 exact h
theorem yv {A B : Prop} (h : A) : if true = true then A else B := by
 rw [if_pos rfl]
 exact h
theorem ite2 {c A B : Prop} [Decidable c] (h1 : c -> A) (h2 : ¬ c -> B) : if c then A else B := by
 by_cases h : c
 ·rw [if_pos h]
  exact h1 h
 ·rw [if_neg h]
  exact h2 h
def zR (H H' : Hp) : Prop := ∀ b o, H b = some o -> H' b = some o
theorem zR.refl (H : Hp) : zR H H := fun _ _ h => h
theorem zR.trans {H H1 H2 : Hp} (a : zR H H1) (b : zR H1 H2) : zR H H2 := fun c o h => b c o (a c o h)
theorem zR.free {H H' : Hp} (e : zR H H') {l : Addr} (h : H' l = Option.none) : H l = Option.none := by
 cases q : H l with
 | none => rfl
 | some o =>
  rw [e l o q] at h
  cases h
theorem zR.seq {K : PySem.W.Frag} {H H' : Hp} {a : Addr} {xs : List V} (e : zR H H') (h : SqL K H a xs) : SqL K H' a xs := by
 rcases h with (h | ⟨o, h⟩) | h
 ·exact .inl (.inl (e _ _ h))
 ·exact .inl (.inr ⟨o, e _ _ h⟩)
 ·exact .inr h
end L2
namespace L2
open PySem PySem.Spec PyProof.Rows
abbrev NoX : Value -> Shared -> Prop := fun _ _ => False
theorem wpX {α : Type} {M : Model} {A : Around} {t : Sem α} {Q : α -> Shared -> Prop} {E : Value -> Shared -> Prop} {s : Shared} (h : wpAny M A t Q NoX s) : wpAny M A t Q E s :=
 wpAny_mono h (fun _ _ q => q) fun _ _ f => f.elim
def yX (ifs : List Expr) (env : Env) : Sem Bool :=
 forIn ifs true fun c r => if r = true then do let ok <- isTrue c env (eval c env); pure (ForInStep.yield ok) else pure (ForInStep.yield r)
theorem Q3 {prog : Program} {w : World} {A : Around} {R : Result -> Shared -> Prop} {s : Shared} {elt tg iter : Expr} {ifs : List Expr} {scope : Scope} {pos : Pos} {it acc : Value} {env : Env} (Iv : Nat -> Shared -> Prop)
  (turn : ∀ n s, Iv n s -> wpAny (model prog w) A (pyNext it) (fun r s1 => match r with
   | none => R (.ok .next) s1
   | some v => wpAny (model prog w) A (letOwnedTupleGo tg it v) (fun _ s2 => wpAny (model prog w) A (assign tg env v) (fun _ s3 => wpAny (model prog w) A (yX ifs env) (fun ok s4 =>
      if ok = true then wpAny (model prog w) A (eval elt env) (fun x s5 => wpAny (model prog w) A (call (.builtin "list.append") [acc, x]) (fun _ s6 => ∃ m, m < n /\ Iv m s6) NoX s5) NoX s4
      else ∃ m, m < n /\ Iv m s4) NoX s3) NoX s2) NoX s1) NoX s)
  (n : Nat) (h : Iv n s) : codeAny (model prog w) A (.compLoop (.ListComp elt [⟨tg, iter, ifs, 0⟩] scope pos) 0 it acc env) R s := by
 refine codeAny_loop rfl Iv (fun n s hI => ?_) n h
 show wpAny (model prog w) A ((compTurn (.ListComp elt [⟨tg, iter, ifs, 0⟩] scope pos) 0 it acc env).onRaise (fun x => do noteFrame x env; theTreesLotGoes x)) _ _ s
 refine wpAny_noted (wpX ?_)
 rw [compTurn_list]
 refine wpAny_bind (wpAny_standAt (wpAny_bind (thn (turn n s hI) fun r s1 h1 => ?_)))
 cases r with
 | none => exact wpAny_pure h1
 | some v =>
  refine wpAny_bind (thn h1 fun _ s2 h2 => wpAny_bind (thn h2 fun _ s3 h3 => wpAny_bind (thn h3 fun ok s4 h4 => ?_)))
  cases ok with
  | false => exact wpAny_pure ⟨rfl, h4⟩
  | true => exact wpAny_bind (wpAny_bind (thn h4 fun x s5 h5 => wpAny_bind (thn h5 fun _ s6 h6 => wpAny_pure (wpAny_pure ⟨rfl, h6⟩))))
def ju (env : Env) (y : Str × NameKind) (cs : List (Str × Addr)) : List (Str × Addr) := if (y.2 == NameKind.free) = true then (y.1, (env.cells.lookup y.1).getD 0) :: cs else cs
def yY (env : Env) (scope : Scope) : List (Str × Addr) := scope.names.foldl (fun c y => ju env y c) []
theorem Z4 {α β : Type} {f : α -> β -> Sem (ForInStep β)} {g : β -> α -> β} : ∀ (l : List α) (c : β), (∀ x ∈ l, ∀ c, f x c = pure (.yield (g c x))) -> forIn l c f = pure (l.foldl g c)
 | [], c, _ => rfl
 | x :: l, c, h => by
  rw [List.forIn_cons, h x List.mem_cons_self, pure_bind]
  exact Z4 l (g c x) fun y hy => h y (List.mem_cons_of_mem _ hy)
theorem QK {env : Env} {scope : Scope} (h : ∀ y ∈ scope.names, y.2 = .free -> ∃ c, env.cells.lookup y.1 = some c) : closureFor scope env = pure (yY env scope) := by
 simp only [closureFor]
 rw [Z4 (g := fun c y => ju env y c) scope.names [] (fun y hy c => ?_)]
 ·rfl
 ·obtain ⟨n, k⟩ := y
  by_cases hk : k = .free
  ·subst hk
   obtain ⟨a, ha⟩ := h _ hy rfl
   have ha' : env.cells.lookup n = some a := ha
   simp [ju, cellOf, ha']
  ·have hb : (k == NameKind.free) = false := by simpa using hk
   simp only [ju, hb, Bool.false_eq_true, if_false]
theorem ZK {env : Env} : ∀ (ns : List (Str × NameKind)) (cs : List (Str × Addr)), (∀ y ∈ ns, y.2 = .free -> ∃ c, env.cells.lookup y.1 = some c) -> (∀ x c, cs.lookup x = some c -> env.cells.lookup x = some c) ->
  ∀ x c, (ns.foldl (fun c y => ju env y c) cs).lookup x = some c -> env.cells.lookup x = some c
 | [], _, _, h => h
 | y :: ns, cs, hf, h => by
  refine ZK ns (ju env y cs) (fun z hz => hf z (List.mem_cons_of_mem _ hz)) fun x c e => ?_
  unfold ju at e
  split at e
  ·rename_i hk
   have hk' : y.2 = .free := by simpa using hk
   obtain ⟨a, ha⟩ := hf y List.mem_cons_self hk'
   rw [List.lookup_cons] at e
   split at e
   ·rename_i hx
    have hx' : x = y.1 := by simpa using hx
    rw [ha] at e
    rw [hx', ha]
    exact e
   ·exact h x c e
  ·exact h x c e
theorem j6 {env : Env} (x : Str) : ∀ (ns : List (Str × NameKind)) (cs : List (Str × Addr)), ((x, NameKind.free) ∈ ns \/ ∃ c, cs.lookup x = some c) -> ∃ c, (ns.foldl (fun c y => ju env y c) cs).lookup x = some c
 | [], _, h => by
  rcases h with h | h
  ·exact absurd h (by simp)
  ·exact h
 | y :: ns, cs, h => by
  refine j6 x ns (ju env y cs) ?_
  rcases h with h | ⟨c, h⟩
  ·rcases List.mem_cons.mp h with e | h
   ·subst e
    exact .inr ⟨(List.lookup x env.cells).getD 0, by simp [ju]⟩
   ·exact .inl h
  ·refine .inr ?_
   unfold ju
   split
   ·rw [List.lookup_cons]
    split
    ·exact ⟨_, rfl⟩
    ·exact ⟨c, h⟩
   ·exact ⟨c, h⟩
def relK (env : Env) (n : Str) (k : NameKind) : NameKind := if (k == NameKind.free && env.scope.kind == .function && env.kindOf n == some .cell) = true then .cell else k
def relP (env : Env) (y : Str × NameKind) : Str × NameKind := if (y.2 == NameKind.free && env.scope.kind == .function && env.kindOf y.1 == some .cell) = true then (y.1, NameKind.cell) else (y.1, y.2)
theorem relP_eq (env : Env) (y : Str × NameKind) : relP env y = (y.1, relK env y.1 y.2) := by
 unfold relP relK
 split <;> rfl
theorem QL {env : Env} (x : Str) : ∀ ns : List (Str × NameKind), (ns.map (relP env)).lookup x = (ns.lookup x).map (relK env x)
 | [] => rfl
 | (n, k) :: r => by
  have ih := QL (env := env) x r
  rw [List.map_cons, relP_eq, List.lookup_cons, List.lookup_cons]
  cases hx : x == n with
  | true =>
   have e : x = n := by simpa using hx
   subst e
   rfl
  | false => exact ih
theorem Zk {env : Env} {scope : Scope} (x : Str) : (relabel scope env).names.lookup x = (scope.names.lookup x).map (relK env x) := QL x scope.names
def capOne (N : List Str) (scope : Scope) (p : Option Nat × Str) : Bool := match p.1 with
 | none => true
 | some j => decide (N[j]? = some p.2) && decide (scope.names.lookup p.2 = some .free)
structure zN (N : List Str) (sc : Scope) (N' : List Str) (ix : List (Option Nat)) (scope : Scope) : Prop where
 kind : scope.kind = .function
 nocell : ∀ y ∈ scope.names, y.2 ≠ .cell
 locs : ∀ y ∈ scope.names, y.2 = .local -> scope.names.lookup y.1 = some .local
 frees : ∀ y ∈ scope.names, y.2 = .free -> (sc.names.lookup y.1 = some .cell \/ sc.names.lookup y.1 = some .free)
 nd : N'.Nodup
 len : ix.length = N'.length
 cap : (ix.zip N').all (capOne N scope) = true
def ixSt (ix : List (Option Nat)) (σ : St) : St := ix.map fun o => o.bind fun i => (σ[i]?).join
def jf (X : Cx) (N' : List Str) (scope : Scope) (C : Addr) (fp : List Addr) (s₀ : Shared) (H₀ : Hp) : Cx where
 prog := X.prog
 w := X.w
 K := X.K
 mg := X.mg
 base := X.base
 A := X.A
 N := N'
 s₀ := s₀
 H₀ := H₀
 env := compEnvC scope (yY X.env scope) C X.env
 outer := X.stack
 stack := X.stack
 ex := fp
 fn := fun _ => false
 calm := X.calm
 pn := []
 xe := NoX
section
variable {X : Cx} {N' : List Str} {ix : List (Option Nat)} {scope : Scope} {pins : List (Addr × Obj)} {σ : St} {H : Hp} {s : Shared} {fp : List Addr}
theorem zN.has (S : zN X.N X.env.scope N' ix scope) (ok : X.Ok) : ∀ y ∈ scope.names, y.2 = .free -> ∃ c, X.env.cells.lookup y.1 = some c := fun y hy hk => ok.has y.1 (S.frees y hy hk)
theorem zN.sub (S : zN X.N X.env.scope N' ix scope) (ok : X.Ok) : ∀ x c, (yY X.env scope).lookup x = some c -> X.env.cells.lookup x = some c :=
 ZK scope.names [] (S.has ok) fun x c e => by simp at e
theorem zN.frK (S : zN X.N X.env.scope N' ix scope) {x : Str} (h : (relabel scope X.env).names.lookup x = some .cell \/ (relabel scope X.env).names.lookup x = some .free) : scope.names.lookup x = some .free := by
 rw [Zk] at h
 cases e : scope.names.lookup x with
 | none => rw [e] at h; simp at h
 | some k =>
  rw [e] at h
  cases k with
  | free => rfl
  | cell => exact absurd rfl (S.nocell _ (PySem.mem_of_lookup e))
  | «local» => simp [relK] at h
  | globalExplicit => simp [relK] at h
  | globalImplicit => simp [relK] at h
theorem WZ {h1 : Heap} {m : Str -> Option Value} {tk : Nat} (S : zN X.N X.env.scope N' ix scope) (I : Inv X pins σ H s) (hf : ∀ b ∈ fp, Wu X pins H b) (hlt : ∀ b ∈ fp, b < s.heap.objs.size)
  (ns : h1.Ns s.heap.objs.size m) (kp : ∀ b o, s.heap.get? b = some o -> h1.get? b = some o) :
  Inv (jf X N' scope s.heap.objs.size fp s H) [] (ixSt ix σ) H { s with heap := h1, toks := tk } := by
 have sub := S.sub I.ok
 have cellS : ∀ x c, (yY X.env scope).lookup x = some c -> c < s.heap.objs.size := fun x c e => by
  obtain ⟨v, q⟩ := I.cell x c (sub x c e)
  exact q.lt
 refine ⟨⟨I.ok.mod, S.kind, I.ok.glob, I.ok.blt, Nat.le_refl _, fun x y c h1 h2 => I.ok.inj x y c (sub x c h1) (sub y c h2), fun x hx => ?_, fun x c z _ => ?_, I.ok.hd, I.ok.frames, .inl rfl, fun b hb => ⟨?_, fun x c e => ?_⟩, I.bs, Nat.le_trans I.ok.bsz I.sz, fun b o e hb => ?_, fun b hb z => ?_, I.stack, I.stkFree⟩,
  rfl, I.bare, Un.kept kp, ⟨m, ns, fun i x v h1 h2 h3 => ?_⟩, fun x c e => ?_, I.hok.fresh (Nat.le_refl _), fun x c e => I.freeC x c (sub x c e), fun p hp => absurd (show p ∈ ([] : List (Addr × Obj)) from hp) (by simp), I.hok.kept kp, ?_⟩
 ·exact j6 x scope.names [] (.inl (PySem.mem_of_lookup (S.frK hx)))
 ·exact absurd (show false = true from z) (by simp)
 ·exact Nat.ne_of_lt (hlt b hb)
 ·exact (hf b hb).2.2.2.2.1 x c (sub x c e)
 ·rcases (hf b hb).2.2.2.1 with z | z
  ·exact I.ok.noex b o e z
  ·exact absurd (Nat.lt_of_lt_of_le (Heap.lt_size e) (Nat.le_trans I.ok.bsz z)) (Nat.lt_irrefl _)
 ·rcases List.mem_cons.mp (I.stkSub b z) with e | e
  ·exact (hf b hb).2.1 e
  ·exact (hf b hb).2.2.1 e
 ·have hi : i < ix.length := by
   have := (List.getElem?_eq_some_iff.mp h1).1
   rw [S.len]; exact this
  have e1 : ix[i]? = some ix[i] := List.getElem?_eq_getElem hi
  have h2' : (ixSt ix σ)[i]? = some (some v) := h2
  rw [ixSt, List.getElem?_map, e1] at h2'
  have h2'' : (ix[i].bind fun j => (σ[j]?).join) = some v := Option.some.inj h2'
  cases ej : ix[i] with
  | none => rw [ej] at h2''; cases h2''
  | some j =>
   rw [ej] at h2''
   have h2j : (σ[j]?).join = some v := h2''
   have hz : (ix[i], x) ∈ ix.zip N' := by
    have ez : (ix.zip N')[i]? = some (ix[i], x) := by rw [List.getElem?_zip_eq_some]; exact ⟨e1, h1⟩
    exact List.mem_of_getElem? ez
   have cq := List.all_eq_true.mp S.cap _ hz
   have cq' : (decide (X.N[j]? = some x) && decide (scope.names.lookup x = some .free)) = true := by
    unfold capOne at cq
    simp only [ej] at cq
    exact cq
   rw [Bool.and_eq_true] at cq'
   have c1 := of_decide_eq_true cq'.1
   have c2 := of_decide_eq_true cq'.2
   have kx : X.env.scope.names.lookup x = some .cell \/ X.env.scope.names.lookup x = some .free := S.frees (x, .free) (PySem.mem_of_lookup c2) rfl
   have hs : σ[j]? = some (some v) := by
    cases q : σ[j]? with
    | none => rw [q] at h2j; cases h2j
    | some o => rw [q] at h2j; have : o = some v := h2j; rw [this]
   obtain ⟨m0, hn0, hl0⟩ := I.loc
   obtain ⟨u, ru, lk⟩ := hl0 j x v c1 hs (kx.elim (fun z => .inr (.inl z)) fun z => .inr (.inr z))
   refine ⟨u, ru, .inr ⟨?_, ?_⟩⟩
   ·show (relabel scope X.env).names.lookup x = some .cell \/ (relabel scope X.env).names.lookup x = some .free
    rw [Zk, c2]
    simp only [Option.map_some, relK]
    split
    ·exact .inl rfl
    ·exact .inr rfl
   ·rcases lk with ⟨k, _⟩ | ⟨_, c, ec, hc⟩
    ·have k' : X.env.scope.names.lookup x = some .local := k
     rw [k'] at kx
     rcases kx with z | z <;> cases z
    ·obtain ⟨c', ec'⟩ := j6 (env := X.env) x scope.names [] (.inl (PySem.mem_of_lookup c2))
     have := sub x c' ec'
     rw [ec] at this; cases this
     exact ⟨c, ec', hc.keeps kp⟩
 ·obtain ⟨v, q⟩ := I.cell x c (sub x c e)
  exact ⟨v, q.keeps kp⟩
 ·show (ixSt ix σ).length = N'.length
  rw [ixSt, List.length_map, S.len]
def PF (X : Cx) (ifs : List Expr) (t : TT) : Prop := ∀ (pins : List (Addr × Obj)) (s : Shared) (σ : St) (H : Hp) (Q : Bool -> Hp -> Prop), Inv X pins σ H s -> t σ H Q -> wpAny (model X.prog X.w) X.A (yX ifs X.env) (TP X pins σ Q) X.xe s
def tYes : TT := fun _ H Q => Q true H
theorem qi : PF X [] tYes := fun _ _ _ H _ I h => wpAny_tests_nil ⟨H, I, h⟩
theorem pf_one {c : Expr} {t : TT} (hc : PT X c t) : PF X [c] t := fun pins s σ H Q I h => wpAny_tests_one (hc pins s σ H Q I h)
def jC (J : It) (g : TG) (tt : TT) (te : TE) (σ0 : St) (H1 : Hp) (Q : VK) (D : Addr) : Prop := ∃ W : Nat -> Nat -> St -> Hp -> Prop, (∃ m, W 0 m σ0 (upd H1 D (.lst []))) /\ ∀ i m σ' H', W i m σ' H' ->
 (J.stop i H' /\ Q (.ref D) H') \/ (J.go i H' /\ ∀ x H2, J.yld i H' x H2 -> g x σ' H2 fun σ2 H3 => tt σ2 H3 fun b H4 =>
  if b = true then te σ2 H4 fun v H5 => ∃ xs, H5 D = some (.lst xs) /\ xs.length < sizeLine /\ ∃ m', m' < m /\ W (i + 1) m' σ2 (upd H5 D (.lst (xs ++ [v]))) else ∃ m', m' < m /\ W (i + 1) m' σ2 H4)
def tComp (ix : List (Option Nat)) (wi : TI) (g : TG) (tt : TT) (te : TE) : TE := fun σ H Q => wi σ H fun J H1 => ∀ D, H1 D = none -> jC J g tt te (ixSt ix σ) H1 Q D
theorem QM {elt tg iter : Expr} {ifs : List Expr} {pos : Pos} {g : TG} {tt : TT} {te : TE} {Q : VK} {Z : Value -> Addr -> Result -> Shared -> Prop} {it : Addr} {tn : Nat -> Heap -> Prop} {J : It}
  (S : zN X.N X.env.scope N' ix scope) (hc : X.calm = true)
  (hg : ∀ C fp s₀ H₀, PG (jf X N' scope C fp s₀ H₀) tg g) (ht : ∀ C fp s₀ H₀, PF (jf X N' scope C fp s₀ H₀) ifs tt) (he : ∀ C fp s₀ H₀, PE (jf X N' scope C fp s₀ H₀) elt te)
  (I : Inv X pins σ H s) (T : Turn X.prog X.w X.K tg J fp it tn) (st : tn 0 s.heap) (hf : ∀ b ∈ fp, Wu X pins H b)
  (h : ∀ D, H D = none -> ∃ W : Nat -> Nat -> St -> Hp -> Prop, (∃ m, W 0 m (ixSt ix σ) (upd H D (.lst []))) /\ ∀ i m σ' H', W i m σ' H' ->
   (J.stop i H' /\ Q (.ref D) H') \/ (J.go i H' /\ ∀ x H2, J.yld i H' x H2 -> g x σ' H2 fun σ2 H3 => tt σ2 H3 fun b H4 =>
    if b = true then te σ2 H4 fun v H5 => ∃ xs, H5 D = some (.lst xs) /\ xs.length < sizeLine /\ ∃ m', m' < m /\ W (i + 1) m' σ2 (upd H5 D (.lst (xs ++ [v]))) else ∃ m', m' < m /\ W (i + 1) m' σ2 H4))
  (hZ : ∀ D C H' s' m, Inv X pins σ H' s' -> s'.heap.Ns C m -> H' C = none -> s.heap.objs.size <= C -> Q (.ref D) H' -> Z (.ref D) C (.ok .next) s') :
  wpAny (model X.prog X.w) X.A (newList []) (fun acc s3 => wpAny (model X.prog X.w) X.A (newFunctionEnv scope X.env.globals (yY X.env scope) [] X.env.qual none .none (some X.env)) (fun cenv s4 =>
   codeAny (model X.prog X.w) X.A (.compStart (.ListComp elt [⟨tg, iter, ifs, 0⟩] scope pos) 0 (.ref it) acc { cenv with scope := relabel scope X.env }) (Z acc cenv.locals) s4) X.xe s3) X.xe s := by
 refine wpAny_newObj_type (wpAny_newFunctionEnv S.nocell (by intro y hy; simp at hy) (fun h1 ns1 sb1 => ?_) S.kind)
 have I3 : Inv X pins σ (upd H s.heap.objs.size (.lst [])) { s with heap := s.heap.push { cls := .type "list", data := .seq ([] : List Value).toArray }, toks := s.toks } := I.lnew (ys := []) (its := []) .nil (Nat.zero_le _)
 generalize hs3 : ({ s with heap := s.heap.push { cls := .type "list", data := .seq ([] : List Value).toArray } } : Shared) = s3 at ns1 sb1 ⊢
 have I3 : Inv X pins σ (upd H s.heap.objs.size (.lst [])) s3 := by rw [<- hs3]; exact I3
 have hsz : s3.heap.objs.size = s.heap.objs.size + 1 := by rw [<- hs3]; exact Heap.size_push _ _
 have st3 : tn 0 s3.heap := by
  rw [<- hs3]
  exact T.keep _ _ _ st fun b _ o e => Heap.get?_push_of_some _ e
 have blw : ∀ b ∈ fp, b < s.heap.objs.size := fun b hb => by
  obtain ⟨o, e, _⟩ := T.obj _ _ st b hb
  exact Heap.lt_size e
 have hf3 : ∀ b ∈ fp, Wu X pins (upd H s.heap.objs.size (.lst [])) b := fun b hb => ⟨by rw [zE (Nat.ne_of_lt (blw b hb))]; exact (hf b hb).1, (hf b hb).2⟩
 obtain ⟨W, ⟨m0, w0⟩, turn⟩ := h s.heap.objs.size I.fresh
 have kp : ∀ b o, s3.heap.get? b = some o -> h1.get? b = some o := fun b o e => (sb1.2 b (Nat.ne_of_lt (Heap.lt_size e))).trans (Heap.get?_push_of_some _ e)
 have J0 := WZ (tk := s3.toks + ([] : List (Str × Value)).length) S I3 hf3 (fun b hb => by rw [hsz]; exact Nat.lt_succ_of_lt (blw b hb)) ns1 kp
 have st4 : tn 0 h1 := T.keep _ _ _ st3 fun b _ o e => kp b o e
 have stat : ∀ {H' : Hp} {pl : List (Addr × Obj)}, (∀ b ∈ fp, H' b = none) -> (∀ b ∈ fp, ∀ p ∈ pl, p.1 ≠ b) -> ∀ b ∈ fp, Wu (jf X N' scope s3.heap.objs.size fp s3 (upd H s.heap.objs.size (.lst []))) pl H' b := fun hn hp b hb =>
  ⟨hn b hb, (J0.ok.exf b hb).1, J0.ok.exfs b hb, .inl hb, (J0.ok.exf b hb).2, fun p q => hp b hb p q⟩
 have loop : codeAny (model X.prog X.w) X.A (.compLoop (.ListComp elt [⟨tg, iter, ifs, 0⟩] scope pos) 0 (.ref it) (.ref s.heap.objs.size) (jf X N' scope s3.heap.objs.size fp s3 (upd H s.heap.objs.size (.lst []))).env) (Z (.ref s.heap.objs.size) s3.heap.objs.size)
   { s3 with heap := h1, toks := s3.toks + ([] : List (Str × Value)).length } := by
  refine Q3 (fun n s' => ∃ i σ' H', Inv (jf X N' scope s3.heap.objs.size fp s3 (upd H s.heap.objs.size (.lst []))) [] σ' H' s' /\ tn i s'.heap /\ (∀ b ∈ fp, H' b = none) /\ W i n σ' H') ?_ m0
   ⟨0, _, _, J0, st4, fun b hb => (hf3 b hb).1, w0⟩
  rintro n s5 ⟨i, σ5, H5, I5, st5, fr5, w5⟩
  rcases turn i n σ5 H5 w5 with ⟨stop, q⟩ | ⟨go, step⟩
  ·refine thn (T.done (jf X N' scope s3.heap.objs.size fp s3 (upd H s.heap.objs.size (.lst []))) rfl rfl rfl hc i [] s5 σ5 H5 NoX I5 (stat (pl := []) fr5 (fun _ _ p hp => absurd hp (by simp))) st5 stop) fun r s6 ⟨hr, I6⟩ => ?_
   subst hr
   have I7 : Inv X pins σ H5 s6 := I3.call' (ch := fp) I6.os I6.base I6.hok I6.bare fun b hb => ⟨(hf3 b hb).2.2.2.1, (hf3 b hb).2.1, (hf3 b hb).2.2.2.2.1, (hf3 b hb).2.2.2.2.2⟩
   obtain ⟨m6, n6, _⟩ := I6.loc
   exact hZ _ _ H5 s6 m6 I7 n6 I6.free (by rw [hsz]; exact Nat.le_succ _) q
  ·refine thn (T.item (jf X N' scope s3.heap.objs.size fp s3 (upd H s.heap.objs.size (.lst []))) rfl rfl rfl hc i [] s5 σ5 H5 NoX I5 (stat (pl := []) fr5 (fun _ _ p hp => absurd hp (by simp))) st5 go) fun r s6 ⟨u, hr, h6⟩ => ?_
   subst hr
   refine thn h6 fun _ s7 ⟨x, H7, I7, r7, y7, st7, fr7⟩ => ?_
   have I7' := I7.pinned (stat (pl := []) fr7 (fun _ _ p hp => absurd hp (by simp))) (T.obj _ _ st7)
   refine thn (hg _ _ _ _ _ s7 σ5 H7 x u _ I7' r7 (step x H7 y7)) fun _ s8 ⟨σ8, H8, I8, q8⟩ => ?_
   refine thn (ht _ _ _ _ _ s8 σ8 H8 _ I8 q8) fun b s9 ⟨H9, I9, q9⟩ => ?_
   have again : ∀ {σ' : St} {H' : Hp} {s' : Shared} {m' : Nat}, Inv (jf X N' scope s3.heap.objs.size fp s3 (upd H s.heap.objs.size (.lst []))) ([] ++ JC fp s7.heap) σ' H' s' -> m' < n -> W (i + 1) m' σ' H' ->
     ∃ m, m < n /\ ∃ i σ' H', Inv (jf X N' scope s3.heap.objs.size fp s3 (upd H s.heap.objs.size (.lst []))) [] σ' H' s' /\ tn i s'.heap /\ (∀ b ∈ fp, H' b = none) /\ W i m σ' H' := fun {σ' H' s' m'} I' hm w' => by
    refine ⟨m', hm, i + 1, σ', H', I'.unpinned, T.keep _ _ _ st7 fun b hb o e => (I'.pin (b, o) (List.mem_append_right _ (List.mem_append_right _ (Zc hb e)))).1, fun b hb => ?_, w'⟩
    obtain ⟨o, e, d⟩ := T.obj _ _ st7 b hb
    exact (I'.pin (b, o) (List.mem_append_right _ (List.mem_append_right _ (Zc hb e)))).2.1
   cases b with
   | false =>
    obtain ⟨m', hm, w'⟩ := (show ∃ m', m' < n /\ W (i + 1) m' σ8 H9 from q9)
    exact again I9 hm w'
   | true =>
    refine thn (he _ _ _ _ _ s9 σ8 H9 _ I9 q9) fun v s10 ⟨y, H10, I10, r10, q10⟩ => ?_
    obtain ⟨xs, hx, hl, m', hm, w'⟩ := q10
    refine thn (qE _ s10 σ8 H10 (.ref s.heap.objs.size) [y] (.ref s.heap.objs.size) [v] (fun _ H' => W (i + 1) m' σ8 H') I10 rfl (.cons r10 .nil) ⟨_, xs, y, rfl, rfl, hx, hl, w'⟩) fun _ s11 ⟨_, H11, I11, _, q11⟩ => ?_
    exact again I11 hm q11
 exact codeAny_compStart_list loop (T.self _ _ _ _ _ st4 loop)
theorem zX {elt tg iter : Expr} {ifs : List Expr} {pos : Pos} {wi : TI} {g : TG} {tt : TT} {te : TE} (S : zN X.N X.env.scope N' ix scope) (hc : X.calm = true) (hi : PI X tg iter wi)
  (hg : ∀ C fp s₀ H₀, PG (jf X N' scope C fp s₀ H₀) tg g) (ht : ∀ C fp s₀ H₀, PF (jf X N' scope C fp s₀ H₀) ifs tt) (he : ∀ C fp s₀ H₀, PE (jf X N' scope C fp s₀ H₀) elt te)
  (hs : ∀ x, foldedSetIterable iter X.env x = pure x := by intro _; rfl) : PE X (.ListComp elt [⟨tg, iter, ifs, 0⟩] scope pos) (tComp ix wi g tt te) := by
 intro pins s σ H Q I h
 rw [eval_ListComp]
 refine wpAny_comprehension_free (use := none) rfl hs (QK (S.has I.ok)) S.kind S.locs (thn (hi pins s σ H _ I h) fun v s1 h1 => thn h1 fun itv s2 h2 => ?_)
 obtain ⟨it, fp, tn, J, H2, e, I2, T, st2, f2, q⟩ := h2
 subst e
 refine QM (Z := fun acc C => compPost (model X.prog X.w) X.A X.xe none (EP X pins σ Q) acc C) S hc hg ht he I2 T st2 f2 q ?_
 intro D C H' s' m I' hn hC hz qD
 refine ⟨m, hn, fun h' sb => ?_⟩
 have I'' : Inv X pins σ H' { s' with heap := h', toks := s'.toks } := I'.turned (it := C) (fun b o hb e => (sb.2 b hb).trans e) hC (fun z => absurd (Nat.lt_of_lt_of_le I2.lt (by rw [<- z]; exact hz)) (Nat.lt_irrefl _))
  (.inr (Nat.le_trans I2.sz hz)) (fun x c e z => by obtain ⟨v, w⟩ := I2.cell x c e; exact absurd (Nat.lt_of_lt_of_le w.lt (by rw [z]; exact hz)) (Nat.lt_irrefl _)) (fun p hp z => absurd (Nat.lt_of_lt_of_le (Heap.lt_size (I2.pin p hp).1) (by rw [z]; exact hz)) (Nat.lt_irrefl _))
 exact ⟨.ref D, H', I'', rfl, qD⟩
theorem jp {i : Nat} {y : Str} {py spos : Pos} {elt tg iter : Expr} {ifs : List Expr} {pos : Pos} {wi : TI} {g : TG} {tt : TT} {te : TE} (S : zN X.N X.env.scope N' ix scope) (hc : X.calm = true) (hi : PI X tg iter wi)
  (hg : ∀ C fp s₀ H₀, PG (jf X N' scope C fp s₀ H₀) tg g) (ht : ∀ C fp s₀ H₀, PF (jf X N' scope C fp s₀ H₀) ifs tt) (he : ∀ C fp s₀ H₀, PE (jf X N' scope C fp s₀ H₀) elt te)
  (hN : X.N.Nodup) (hy : X.N[i]? = some y) (hl : X.env.scope.names.lookup y = some .local) (hsw : swapsWith (.ListComp elt [⟨tg, iter, ifs, 0⟩] scope pos) (some (.Name y py)) spos.line X.env = pure true)
  (hs : ∀ x, foldedSetIterable iter X.env x = pure x := by intro _; rfl) : PS X (.Assign [.Name y py] (.ListComp elt [⟨tg, iter, ifs, 0⟩] scope pos) spos) (tAsg (tComp ix wi g tt te) (jJ i)) := by
 intro pins s σ H D I h
 rw [exec_Assign_Name_used _ _ _ _ hsw]
 refine wpAny_bind (wpAny_standAt (wpAny_bind ?_))
 rw [arm_evalThenUse_ListComp]
 refine wpAny_bind (thn (wpAny_comprehension_free (use := some (assign (.Name y py) X.env)) (Q := fun _ s' => SP X pins D .next s') rfl hs (QK (S.has I.ok)) S.kind S.locs
  (thn (hi pins s σ H _ I h) fun v s1 h1 => thn h1 fun itv s2 h2 => ?_)) fun _ s' q => wpAny_pure (wpAny_pure q))
 obtain ⟨it, fp, tn, J, H2, e, I2, T, st2, f2, q⟩ := h2
 subst e
 refine QM (Q := fun x H1 => jJ i x σ H1 D.nx) (Z := fun acc C => compPost (model X.prog X.w) X.A X.xe (some (assign (.Name y py) X.env)) (fun _ s' => SP X pins D .next s') acc C) S hc hg ht he I2 T st2 f2 q ?_
 intro Dl C H' s' m I' hn hC hz qD
 have neL : C ≠ X.env.locals := fun z => absurd (Nat.lt_of_lt_of_le I2.lt (by rw [<- z]; exact hz)) (Nat.lt_irrefl _)
 have neC : ∀ x c, X.env.cells.lookup x = some c -> c ≠ C := fun x c e z => by obtain ⟨v, w⟩ := I2.cell x c e; exact absurd (Nat.lt_of_lt_of_le w.lt (by rw [z]; exact hz)) (Nat.lt_irrefl _)
 show wpAny (model X.prog X.w) X.A (assign (.Name y py) X.env (.ref Dl)) _ X.xe s'
 refine wpAny_assign_Name (JA I' hN hy (.inl hl) (show RelV (.ref Dl) (.ref Dl) from rfl) (fun s'' J' ⟨a, sb, ha⟩ => ?_) (.inr hl))
 have na : C ≠ a := by
  rcases ha with z | z
  ·rw [z]; exact neL
  ·exact Ne.symm (neC y a z)
 refine ⟨m, hn.sameBut sb na, fun h' sb' => ?_⟩
 have I'' : Inv X pins (σ.set i (some (.ref Dl))) H' { s'' with heap := h', toks := s''.toks } := J'.turned (it := C) (fun b o hb e => (sb'.2 b hb).trans e) hC neL (.inr (Nat.le_trans I2.sz hz)) neC
  (fun p hp z => absurd (Nat.lt_of_lt_of_le (Heap.lt_size (I2.pin p hp).1) (by rw [z]; exact hz)) (Nat.lt_irrefl _))
 exact ⟨_, H', I'', qD⟩
end
end L2
namespace L2
open PySem PySem.Spec PyProof.Rows
theorem bt_abs : bootBuiltins "abs" = some (.builtin "abs") := by decide +kernel
theorem jg : bootBuiltins "len" = some (.builtin "len") := by decide +kernel
theorem yZ : bootBuiltins "all" = some (.builtin "all") := by decide +kernel
theorem Zy : bootBuiltins "isinstance" = some (.builtin "isinstance") := by decide +kernel
theorem bt_int : bootBuiltins "int" = some (.type "int") := by decide +kernel
theorem bt_str : bootBuiltins "str" = some (.type "str") := by decide +kernel
theorem qm : bootBuiltins "tuple" = some (.type "tuple") := by decide +kernel
theorem j7 : bootBuiltins "list" = some (.type "list") := by decide +kernel
def Def (P : Program) (w : World) (K : PySem.W.Frag) (mg : Str -> Option Value) (base : Heap) (k : Nat) (x : Str) (ps : List Str) (sp : Sp) : Prop :=
 ∃ (f : Addr) (fd : FuncData), jY P w K mg base CX0 k f fd ps sp /\ mg x = some (.ref f) /\ PySem.W.keepIn K (.ref f) = true /\ Binds K fd ps []
section
variable {X : Cx}
theorem zr {k k' : Nat} {x : Str} {ps : List Str} {sp : Sp} {e : Expr} {es : List Expr} {t : TA} {p pos : Pos} (D : Def X.prog X.w X.K X.mg X.base k x ps sp) (hr : Zj k' X.A) (hk : k <= k') (hg : Gl X x) (ha : PA X (e :: es) t)
  (hdb : (x == ("__debug__" : Str)) = false := by decide) (he : starEach (e :: es) X.env = (false, eval e X.env) :: starEach es X.env := by rfl) (hpl : (backTo pos (starEach es X.env)).any (·.1) = false := by rfl) :
  PE X (.Call (.Name x p) (e :: es) [] pos) (tCall sp [] E0 t) := by
 obtain ⟨f, fd, F, m, kp, b⟩ := D
 exact pe_call F (hr.mono hk) hg m kp b .nil pass0 ha hdb he hpl
theorem W0 {ys : List Str} : ∀ {us : List Value}, qe (ys.map V.str) us -> StrsAre us ys := by
 induction ys with
 | nil => intro us r; rw [List.map_nil] at r; cases r; exact .nil
 | cons y ys ih =>
  intro us r
  rw [List.map_cons] at r
  cases r with
  | cons r1 r2 =>
   obtain ⟨t, e⟩ := r1
   subst e
   exact .cons y t (ih r2)
theorem y1 : qZ X (.builtin "isinstance") (fun xs H Q => ∃ x n t b, xs = [x, .ty n] /\ Wv X.K H x t /\ PySem.W.kitOne X.K t (.type n) = some b /\ Q (.bl b) H) := by
 intro pins s σ H xs us Q I r h
 obtain ⟨x, n, t, b, rfl, ty, e, q⟩ := h
 obtain ⟨u, w', rfl, r1, r2⟩ := yM r
 cases r2
 exact yQ I r1 ty e fun tk => ⟨.bl b, H, I.tok tk, rfl, q⟩
theorem Q4 {K : PySem.W.Frag} (n : String) : PySem.W.kitOne K (.type n) (.type n) = some true := by simp [PySem.W.kitOne]
def Its (z : Str) : It := ⟨fun i _ => i < z.cps.size, fun i H x H' => H' = H /\ ∃ c, z.cps[i]? = some c /\ x = .str ⟨#[c]⟩, fun i _ => z.cps.size <= i⟩
def iStr (tl : TE) : TI := fun σ H R => tl σ H fun x H1 => ∃ z, x = .str z /\ R (Its z) H1
theorem turn_str {P : Program} {w : World} {K : PySem.W.Frag} {tg : Expr} {z : Str} {tk : Tok} {it : Addr} {ty : String} (hty : ty = "str_ascii_iterator" \/ ty = "str_iterator") :
  Turn P w K tg (Its z) [it] it (fun i h => h.IsStrIter it ty z tk i /\ i <= z.cps.size) where
 mem := by simp
 obj := fun i h st b hb => by
  have e : b = it := by simpa using hb
  subst e
  obtain ⟨⟨o, h1, h2, h3⟩, _⟩ := st
  exact ⟨o, h1, fun v q => by rw [h3] at q; cases q⟩
 keep := fun i h h' st k => by
  obtain ⟨⟨o, h1, h2⟩, h3⟩ := st
  exact ⟨⟨o, k it (by simp) o h1, h2⟩, h3⟩
 item := by
  intro X hP hw hK hc i pins s σ H E I hf st hg
  subst hP hw hK
  obtain ⟨f0, f1, f2, f3, f4, f5⟩ := hf it (by simp)
  have fin : ∀ (v : Value) (h' : Heap) (tk' : Nat), SignAt z i v -> h'.IsStrIter it ty z tk (i + 1) -> (∀ b o, b ∉ [it] -> s.heap.get? b = some o -> h'.get? b = some o) ->
    ∃ u, some v = some u /\ wpAny (model X.prog X.w) X.A (letOwnedTupleGo tg (.ref it) u) (fun _ s2 => ∃ x H', Inv X pins σ H' s2 /\ RelV x u /\ (Its z).yld i H x H' /\ (s2.heap.IsStrIter it ty z tk (i + 1) /\ i + 1 <= z.cps.size) /\ ∀ b ∈ [it], H' b = none) E { s with heap := h', toks := tk' } := by
   intro v h' tk' hv st' kk
   obtain ⟨c, t, hcx, rfl⟩ := hv
   have I1 : Inv X pins σ H { s with heap := h', toks := tk' } := I.turned (fun b o hb e => kk b o (by simpa using hb) e) f0 f1 f3 f4 f5
   obtain ⟨o, h1, h2, h3⟩ := id st'
   refine ⟨_, rfl, yG (s := { s with heap := h', toks := tk' }) (n := ty) h1 h2 h3 ?_ ⟨.str ⟨#[c]⟩, H, I1, ⟨t, rfl⟩, ⟨rfl, c, hcx, rfl⟩, ⟨st', hg⟩, fun b hb => (hf b hb).1⟩⟩
   rcases hty with rfl | rfl <;> decide
  rcases hty with rfl | rfl
  ·exact (Walks.strAscii (I.ok.hd hc) it z tk).item i s _ _ hg st.1 fun v h' tk' hv st' kk => fin v h' tk' hv st' kk
  ·exact (Walks.strWide (I.ok.hd hc) it z tk).item i s _ _ hg st.1 fun v h' tk' hv st' kk => fin v h' tk' hv st' kk
 done := by
  intro X hP hw hK hc i pins s σ H E I hf st hg
  subst hP hw hK
  obtain ⟨f0, f1, f2, f3, f4, f5⟩ := hf it (by simp)
  have e : i = z.cps.size := Nat.le_antisymm st.2 hg
  subst e
  rcases hty with rfl | rfl
  ·exact (Walks.strAscii (I.ok.hd hc) it z tk).done s _ _ st.1 fun h' tk' kk => ⟨rfl, I.turned (fun b o hb e => kk b o (by simpa using hb) e) f0 f1 f3 f4 f5⟩
  ·exact (Walks.strWide (I.ok.hd hc) it z tk).done s _ _ st.1 fun h' tk' kk => ⟨rfl, I.turned (fun b o hb e => kk b o (by simpa using hb) e) f0 f1 f3 f4 f5⟩
 self := fun A i s Q E st h => by
  rcases hty with rfl | rfl
  ·exact wpAny_pyIter_striter_ascii st.1 h
  ·exact wpAny_pyIter_striter_wide st.1 h
theorem pi_str {tg l : Expr} {tl : TE} (hl : PE X l tl) : PI X tg l (iStr tl) := by
 intro pins s σ H R I h
 refine thn (hl pins s σ H _ I h) fun v s1 ⟨x, H1, I1, r1, q1⟩ => ?_
 obtain ⟨z, rfl, q⟩ := q1
 obtain ⟨t, rfl⟩ := r1
 have fin : ∀ ty : String, ty = "str_ascii_iterator" \/ ty = "str_iterator" -> PIE X pins σ tg R (.ref s1.heap.objs.size) { s1 with heap := s1.heap.push { cls := .type ty, data := .fields #[.str z t, .int 0 0] } } := fun ty hty => by
  refine ⟨s1.heap.objs.size, [s1.heap.objs.size], _, _, H1, rfl, I1.kept (t' := s1.toks) fun b o e => Heap.get?_push_of_some _ e, turn_str (z := z) (tk := t) hty, ⟨⟨_, Heap.get?_push_size _ rfl, rfl, rfl⟩, Nat.zero_le _⟩, fun b hb => ?_, q⟩
  have e : b = s1.heap.objs.size := by simpa using hb
  subst e
  exact I1.fpOk (Nat.le_refl _) (I1.hok.fresh (Nat.le_refl _))
 cases ha : z.cps.all (· < 128)
 ·exact wpAny_pyIter_wide ha (fin _ (.inr rfl))
 ·exact wpAny_pyIter_ascii ha (fin _ (.inl rfl))
def rSlS : V -> Option Int -> Option Int -> Hp -> VK -> Prop := fun x lo hi H Q => ∃ z, x = .str z /\ z.length <= sizeLine /\ Q (.str (PySem.Txt.slice z lo hi)) H
theorem sl_str : SlR X rSlS := by
 intro pins s σ H x v vl vu lo hi sl Q I rx hs pl pu h
 obtain ⟨z, rfl, hz, q⟩ := h
 obtain ⟨t, rfl⟩ := rx
 refine ⟨"str", _, F.slot_str_getitem.lookup, typeIs_str _ _ _, ?_⟩
 cases pl with
 | none =>
  cases pu with
  | none => exact wpAny_getItem_str_slice (l := none) (u := none) (st := none) hs rfl (post_val_or_str ⟨Nat.le_trans (PySem.Txt.slice_le z _ _) hz, fun t' k => ⟨.str _, H, I.tok k, ⟨t', rfl⟩, q⟩⟩)
  | int j uj => exact wpAny_getItem_str_slice (l := none) (u := some (j, uj)) (st := none) hs rfl (post_val_or_str ⟨Nat.le_trans (PySem.Txt.slice_le z _ _) hz, fun t' k => ⟨.str _, H, I.tok k, ⟨t', rfl⟩, q⟩⟩)
 | int i ui =>
  cases pu with
  | none => exact wpAny_getItem_str_slice (l := some (i, ui)) (u := none) (st := none) hs rfl (post_val_or_str ⟨Nat.le_trans (PySem.Txt.slice_le z _ _) hz, fun t' k => ⟨.str _, H, I.tok k, ⟨t', rfl⟩, q⟩⟩)
  | int j uj => exact wpAny_getItem_str_slice (l := some (i, ui)) (u := some (j, uj)) (st := none) hs rfl (post_val_or_str ⟨Nat.le_trans (PySem.Txt.slice_le z _ _) hz, fun t' k => ⟨.str _, H, I.tok k, ⟨t', rfl⟩, q⟩⟩)
theorem sl_any : SlR X (fun x lo hi H Q => rSlL X.K x lo hi H Q \/ (rSlT X.K x lo hi H Q \/ rSlS x lo hi H Q)) := sl_list.or (sl_tup.or sl_str)
end
end L2
namespace L2
open PySem PySem.Spec PyProof.Rows
def cW (R : St -> Prop) (P : Nat -> List V -> Hp -> Prop) (n : Nat) (D : Addr) : Nat -> Nat -> St -> Hp -> Prop := fun i m σ' H => m = n - i /\ i <= n /\ R σ' /\ ∃ ys, P i ys H /\ H D = some (.lst ys)
def cYes (R : St -> Prop) (P : Nat -> List V -> Hp -> Prop) (n : Nat) (D : Addr) (σ : St) (i : Nat) : VK := fun v H5 => ∃ xs, H5 D = some (.lst xs) /\ xs.length < sizeLine /\ ∃ m', m' < n - i /\ cW R P n D (i + 1) m' σ (upd H5 D (.lst (xs ++ [v])))
def cNo (R : St -> Prop) (P : Nat -> List V -> Hp -> Prop) (n : Nat) (D : Addr) (σ : St) (i : Nat) : Hp -> Prop := fun H4 => ∃ m', m' < n - i /\ cW R P n D (i + 1) m' σ H4
theorem ZL {R : St -> Prop} {P : Nat -> List V -> Hp -> Prop} {n : Nat} {D : Addr} {σ : St} {i : Nat} {ys : List V} {v : V} {H : Hp} (hi : i < n) (r : R σ) (h : H D = some (.lst ys)) (hl : ys.length < sizeLine) (p : P (i + 1) (ys ++ [v]) (upd H D (.lst (ys ++ [v])))) : cYes R P n D σ i v H :=
 ⟨ys, h, hl, n - (i + 1), by omega, rfl, hi, r, _, p, zd⟩
theorem cno {R : St -> Prop} {P : Nat -> List V -> Hp -> Prop} {n : Nat} {D : Addr} {σ : St} {i : Nat} {ys : List V} {H : Hp} (hi : i < n) (r : R σ) (h : H D = some (.lst ys)) (p : P (i + 1) ys H) : cNo R P n D σ i H :=
 ⟨n - (i + 1), by omega, rfl, hi, r, _, p, h⟩
theorem jN {J : It} {g : TG} {tt : TT} {te : TE} {σ0 : St} {H1 : Hp} {Q : VK} {D : Addr} {n : Nat} {xv : Nat -> V} {st : Nat -> St} (R : St -> Prop) (P : Nat -> List V -> Hp -> Prop) (r0 : R σ0) (h0 : P 0 [] (upd H1 D (.lst [])))
  (hj : ∀ i ys H, i < n -> P i ys H -> H D = some (.lst ys) -> J.go i H /\ ∀ x H2, J.yld i H x H2 -> H2 = H /\ x = xv i) (he : ∀ ys H, P n ys H -> H D = some (.lst ys) -> J.stop n H)
  (hg : ∀ i ys σ' H (K : St -> Hp -> Prop), i < n -> R σ' -> P i ys H -> K (st i) H -> g (xv i) σ' H K)
  (hs : ∀ i ys H, i < n -> P i ys H -> H D = some (.lst ys) -> tt (st i) H fun b H4 => if b = true then te (st i) H4 (cYes R P n D (st i) i) else cNo R P n D (st i) i H4)
  (hd : ∀ ys H, P n ys H -> H D = some (.lst ys) -> Q (.ref D) H) :
  jC J g tt te σ0 H1 Q D := by
 refine ⟨cW R P n D, ⟨n, by simp [cW, r0]; exact ⟨_, h0, zd⟩⟩, ?_⟩
 rintro i m σ' H' ⟨rfl, hi, r, ys, p, hD⟩
 by_cases hlt : i < n
 ·obtain ⟨g1, g2⟩ := hj i ys H' hlt p hD
  refine .inr ⟨g1, fun x H2 y => ?_⟩
  obtain ⟨rfl, rfl⟩ := g2 x H2 y
  exact hg i ys σ' H2 _ hlt r p (hs i ys H2 hlt p hD)
 ·have e : i = n := by omega
  subst e
  exact .inl ⟨he ys H' p hD, hd ys H' p hD⟩
def JN (t : Nat) (σ0 : St) : St -> Prop := fun σ' => ∀ v, σ'.set t v = σ0.set t v
theorem y2 {t : Nat} {σ0 : St} : JN t σ0 σ0 := fun _ => rfl
theorem jy {t : Nat} {σ0 : St} {x : Option V} : JN t σ0 (σ0.set t x) := fun v => by rw [List.set_set]
theorem qv {t : Nat} {tt : TT} {te : TE} {σ0 : St} {H1 : Hp} {Q : VK} {D : Addr} {lo : Int} {n : Nat} (P : Nat -> List V -> Hp -> Prop) (h0 : P 0 [] (upd H1 D (.lst [])))
  (hs : ∀ i ys H, i < n -> P i ys H -> H D = some (.lst ys) -> tt (σ0.set t (some (.int (lo + i)))) H fun b H4 => if b = true then te (σ0.set t (some (.int (lo + i)))) H4 (cYes (JN t σ0) P n D (σ0.set t (some (.int (lo + i)))) i) else cNo (JN t σ0) P n D (σ0.set t (some (.int (lo + i)))) i H4)
  (hd : ∀ ys H, P n ys H -> H D = some (.lst ys) -> Q (.ref D) H) :
  jC (Itr lo n) (jJ t) tt te σ0 H1 Q D :=
 jN (xv := fun i => .int (lo + i)) (st := fun i => σ0.set t (some (.int (lo + i)))) (JN t σ0) P y2 h0 (fun i _ H hi _ _ => ⟨hi, fun x H2 y => y⟩) (fun _ _ _ _ => Nat.le_refl n)
  (fun i _ σ' H K _ r _ k => by show K (σ'.set t (some (.int (lo + i)))) H; rw [r]; exact k) hs hd
theorem j8 {K : PySem.W.Frag} {a : Addr} {xs : List V} {t : Nat} {tt : TT} {te : TE} {σ0 : St} {H1 : Hp} {Q : VK} {D : Addr} (P : Nat -> List V -> Hp -> Prop) (h0 : P 0 [] (upd H1 D (.lst []))) (hl : ∀ i ys H, P i ys H -> H D = some (.lst ys) -> SqL K H a xs)
  (hs : ∀ i ys H x, xs[i]? = some x -> P i ys H -> H D = some (.lst ys) -> tt (σ0.set t (some x)) H fun b H4 => if b = true then te (σ0.set t (some x)) H4 (cYes (JN t σ0) P xs.length D (σ0.set t (some x)) i) else cNo (JN t σ0) P xs.length D (σ0.set t (some x)) i H4)
  (hd : ∀ ys H, P xs.length ys H -> H D = some (.lst ys) -> Q (.ref D) H) :
  jC (Itl K a) (jJ t) tt te σ0 H1 Q D := by
 have get : ∀ i, i < xs.length -> xs[i]? = some (xs.getD i .non) := fun i hi => by simp [List.getD, hi]
 refine jN (xv := fun i => xs.getD i .non) (st := fun i => σ0.set t (some (xs.getD i .non))) (JN t σ0) P y2 h0 (fun i ys H hi p hD => ⟨⟨xs, _, hl i ys H p hD, get i hi⟩, fun x H2 y => ⟨y.1, ?_⟩⟩) (fun ys H p hD => ⟨xs, hl _ ys H p hD, Nat.le_refl _⟩)
  (fun i _ σ' H K _ r _ k => by show K (σ'.set t (some (xs.getD i .non))) H; rw [r]; exact k) (fun i ys H hi p hD => hs i ys H _ (get i hi) p hD) hd
 have e := y.2 xs (hl i ys H p hD)
 rw [get i hi] at e
 exact (Option.some.inj e).symm
theorem ZR {K : PySem.W.Frag} {a : Addr} {xs : List V} {t : Nat} {tt : TT} {te : TE} {σ0 : St} {H1 : Hp} {Q : VK} {D : Addr} (P : Nat -> List V -> Hp -> Prop) (h0 : P 0 [] (upd H1 D (.lst []))) (hl : ∀ i ys H, P i ys H -> H D = some (.lst ys) -> SqT K H a xs)
  (hs : ∀ i ys H x, xs[i]? = some x -> P i ys H -> H D = some (.lst ys) -> tt (σ0.set t (some x)) H fun b H4 => if b = true then te (σ0.set t (some x)) H4 (cYes (JN t σ0) P xs.length D (σ0.set t (some x)) i) else cNo (JN t σ0) P xs.length D (σ0.set t (some x)) i H4)
  (hd : ∀ ys H, P xs.length ys H -> H D = some (.lst ys) -> Q (.ref D) H) :
  jC (Itt K a) (jJ t) tt te σ0 H1 Q D := by
 have get : ∀ i, i < xs.length -> xs[i]? = some (xs.getD i .non) := fun i hi => by simp [List.getD, hi]
 refine jN (xv := fun i => xs.getD i .non) (st := fun i => σ0.set t (some (xs.getD i .non))) (JN t σ0) P y2 h0 (fun i ys H hi p hD => ⟨⟨xs, _, hl i ys H p hD, get i hi⟩, fun x H2 y => ⟨y.1, ?_⟩⟩) (fun ys H p hD => ⟨xs, hl _ ys H p hD, Nat.le_refl _⟩)
  (fun i _ σ' H K _ r _ k => by show K (σ'.set t (some (xs.getD i .non))) H; rw [r]; exact k) (fun i ys H hi p hD => hs i ys H _ (get i hi) p hD) hd
 have e := y.2 xs (hl i ys H p hD)
 rw [get i hi] at e
 exact (Option.some.inj e).symm
theorem comp_str {z : Str} {t : Nat} {tt : TT} {te : TE} {σ0 : St} {H1 : Hp} {Q : VK} {D : Addr} (P : Nat -> List V -> Hp -> Prop) (h0 : P 0 [] (upd H1 D (.lst [])))
  (hs : ∀ i ys H c, z.cps[i]? = some c -> P i ys H -> H D = some (.lst ys) -> tt (σ0.set t (some (.str ⟨#[c]⟩))) H fun b H4 => if b = true then te (σ0.set t (some (.str ⟨#[c]⟩))) H4 (cYes (JN t σ0) P z.cps.size D (σ0.set t (some (.str ⟨#[c]⟩))) i) else cNo (JN t σ0) P z.cps.size D (σ0.set t (some (.str ⟨#[c]⟩))) i H4)
  (hd : ∀ ys H, P z.cps.size ys H -> H D = some (.lst ys) -> Q (.ref D) H) :
  jC (Its z) (jJ t) tt te σ0 H1 Q D := by
 have get : ∀ i, i < z.cps.size -> z.cps[i]? = some (z.cps.getD i 0) := fun i hi => by simp [Array.getD, hi]
 refine jN (xv := fun i => .str ⟨#[z.cps.getD i 0]⟩) (st := fun i => σ0.set t (some (.str ⟨#[z.cps.getD i 0]⟩))) (JN t σ0) P y2 h0 (fun i ys H hi p hD => ⟨hi, fun x H2 y => ⟨y.1, ?_⟩⟩) (fun ys H p hD => Nat.le_refl _)
  (fun i _ σ' H K _ r _ k => by show K (σ'.set t (some (.str ⟨#[z.cps.getD i 0]⟩))) H; rw [r]; exact k) (fun i ys H hi p hD => hs i ys H _ (get i hi) p hD) hd
 obtain ⟨c, e, ex⟩ := y.2
 rw [get i hi] at e
 rw [ex, <- Option.some.inj e]
end L2
namespace L2
open PySem PySem.Spec PyProof.Rows
theorem yes {σ : St} {H : Hp} {A B : Hp -> Prop} (h : A H) : tYes σ H fun b H4 => if b = true then A H4 else B H4 := by
 show if true = true then A H else B H
 rw [if_pos rfl]
 exact h
end L2
namespace L2
open PySem PySem.Spec PyProof.Rows
section
variable {X : Cx} (K : PySem.W.Frag)
theorem zq (hK : X.K = K := by rfl) : IxR X (rIx K) := hK ▸ ix_seq
theorem Zq (hK : X.K = K := by rfl) : SlR X (fun x lo hi H Q => rSlL K x lo hi H Q \/ (rSlT K x lo hi H Q \/ rSlS x lo hi H Q)) := hK ▸ sl_any
theorem qf (hK : X.K = K := by rfl) : qZ X (.builtin "len") (fun xs H Q => ∃ x n, xs = [x] /\ LenV K x H n /\ Q (.int n) H) := hK ▸ call_len
theorem jO (hK : X.K = K := by rfl) : qZ X (.type "list") (fun xs H Q => ∃ p ys, xs = [.ref p] /\ (SqL K H p ys \/ SqT K H p ys) /\ ∀ l, H l = none -> Q (.ref l) (upd H l (.lst ys))) := hK ▸ JK
theorem zt (hK : X.K = K := by rfl) : qZ X (.type "tuple") (fun xs H Q => ∃ p ys, xs = [.ref p] /\ ((SqL K H p ys /\ ∀ l, H l = none -> Q (.ref l) (upd H l (.tup ys))) \/ (SqT K H p ys /\ Q (.ref p) H))) := hK ▸ Q2
theorem QN (hK : X.K = K := by rfl) : qZ X (.builtin "isinstance") (fun xs H Q => ∃ x n t b, xs = [x, .ty n] /\ Wv K H x t /\ PySem.W.kitOne K t (.type n) = some b /\ Q (.bl b) H) := hK ▸ y1
theorem zZ {tg l : Expr} {tl : TE} (hl : PE X l tl) (hK : X.K = K := by rfl) : PI X tg l (iList K tl) := hK ▸ pi_list hl
theorem ji {tg l : Expr} {tl : TE} (hl : PE X l tl) (hK : X.K = K := by rfl) : PI X tg l (iTup K tl) := hK ▸ pi_tup hl
theorem jD {o e : Expr} {es : List Expr} {to : TE} {t : TA} {name : Str} {apos cpos : Pos} {T id : String} {r : V -> List V -> Hp -> VK -> Prop} (pa : PlainAttrs T) (slot : Slot T name id) (hty : typeOf (.builtin id) = pure (.type "method_descriptor")) (hm : MtR X id r) (ho : PE X o to) (ha : PA X (e :: es) t)
  (hbase : attributeBase o name X.env (eval o X.env) = eval o X.env := by rfl)
  (hfew : ((backTo cpos (starEach (e :: es) X.env)).all (fun x => !x.1) && (backToKw cpos (keywordEach [] X.env)).all (fun x => x.1.isSome)
   && decide ((e :: es).length + ([] : List Keyword).length + (if ([] : List Keyword).isEmpty then 0 else 1) < 30)) = true := by rfl)
  (hline : (apos.endLine == cpos.line) = true := by rfl) (hs : starEach (e :: es) X.env = (false, eval e X.env) :: starEach es X.env := by rfl) (hplain : (backTo cpos (starEach es X.env)).any (·.1) = false := by rfl) (hK : X.K = K := by rfl) :
  PE X (.Call (.Attribute o name apos) (e :: es) [] cpos) (tBM K T r to t) := hK ▸ pe_bm pa slot hty hm ho ha hbase hfew hline hs hplain
theorem kpe_bm0 {o : Expr} {to : TE} {name : Str} {apos cpos : Pos} {T id : String} {r : V -> List V -> Hp -> VK -> Prop} (pa : PlainAttrs T) (slot : Slot T name id) (hty : typeOf (.builtin id) = pure (.type "method_descriptor")) (hm : MtR X id r) (ho : PE X o to)
  (hbase : attributeBase o name X.env (eval o X.env) = eval o X.env := by rfl) (hline : (apos.endLine == cpos.line) = true := by rfl) (hK : X.K = K := by rfl) : PE X (.Call (.Attribute o name apos) [] [] cpos) (tBM0 K T r to) := hK ▸ pe_bm0 pa slot hty hm ho hbase hline
theorem jP {es : List Expr} {k : Nat} {pos : Pos} {t : TGs} {n : Nat} (hc : X.calm = true) (h : PGs X es t) (hn : (assignEach es X.env).length = n := by rfl) (hst : (assignEach es X.env).findIdx? (·.1) = none := by rfl) (hK : X.K = K := by rfl) : PG X (.Tuple es k pos) (gTup K n t) := hK ▸ pg_tup hc h hn hst
end
end L2
namespace L2
open PySem PySem.Spec PyProof.Rows
section
variable {X : Cx}
end
structure Fly (l : List Env) (H' : Hp) (old : Heap) (e : Addr) (cls : Value) (h : Heap) : Prop where
 ex : ∃ B a0, Heap.FlyingW B l e cls a0 h /\ ∀ b o, h.get? b = some o -> b ∉ frs l -> ((∃ u, H' b = some u) \/ ∃ u, old.get? b = some u) -> B.get? b = some o
 new : H' e = none
 nold : old.get? e = none
def CX1 (P : Program) (w : World) : CXT := fun outer H s E e s' => ∃ (ea : Addr) (cls : Value) (H' : Hp), e = .ref ea /\ s'.os = s.os /\ AllBare s'.gens /\ Un (frs outer) [] H H' s.heap s'.heap /\ HOk P w H' s'.heap /\ Fly outer H' s.heap ea cls s'.heap /\ E cls none H'
theorem qc.some {P : Program} {w : World} {H : Hp} {h : Heap} {a : Addr} {o : HO} (x : qc P w H h a o) : ∃ ob, h.get? a = some ob := by
 cases o with
 | lst xs => obtain ⟨_, _, _, _, e⟩ := x; exact ⟨_, e⟩
 | tup xs => obtain ⟨_, _, _, o, e, _⟩ := x; exact ⟨_, e⟩
 | dK kvs => obtain ⟨_, _, _, _, o, _, _, e, _⟩ := x; exact ⟨_, e⟩
 | dT kvs => obtain ⟨_, _, _, _, o, _, _, e, _⟩ := x; exact ⟨_, e⟩
 | set S n => obtain ⟨o, _, _, _, e, _⟩ := x; exact ⟨_, e⟩
 | ins C dx fs => obtain ⟨_, _, _, e, _⟩ := x; exact ⟨_, e⟩
 | own y => exact x
 | xd fs => obtain ⟨_, ⟨_, _, _, e, _⟩, _⟩ := x; exact ⟨_, e⟩
 | rng lo hi => obtain ⟨_, _, _, e⟩ := x; exact ⟨_, e⟩
 | frz ob u => obtain ⟨e, _⟩ := x; exact ⟨_, e⟩
 | tbl ps => exact ⟨_, x⟩
 | met f y => exact ⟨_, x⟩
 | ext φ => obtain ⟨_, z, _⟩ := x; exact z
section
variable {X : Cx} {pins : List (Addr × Obj)} {σ : St} {H H' : Hp} {s s' : Shared} {h2 : Heap}
end
section
variable {P : Program} {w : World} {K : PySem.W.Frag} {mg : Str -> Option Value} {base : Heap} {N : List Str} {qual : Str} {scope : Scope} {f : Addr} {cd : Value} {A : Around} {outer : List Env} {s : Shared} {H : Hp} {E : XK}
end
section
variable {X : Cx}
end
end L2
namespace L2
open PySem PySem.Spec PyProof.Rows
def Zz (X : Cx) (pins : List (Addr × Obj)) (R : Value -> St -> Hp -> Prop) : Value -> Shared -> Prop := fun e s' => ∃ σ' Hc sc, Inv X pins σ' Hc sc /\ CX1 X.prog X.w X.stack Hc sc (fun cls _ H' => R cls σ' H') e s'
abbrev TSx := Ends -> St -> Hp -> (Value -> St -> Hp -> Prop) -> Prop
abbrev TEx := St -> Hp -> VK -> (Value -> Hp -> Prop) -> Prop
def PSx (X : Cx) (st : Stmt) (t : TSx) : Prop := ∀ (E : Value -> Shared -> Prop) (pins : List (Addr × Obj)) (s : Shared) (σ : St) (H : Hp) (D : Ends) (R : Value -> St -> Hp -> Prop), Inv X pins σ H s -> t D σ H R -> (∀ e s', Zz X pins R e s' -> E e s') ->
 wpAny (model X.prog X.w) X.A (exec st X.env) (SP X pins D) E s
def PEx (X : Cx) (e : Expr) (t : TEx) : Prop := ∀ (E : Value -> Shared -> Prop) (pins : List (Addr × Obj)) (s : Shared) (σ : St) (H : Hp) (Q : VK) (R : Value -> Hp -> Prop), Inv X pins σ H s -> t σ H Q R -> (∀ e s', Zz X pins (fun cls σ' H' => σ' = σ /\ R cls H') e s' -> E e s') ->
 wpAny (model X.prog X.w) X.A (eval e X.env) (EP X pins σ Q) E s
theorem CX1.imp {P : Program} {w : World} {l : List Env} {H : Hp} {s : Shared} {E E' : XK} {e : Value} {s' : Shared} (h : CX1 P w l H s E e s') (k : ∀ c d H, E c d H -> E' c d H) : CX1 P w l H s E' e s' := by
 obtain ⟨ea, cls, H', a, b, c, d, f, g, q⟩ := h
 exact ⟨ea, cls, H', a, b, c, d, f, g, k _ _ _ q⟩
section
variable {X : Cx}
theorem psx_set {i : Nat} {y : Str} {py spos : Pos} {e : Expr} {t : TEx} (hN : X.N.Nodup) (hy : X.N[i]? = some y) (hl : Loc X.env.scope y) (he : PEx X e t) (hsw : swapsWith e (some (.Name y py)) spos.line X.env = pure false := by rfl)
  (hf : X.fn y = true \/ X.env.scope.names.lookup y = some .local := by first | exact .inl rfl | exact .inr rfl | assumption) :
  PSx X (.Assign [.Name y py] e spos) (fun D σ H R => t σ H (fun v H1 => D.nx (σ.set i (some v)) H1) fun cls H' => R cls σ H') := by
 intro E pins s σ H D R I h hE
 refine wpAny_Assign_Name (wpAny_mono (he E pins s σ H _ _ I h fun e s' ⟨σ', Hc, sc, I', c⟩ => hE e s' ⟨σ', Hc, sc, I', c.imp fun cls d H2 z => ?_⟩) (fun v s1 ⟨x, H1, I1, r1, q1⟩ => QY I1 hN hy hl r1 (fun s2 I2 => ⟨_, _, I2, q1⟩) hf) fun _ _ z => z) hsw
 rw [z.1]
 exact z.2
end
section
variable {X : Cx} {pins : List (Addr × Obj)} {σ : St} {H : Hp} {s : Shared}
theorem Inv.adopt {e : Addr} {u : HO} (I : Inv X pins σ H s) (hn : H e = none) (h0 : X.s₀.heap.get? e = none) (nL : e ≠ X.env.locals) (nC : ∀ x c, X.env.cells.lookup x = some c -> c ≠ e) (nP : ∀ p ∈ X.pn ++ pins, p.1 ≠ e)
  (ok : qc X.prog X.w (upd H e u) s.heap e u) : Inv X pins σ (upd H e u) s := by
 have ne : ∀ {b : Addr} {v : HO}, H b = some v -> b ≠ e := fun q => zF q hn
 refine ⟨I.ok, I.os, I.bare, ⟨I.base.keep, I.base.slot, fun b o q n hx => ?_, I.base.there, fun b xs q => ?_, fun b o v q => ?_, fun b ps q => ?_⟩, I.loc, I.cell, ?_, fun x c q => ?_, fun p hp => ?_, fun a o q => ?_, I.len⟩
 ·have z : b ≠ e := fun z => by rw [z, h0] at q; cases q
  rw [zE z]
  exact I.base.free b o q n hx
 ·have q1 := I.base.tups b xs q
  rw [zE (ne q1)]
  exact q1
 ·have q1 := I.base.frzs b o v q
  rw [zE (ne q1)]
  exact q1
 ·obtain ⟨more, q1⟩ := I.base.tbls b ps q
  exact ⟨more, by rw [zE (ne q1)]; exact q1⟩
 ·rw [zE (Ne.symm nL)]
  exact I.free
 ·rw [zE (nC x c q)]
  exact I.freeC x c q
 ·obtain ⟨p1, p2, p3⟩ := I.pin p hp
  exact ⟨p1, by rw [zE (nP p hp)]; exact p2, p3⟩
 ·by_cases z : a = e
  ·subst z
   rw [zd] at q
   cases q
   exact ok
  ·rw [zE z] at q
   exact (I.hok a o q).stay (fun _ _ _ r => r) (fun c r => by rw [zE (ne r)]; exact r) fun c xs r => by rw [zE (ne r)]; exact r
end
section
variable {X : Cx} {pins : List (Addr × Obj)} {R : Value -> St -> Hp -> Prop} {e : Value} {s' : Shared}
theorem Zz.see (h : Zz X pins R e s') : ∃ ea cls σ' H', e = .ref ea /\ Inv X pins σ' H' s' /\ H' ea = none /\ R cls σ' H' /\ (∃ oe vs, s'.heap.get? ea = some oe /\ oe.cls = cls /\ oe.data = .fields vs) /\
  (X.ex = [] -> X.s₀.heap.get? ea = none) /\ ea ≠ X.env.locals /\ (∀ x c, X.env.cells.lookup x = some c -> c ≠ ea) /\ ∀ p ∈ X.pn ++ pins, p.1 ≠ ea := by
 obtain ⟨σ', Hc, sc, I, ea, cls, H', rfl, os, bare, un, hok, fly, q⟩ := h
 have I' := I.call' os un hok bare (fun b z => absurd z (by simp))
 obtain ⟨B, a0, fl, cv⟩ := fly.ex
 obtain ⟨oe, vs, h1, h2, h3, _⟩ := fl.first
 have no : ∀ o, sc.heap.get? ea = some o -> False := fun o z => by rw [fly.nold] at z; cases z
 refine ⟨ea, cls, σ', H', rfl, I', fly.new, q, ⟨oe, vs, h1, h2, h3⟩, fun hex => ?_, fun z => ?_, fun x c e z => ?_, fun p hp z => ?_⟩
 ·cases z : X.s₀.heap.get? ea with
  | none => rfl
  | some u =>
   obtain ⟨o, e1⟩ := I.base.there ea u z (by rw [hex]; simp)
   exact (no o e1).elim
 ·obtain ⟨m, ⟨o, _, _, ho, _⟩, _⟩ := I.loc
  exact no o (by rw [z]; exact ho)
 ·obtain ⟨v, o, ho, _⟩ := I.cell x c e
  exact no o (by rw [<- z]; exact ho)
 ·exact no p.2 (by rw [<- z]; exact (I.pin p hp).1)
theorem Z5 {ea : Addr} {cls a0 : Value} {σ' : St} {Hc H' : Hp} {sc : Shared} {B h5 : Heap} (I : Inv X pins σ' Hc sc) (os : s'.os = sc.os) (bare : AllBare s'.gens) (un : Un (frs X.stack) [] Hc H' sc.heap s'.heap) (hok : HOk X.prog X.w H' s'.heap)
  (new : H' ea = none) (nold : sc.heap.get? ea = none) (fl : Heap.FlyingW B X.stack ea cls a0 s'.heap) (cv : ∀ b o, s'.heap.get? b = some o -> b ∉ frs X.stack -> ((∃ u, H' b = some u) \/ ∃ u, sc.heap.get? b = some u) -> B.get? b = some o)
  (fl5 : Heap.FlyingW B X.stack ea cls a0 h5) (up : s'.heap.UpToSlots h5) (q : R cls σ' H') : Zz X pins R (.ref ea) { s' with heap := h5 } := by
 have I' := I.call' os un hok bare (fun b z => absurd z (by simp))
 have sl : ∀ b o, s'.heap.get? b = some o -> b ∈ frs X.stack -> ∃ q, h5.get? b = some { o with slots := q } := fun b o e1 hb => up b o e1 (by
  obtain ⟨_, o2, e2, nf⟩ := fl.2.2.1.mem hb
  rw [e1] at e2
  cases e2
  exact nf)
 refine ⟨σ', Hc, sc, I, ea, cls, H', rfl, os, bare, ⟨fun b o e n nf _ => ?_, fun b o e n hb hx => ?_, un.free, fun b o e hx => ?_, un.tups, un.frzs, un.tbls⟩, fun a o e => ?_, ⟨⟨B, a0, fl5, fun b o e1 nb hc => ?_⟩, new, nold⟩, q⟩
 ·exact fl5.1 b o (cv b o (un.keep b o e n nf (by simp)) nf (.inr ⟨o, e⟩))
 ·obtain ⟨q1, e1⟩ := un.slot b o e n hb hx
  obtain ⟨q2, e2⟩ := sl b _ e1 hb
  exact ⟨q2, e2⟩
 ·obtain ⟨o', e1⟩ := un.there b o e hx
  by_cases hb : b ∈ frs X.stack
  ·obtain ⟨q2, e2⟩ := sl b o' e1 hb
   exact ⟨_, e2⟩
  ·exact ⟨o', fl5.1 b o' (cv b o' e1 hb (.inr ⟨o, e⟩))⟩
 ·refine (hok a o e).stay (fun b u hb q => ?_) (fun _ q => q) fun _ _ q => q
  have ht : ∃ u, H' b = some u := by
   rcases hb with z | z
   ·exact ⟨o, by rw [z]; exact e⟩
   ·exact ⟨_, z⟩
  refine fl5.1 b u (cv b u q (fun z => ?_) (.inl ht))
  obtain ⟨v, hv⟩ := ht
  rw [I'.stkFree b z] at hv
  cases hv
 ·have ho : ∃ o', s'.heap.get? b = some o' := by
   rcases hc with ⟨u, z⟩ | ⟨u, z⟩
   ·exact (hok b u z).some
   ·exact un.there b u z (by simp)
  obtain ⟨o', eo⟩ := ho
  have eB := cv b o' eo nb hc
  have e3 : o = o' := Option.some.inj (e1.symm.trans (fl5.1 b o' eB))
  rw [e3]
  exact eB
theorem land1 {E : Value -> Shared -> Prop} {A : Around} {M : Model} {rest : Sem Flow} {Q : Flow -> Shared -> Prop} (hst : X.stack = X.env :: X.outer) (hf : X.env.frame = some X.env.locals) (hfr : A.frames = some X.stack) (h : Zz X pins R e s')
  (k : ∀ h5, Zz X pins R e { s' with heap := h5 } -> wpAny M A rest Q E { s' with heap := h5 }) : wpAny M A (noteFrame e X.env) (fun _ s2 => wpAny M A (setFlight e none) (fun _ s3 => wpAny M A rest Q E s3) E s2) E s' := by
 obtain ⟨σ', Hc, sc, I, ea, cls, H', rfl, os, bare, un, hok, fly, q⟩ := h
 obtain ⟨B, a0, fl, cv⟩ := fly.ex
 refine wpAny_looks_onW (base := B) (outer := X.outer) (by rw [hfr, hst]) hf (by rw [<- hst]; exact fl) fun h4 held up4 => wpAny_landsW held fun h5 fl5 up5 => k h5 ?_
 exact Z5 I os bare un hok fly.new fly.nold fl cv (by rw [hst]; exact fl5) (up4.trans up5) q
theorem land2 {E : Value -> Shared -> Prop} {A : Around} {M : Model} {Q : Unit -> Shared -> Prop} (h : Zz X pins R e s') (k : ∀ h5, Zz X pins R e { s' with heap := h5 } -> Q () { s' with heap := h5 }) : wpAny M A (setFlight e none) Q E s' := by
 obtain ⟨σ', Hc, sc, I, ea, cls, H', rfl, os, bare, un, hok, fly, q⟩ := h
 obtain ⟨B, a0, fl, cv⟩ := fly.ex
 exact lands_againW fl fun h5 fl5 up5 => k h5 (Z5 I os bare un hok fly.new fly.nold fl cv fl5 up5 q)
end
def Cx.inEx (X : Cx) (ea : Addr) : Cx := { X with A := X.A.mark (some (.ref ea)), calm := false, xe := fun _ _ => False }
section
variable {X : Cx} {pins : List (Addr × Obj)} {σ : St} {H : Hp} {s : Shared} {ea : Addr}
theorem Inv.inEx (I : Inv X pins σ H s) (ea : Addr) : Inv (X.inEx ea) pins σ H s := ⟨⟨I.ok.mod, I.ok.kind, I.ok.glob, I.ok.blt, I.ok.above, I.ok.inj, I.ok.has, I.ok.cab, fun z => absurd (show false = true from z) (by simp), I.ok.frames, I.ok.stk, I.ok.exf, I.ok.bs, I.ok.bsz, I.ok.noex, I.ok.exfs, I.ok.funs, I.ok.frf⟩,
 I.os, I.bare, I.base, I.loc, I.cell, I.free, I.freeC, I.pin, I.hok, I.len⟩
theorem Inv.outEx (ok : X.Ok) (I : Inv (X.inEx ea) pins σ H s) : Inv X pins σ H s := ⟨ok, I.os, I.bare, I.base, I.loc, I.cell, I.free, I.freeC, I.pin, I.hok, I.len⟩
def tTry (K : PySem.W.Frag) (C : Addr) (tb : TSx) (ts : TS) : TS := fun D σ H => tb D σ H fun cls σ' H' => PySem.W.exmOne K cls (.ref C) = some true /\ ts D σ' H'
theorem ty_looks {M : Model} {h : Heap} {ea : Addr} {cls : Value} (z : ∃ oe vs, h.get? ea = some oe /\ oe.cls = cls /\ oe.data = .fields vs) : PySem.W.Looks M h (typeOf (.ref ea)) cls := by
 obtain ⟨oe, vs, a, b, _⟩ := z
 subst b
 exact (PySem.W.Looks.ld a).andThen .now
theorem ps_try {x : Str} {C : Addr} {st b0 : Stmt} {suite : List Stmt} {np hpos pos : Pos} {tb : TSx} {ts : TS} (hst : X.stack = X.env :: X.outer) (hf : X.env.frame = some X.env.locals)
  (hg : Gl X x) (hm : X.mg x = some (.ref C)) (hb : PSx X st tb) (hs : ∀ ea, PSs (X.inEx ea) (b0 :: suite) ts) (hdb : (x == ("__debug__" : Str)) = false := by decide) :
  PS X (.Try [st] [.ExceptHandler (some (.Name x np)) none (b0 :: suite) hpos] [] [] pos) (tTry X.K C tb ts) := by
 intro pins s σ H D I h
 refine wpAny_Try_except (wpAny_execs_cons (wpAny_mono (hb _ pins s σ H D _ I h (fun e s' hc => ?_)) (fun f s1 q => ?_) fun _ _ z => z))
 rotate_left
 ·cases f with
  | next => exact wpAny_execs_nil (wpAny_execs_nil q)
  | ret v => exact q
  | brk => exact q
  | cont => exact q
 refine land1 hst hf I.ok.frames hc fun h5 hc5 => ?_
 obtain ⟨ea, cls, σ', H', rfl, I5, hn, ⟨hx, hR⟩, hob, h0, nL, nC, nP⟩ := hc5.see
 refine wpAny_handleBy_cons (codeAny_handlers_test (wA (X := X.inEx ea) (I5.inEx ea) hg hm ((PySem.W.exm_one I5.kIn (ty_looks hob) hx).here ?_) hdb)) (by intro q; cases q)
 refine codeAny_handlers_suite (land2 hc5 fun h6 hc6 => ?_)
 obtain ⟨ea', cls', σ2, H2, e2, I6, hn6, ⟨hx6, hR6⟩, hob6, h06, nL6, nC6, nP6⟩ := hc6.see
 cases e2
 refine wpAny_mono (hs ea pins _ _ _ D (I6.inEx ea) hR6) (fun f s9 q => ?_) fun _ _ z => False.elim z
 cases f with
 | next =>
  obtain ⟨σ9, H9, I9, q9⟩ := q
  exact ⟨_, _, I9.outEx I.ok, q9⟩
 | brk =>
  obtain ⟨σ9, H9, I9, q9⟩ := q
  exact ⟨_, _, I9.outEx I.ok, q9⟩
 | cont =>
  obtain ⟨σ9, H9, I9, q9⟩ := q
  exact ⟨_, _, I9.outEx I.ok, q9⟩
 | ret u =>
  obtain ⟨v, σ9, H9, I9, r9, q9⟩ := q
  exact ⟨_, _, _, I9.outEx I.ok, r9, q9⟩
end
end L2
namespace L2
open PySem PySem.Spec PyProof.Rows
section
end
section
variable {P : Program} {w : World} {K : PySem.W.Frag} {mg : Str -> Option Value} {base : Heap}
end
end L2
namespace L2
open PySem PySem.Spec PyProof.Rows
section
variable {prog : Program} {w : World} {A : Around} {E : Value -> Shared -> Prop} {s : Shared} {K : PySem.W.Frag} {e C : Addr} {h : Heap}
end
end L2
namespace L2
open PySem PySem.Spec PyProof.Rows
def Qv (xs ys : List V) : Bool := (xs.zip ys).all (fun p => eqV p.1 p.2) && xs.length == ys.length
theorem Q5 {A : Around} {s : Shared} {xs ys : List V} {us vs : List Value} (rx : qe xs us) (ry : qe ys vs) (fx : xs.all Zh = true) (fy : ys.all Zh = true) (j : Nat) (h1 : j < us.toArray.size) (h2 : j < vs.toArray.size) :
  SeqAt.EqAt A s us.toArray[j] vs.toArray[j] (eqV (xs.getD j .non) (ys.getD j .non)) := by
 have l1 := rx.length
 have l2 := ry.length
 have g1 : j < us.length := by simpa using h1
 have g2 : j < vs.length := by simpa using h2
 have k1 : xs[j]? = some (xs.getD j .non) := by simp [List.getD, show j < xs.length by omega]
 have k2 : ys[j]? = some (ys.getD j .non) := by simp [List.getD, show j < ys.length by omega]
 obtain ⟨u, e1, r1⟩ := rx.get k1
 obtain ⟨v, e2, r2⟩ := ry.get k2
 have f1 := List.all_eq_true.mp fx _ (List.mem_of_getElem? k1)
 have f2 := List.all_eq_true.mp fy _ (List.mem_of_getElem? k2)
 have w1 : us.toArray[j] = u := by
  rw [List.getElem?_eq_getElem g1] at e1
  simpa using Option.some.inj e1
 have w2 : vs.toArray[j] = v := by
  rw [List.getElem?_eq_getElem g2] at e2
  simpa using Option.some.inj e2
 rw [w1, w2]
 exact yU r1 r2 f1 f2
theorem ZA : ∀ (xs ys : List V), xs.length = ys.length -> ((List.range xs.length).all fun j => eqV (xs.getD j .non) (ys.getD j .non)) = (xs.zip ys).all fun p => eqV p.1 p.2
 | [], [], _ => rfl
 | [], _ :: _, h => by cases h
 | _ :: _, [], h => by cases h
 | x :: xs, y :: ys, h => by
  have ih := ZA xs ys (by simpa using h)
  rw [List.length_cons, List.range_succ_eq_map, List.all_cons, List.all_map, List.zip_cons_cons, List.all_cons, <- ih]
  rfl
section
variable {X : Cx}
theorem bools_at {bs : List Bool} : ∀ {us : List Value}, qe (bs.map V.bl) us -> us = bs.map Value.bool := by
 induction bs with
 | nil => intro us r; rw [List.map_nil] at r; cases r; rfl
 | cons b bs ih =>
  intro us r
  rw [List.map_cons] at r
  cases r with
  | cons r1 r2 => rw [List.map_cons, <- ih r2]; cases r1; rfl
theorem Z6 : ∀ bs : List Bool, ((List.range bs.length).all fun i => bs.getD i true) = bs.all id
 | [] => rfl
 | b :: bs => by
  have ih := Z6 bs
  rw [List.length_cons, List.range_succ_eq_map, List.all_cons, List.all_map, List.all_cons, <- ih]
  rfl
theorem call_all (hc : X.calm = true) : qZ X (.builtin "all") (fun xs H Q => ∃ (p : Addr) (bs : List Bool), xs = [.ref p] /\ SqL X.K H p (bs.map V.bl) /\ Q (.bl (bs.all id)) H) := by
 intro pins s σ H xs us Q I r h
 obtain ⟨p, bs, rfl, hq, q⟩ := h
 obtain ⟨u, rfl, ru⟩ := vals1 r
 cases ru
 obtain ⟨its, rv, pl, _⟩ := I.list hq
 have hl : s.heap.IsList p its.toArray := pl.isList
 have hlt : p < s.heap.objs.size := by obtain ⟨_, e, _⟩ := hl; exact Heap.lt_size e
 refine call_all_walk (wpAny_pyIter_list hl ⟨_, _, _, _, _, _, fun i => bs.getD i true, rfl, Walks.list (A := X.A.in1) (I.ok.hd hc) _ p (Nat.ne_of_lt hlt) its.toArray, ⟨⟨_, Heap.get?_push_size _ rfl, rfl, rfl⟩, hl.push _⟩, fun i v s' Q' E' hv hQ => ?_, fun h' tk hk => ⟨.bl _, H, I.kept (old_kept hk), rfl, ?_⟩⟩)
 ·have hv' : its[i]? = some v := by simpa using hv
  rw [bools_at rv, List.getElem?_map] at hv'
  obtain ⟨b, hb, rfl⟩ := Option.map_eq_some_iff.mp hv'
  have e : bs.getD i true = b := by simp [List.getD, hb]
  have z : Q' (bs.getD i true) s' := hQ
  rw [e] at z
  exact wpAny_truthy_bool z
 ·have e1 : its.toArray.size = bs.length := by
   have := rv.length
   rw [List.length_map] at this
   simp; omega
  rw [e1]
  have e2 := Z6 bs
  rw [e2]
  exact q
theorem bt_max : bootBuiltins "max" = some (.builtin "max") := by decide +kernel
theorem Z7 (K : PySem.W.Frag) (hc : X.calm = true) (hK : X.K = K := by rfl) : qZ X (.builtin "all") (fun xs H Q => ∃ (p : Addr) (bs : List Bool), xs = [.ref p] /\ SqL K H p (bs.map V.bl) /\ Q (.bl (bs.all id)) H) := hK ▸ call_all hc
end
end L2
namespace L2
open PySem PySem.Spec PyProof.Rows
section
variable {X : Cx} {tg : Expr}
def rNeT (K : PySem.W.Frag) : R2 := fun x y H Q => ∃ p q xs ys, x = .ref p /\ y = .ref q /\ SqT K H p xs /\ SqT K H q ys /\ xs.all Zh = true /\ ys.all Zh = true /\ xs.length = ys.length /\ Q (.bl (!Qv xs ys)) H
theorem op_neT (K : PySem.W.Frag) {k : Nat} (hr : Zj k X.A) (hK : X.K = K := by rfl) : OpR X (compareOp .NotEq) (rNeT K) := by
 subst hK
 intro pins s σ H x y v u Q I rx ry h
 obtain ⟨p, q, xs, ys, rfl, rfl, h1, h2, f1, f2, hz, hq⟩ := h
 cases rx
 cases ry
 obtain ⟨us, r1, pl1, _⟩ := I.tuple h1
 obtain ⟨vs, r2, pl2, _⟩ := I.tuple h2
 have hu : X.A.units < cLine := Nat.lt_of_succ_lt (hu_of hr)
 have l1 := r1.length
 have l2 := r2.length
 refine SeqAt.RcNeAt.tuples pl1 pl2 hu (Q5 r1 r2 f1 f2) X.prog X.w _ _ ⟨.bl _, H, I, rfl, ?_⟩
 have e : min us.toArray.size vs.toArray.size = xs.length := by simp; omega
 have e2 : (us.toArray.size == vs.toArray.size) = true := by simp; omega
 rw [e, ZA xs ys hz, e2, Bool.and_true]
 unfold Qv at hq
 rw [hz] at hq
 simpa using hq
theorem W1 (K : PySem.W.Frag) (hc : X.calm = true) : qZ X (.builtin "max") (fun xs H Q => ∃ i j, xs = [.int i, .int j] /\ Q (.int (if j > i then j else i)) H) := yN hc
end
end L2
namespace L2
open PySem PySem.Spec PyProof.Rows
def addK {α : Type} [DecidableEq α] (l : List α) (v : α) : List α := if v ∈ l then l else l ++ [v]
def QO {α : Type} [DecidableEq α] (vs : List α) : List α := vs.foldl addK []
theorem mem_addK {α : Type} [DecidableEq α] {l : List α} {v x : α} : x ∈ addK l v ↔ x ∈ l \/ x = v := by
 unfold addK
 split
 ·rename_i h
  constructor
  ·exact .inl
  ·rintro (z | rfl)
   ·exact z
   ·exact h
 ·simp
theorem WA {α : Type} [DecidableEq α] {l : List α} {v : α} : (addK l v).length = if v ∈ l then l.length else l.length + 1 := by
 unfold addK
 split <;> simp
theorem JO {α : Type} [DecidableEq α] (vs : List α) (v : α) : QO (vs ++ [v]) = addK (QO vs) v := by
 unfold QO
 rw [List.foldl_append]
 rfl
theorem JP {α : Type} [DecidableEq α] : ∀ (vs l : List α), (vs.foldl addK l).length <= l.length + vs.length
 | [], l => Nat.le_refl _
 | v :: vs, l => by
  have h := JP vs (addK l v)
  rw [WA] at h
  rw [List.foldl_cons, List.length_cons]
  split at h <;> omega
theorem dedK_len {α : Type} [DecidableEq α] (vs : List α) : (QO vs).length <= vs.length := by
 have := JP vs []
 simpa [QO] using this
section
variable {prog : Program} {w : World} {A : Around} {E : Value -> Shared -> Prop} {s : Shared}
abbrev Q6 (prog : Program) (w : World) (h : Heap) (a : Addr) (l : List Str) : Prop := h.SetOf (PySem.strKind prog w) a (fun x => decide (x ∈ l)) l.length
theorem ZH {h h' : Heap} {a : Addr} {l : List Str} (x : Q6 prog w h a l) (k : ∀ o, h.get? a = some o -> h'.get? a = some o) : Q6 prog w h' a l := by
 obtain ⟨o, es, ep, t, ho, r⟩ := x
 exact ⟨o, es, ep, t, k o ho, r⟩
theorem set_loop {R : Result -> Shared -> Prop} {J l a : Addr} {items : Array Value} {ys : List Str} (hh : A.in1.handled = none) (hJ : l ≠ J) (aJ : a ≠ J) (al : a ≠ l) (hv : ∀ (i : Nat) (v : Value), items[i]? = some v -> ∃ t, v = .str (ys.getD i "") t) (hn : items.size = ys.length) (hb : ys.length + 1 < scanBound) :
  ∀ (k i : Nat) (s : Shared), ys.length - i = k -> i <= ys.length -> s.heap.IsListIter J l i -> s.heap.IsList l items -> Q6 prog w s.heap a (QO (ys.take i)) ->
   (∀ h' tk, (∀ b o, b ≠ a -> b ≠ J -> s.heap.get? b = some o -> h'.get? b = some o) -> Q6 prog w h' a (QO ys) -> R (.ok (.ret .none)) { s with heap := h', toks := tk }) ->
   codeAny (model prog w) A (.builtin "set.update.loop" ⟨[.ref a, .ref J], []⟩) R s := by
 intro k
 induction k with
 | zero =>
  intro i s hk hi h1 h2 h3 hR
  have e : i = ys.length := by omega
  subst e
  refine codeAny_builtin PyProof.Rows.F.entry_set_update_loop ?_
  rw [Around.under_plainId PyProof.Rows.F.plain_set_update_loop _]
  show wpAny _ A.in1 (pyNext (.ref J) >>= _) _ _ s
  refine wpAny_bind (wpAny_pyNext_list_end hh h1 h2 (by first | omega | (simp; omega)) fun h' eb => ?_)
  show wpAny _ A.in1 (ret Value.none) _ _ _
  rw [List.take_length] at h3
  exact wpAny_pure (hR h' s.toks (fun b o _ nb e => eb b o nb e) (ZH h3 fun o e => eb a o aJ e))
 | succ k ih =>
  intro i s hk hi h1 h2 h3 hR
  have hlt : i < ys.length := by omega
  refine codeAny_builtin PyProof.Rows.F.entry_set_update_loop ?_
  rw [Around.under_plainId PyProof.Rows.F.plain_set_update_loop _]
  show wpAny _ A.in1 (pyNext (.ref J) >>= _) _ _ s
  have hi2 : items[i]? = some (items[i]'(by omega)) := by simp [show i < items.size by omega]
  refine wpAny_bind (wpAny_pyNext_list_item h1 h2 hi2 fun h' h1' sb => ?_)
  obtain ⟨t, et⟩ := hv i _ hi2
  rw [et]
  have h3' : Q6 prog w h' a (QO (ys.take i)) := ZH h3 fun o e => (sb.2 a aJ).trans e
  show wpAny _ A.in1 (holding [Value.str (ys.getD i "") t] (setAdd a (.str (ys.getD i "") t)) >>= _) _ _ _
  refine wpAny_bind (wpAny_holding ?_)
  unfold setAdd
  have is1 : (PySem.strKind prog w).is (ys.getD i "") (.str (ys.getD i "") t) = true := by
   simp [PySem.strKind, Value.isStrOf]
  refine wpAny_holding (wpAny_bind ((PySem.strKind prog w).pyHash (k := ys.getD i "") is1 ?_))
  have room : (QO (ys.take i)).length + 1 < scanBound := by
   have := dedK_len (ys.take i)
   rw [List.length_take] at this
   omega
  refine wpAny_setAddHashed_of (knd := PySem.strKind prog w) (s := { s with heap := h', toks := s.toks + 1 }) is1 rfl h3' room fun h'' sb2 h4 => ?_
  have ey : ys[i]? = some (ys.getD i "") := by simp [List.getD, hlt]
  have e1 : ys.take (i + 1) = ys.take i ++ [ys.getD i ""] := by rw [List.take_add_one, ey]; rfl
  have h5 : Q6 prog w h'' a (QO (ys.take (i + 1))) := by
   refine SetOf_congr h4 (fun x => ?_) ?_
   ·rw [e1, JO]
    by_cases c1 : x ∈ QO (ys.take i) <;> by_cases c2 : x = ys.getD i "" <;> simp [mem_addK, c1, c2]
   ·rw [e1, JO, WA]
    by_cases c1 : ys.getD i "" ∈ QO (ys.take i) <;> simp [c1]
  refine wpAny_pure ⟨plainId_quiet PyProof.Rows.F.plain_set_update_loop _, ih (i + 1) { s with heap := h'', toks := s.toks + 1 } (by omega) hlt ?_ ?_ h5 fun h6 tk k6 s6 => hR h6 tk (fun b o na nJ e => k6 b o na nJ ((sb2.2 b na).trans ((sb.2 b nJ).trans e))) s6⟩
  ·obtain ⟨o, q1, q2⟩ := h1'
   exact ⟨o, (sb2.2 J (Ne.symm aJ)).trans q1, q2⟩
  ·obtain ⟨o, q1, q2⟩ := h2
   exact ⟨o, (sb2.2 l (Ne.symm al)).trans ((sb.2 l hJ).trans q1), q2⟩
theorem y3 : ∀ {us : List Value} {ys : List Str}, StrsAre us ys -> ∀ (i : Nat) (v : Value), us[i]? = some v -> ∃ t, v = .str (ys.getD i "") t
 | _, _, .nil, i, v, h => by simp at h
 | _, _, .cons y t r, 0, v, h => ⟨t, (Option.some.inj h).symm⟩
 | _, _, .cons y t r, i + 1, v, h => by
  obtain ⟨t', e⟩ := y3 r i v (by simpa using h)
  exact ⟨t', by rw [e]; rfl⟩
def jE (b : Bool) : Obj := { cls := .type "set", dict := none, data := .set #[] 0 (.fresh 0 0 b) }
theorem set_made {l : Addr} {items : Array Value} {ys : List Str} {Q : Value -> Shared -> Prop} (hh : A.handled = none) (hl : s.heap.IsList l items) (hi : StrsAre items.toList ys) (hb : ys.length + 1 < scanBound)
  (h : ∀ h' tk, Q6 prog w h' s.heap.objs.size (QO ys) -> (∀ b o, b < s.heap.objs.size -> s.heap.get? b = some o -> h'.get? b = some o) -> Q (.ref s.heap.objs.size) { s with heap := h', toks := tk }) :
  wpAny (model prog w) A (call (.type "set") [.ref l]) Q E s := by
 obtain ⟨c0, tl0, hmro⟩ := PySem.F.called_set.mro
 have made := PySem.F.called_set.made; have subs := PySem.F.called_set.sub
 have nt := PySem.F.called_set.notType; have cc := PySem.F.called_set.canCreate; have tcall := PySem.F.typeCall_set_1 (.ref l)
 refine wpAny_call (codeAny_of_tree ?_)
 show wpAny _ _ (callAny (.type "set") ⟨[.ref l], []⟩) _ _ _
 refine wpAny_pure ⟨Code.quiet_builtin _ (by decide +kernel), codeAny_builtin PySem.F.entry_type_call ?_⟩
 rw [Around.under_plain (weight_type_call_type "set" [.ref l] []) rfl]
 repeat (any_goals (first | assumption | wp_step))
 refine codeAny_mono (code_set_new_1 (.ref l) (E := E) (Q₁ := fun v s1 => ∃ b : Bool, v = .ref s.heap.objs.size /\ s1 = { s with heap := s.heap.push (jE b) }) fun b => ⟨b, rfl, rfl⟩) fun r s1 hr => ?_
 match r, hr with
 | .error e, hr => exact hr
 | .ok (.ret v), hr =>
  obtain ⟨b, ev, es⟩ := hr
  subst ev es
  have at0 : (s.heap.push (jE b)).get? s.heap.objs.size = some (jE b) := Heap.get?_push_size _ rfl
  have ty0 : Shared.TypeIs { s with heap := s.heap.push (jE b) } (.ref s.heap.objs.size) "set" := ⟨_, at0, rfl⟩
  have il := PySem.F.called_set.init.lookup
  have ib := PySem.F.called_set.init.bind (.ref s.heap.objs.size)
  repeat (any_goals (first | assumption | wp_step))
  refine codeAny_mono (codeAny_call_builtin (R := wants (fun r s2 => r = .none /\ ∃ h' tk, s2 = { s with heap := h', toks := tk } /\ Q6 prog w h' s.heap.objs.size (QO ys) /\ ∀ b o, b < s.heap.objs.size -> s.heap.get? b = some o -> h'.get? b = some o) E) PySem.F.called_set.init.plain PySem.F.entry_set_init (check_set_init_1 ty0 ?_)) fun r2 s2 hr2 => ?_
  ·obtain ⟨⟨oc, od, odt, osl⟩, hol, hcl, nl, hdl⟩ := id hl
   have hcl' : oc = _ := hcl; have hdl' : odt = _ := hdl
   subst hcl' hdl'
   have hol1 : (s.heap.push (jE b)).get? l = some { cls := .type "list", dict := od, data := .seq items nl, slots := osl } := Heap.get?_push_of_some _ hol
   have n1 := PySem.F.sub_list_set; have n2 := PySem.F.sub_list_frozenset
   have n3 : (Value.type "list" == Value.type "dict") = false := by decide
   have hl1 : (s.heap.push (jE b)).IsList l items := ⟨_, hol1, rfl, nl, rfl⟩
   have lS : l < s.heap.objs.size := Heap.lt_size hol
   have jS : (s.heap.push (jE b)).objs.size = s.heap.objs.size + 1 := Heap.size_push ..
   unfold Builtin.«set.__init__» noKeywords Builtin.Frozenset.updateFrom
   generalize ePI : pyIter = PI
   wp_walk
   subst ePI
   refine wpAny_pyIter_list hl1 (wpAny_bind (wpAny_runValue ?_))
   have hn : items.size = ys.length := by
    have := hi.length
    simpa using this
   refine set_loop (J := (s.heap.push (jE b)).objs.size) (l := l) (a := s.heap.objs.size) (items := items) (ys := ys) (by simp [hh]) (Nat.ne_of_lt (by rw [jS]; exact Nat.lt_succ_of_lt lS)) (Nat.ne_of_lt (by rw [jS]; exact Nat.lt_succ_self _)) (Nat.ne_of_gt lS) (fun i v hv => ?_) hn hb (ys.length - 0) 0 _ rfl (Nat.zero_le _) ⟨_, Heap.get?_push_size _ rfl, rfl, rfl⟩ (hl1.push _) ?_ fun h' tk hk hS => ?_
   ·exact y3 hi i v (by rw [Array.getElem?_toList]; exact hv)
   ·exact SetOf_congr ((PyProof.Rows.setObjOf_fresh (knd := PySem.strKind prog w) b).setOf (Heap.get?_push_of_some _ at0) (by unfold scanBound; omega)) (fun x => by simp [QO]) rfl
   ·show wpAny _ _ _ _ _ _
    refine wpAny_pure ?_
    show wpAny _ _ (ret Value.none) _ _ _
    refine wpAny_pure ⟨rfl, h', tk, rfl, hS, fun c o hc e => hk c o (Nat.ne_of_lt hc) (Nat.ne_of_lt (by rw [jS]; exact Nat.lt_succ_of_lt hc)) (Heap.get?_push_of_some _ (Heap.get?_push_of_some _ e))⟩
  ·match r2, hr2 with
   | .error e, hr2 => exact hr2
   | .ok (.ret v), hr2 =>
    obtain ⟨ev, h', tk, es, hS, hk⟩ := hr2
    subst ev es
    repeat (any_goals (first | assumption | wp_step))
    exact h _ _ hS hk
   | .ok .next, hr2 => exact hr2.elim
   | .ok .brk, hr2 => exact hr2.elim
   | .ok .cont, hr2 => exact hr2.elim
 | .ok .next, hr => exact hr.elim
 | .ok .brk, hr => exact hr.elim
 | .ok .cont, hr => exact hr.elim
end
def QP (P : Program) (w : World) (a : Addr) (l : List Str) : HO := .ext fun h => Q6 P w h a l
section
variable {X : Cx}
theorem bt_set : bootBuiltins "set" = some (.type "set") := by decide +kernel
theorem W2 (K : PySem.W.Frag) (hc : X.calm = true) (hK : X.K = K := by rfl) : qZ X (.type "set") (fun xs H Q => ∃ p ys, xs = [.ref p] /\ SqL K H p (ys.map V.str) /\ ys.length <= 1000 /\ ∀ a, H a = none -> Q (.ref a) (upd H a (QP X.prog X.w a (QO ys)))) := by
 subst hK
 intro pins s σ H xs us Q I r h
 obtain ⟨p, ys, rfl, hq, hz, q⟩ := h
 obtain ⟨u, rfl, ru⟩ := vals1 r
 cases ru
 obtain ⟨its, rv, pl, _⟩ := I.list hq
 have hb : ys.length + 1 < scanBound := by unfold scanBound; omega
 refine set_made (I.ok.hd hc) pl.isList (W0 rv) hb fun h' tk hS hk => ?_
 have fr := I.hok.fresh (Nat.le_refl s.heap.objs.size)
 refine ⟨.ref s.heap.objs.size, _, I.laid (t' := tk) (o := QP X.prog X.w s.heap.objs.size (QO ys)) (fun b o e => hk b o (Heap.lt_size e) e) (Nat.le_refl _) ⟨hS, ?_, fun h1 h2 z k => ZH z k⟩, rfl, q _ fr⟩
 obtain ⟨o, _, _, _, ho, _⟩ := hS
 exact ⟨o, ho⟩
theorem y4 : qZ X (.builtin "len") (fun xs H Q => ∃ a l, xs = [.ref a] /\ H a = some (QP X.prog X.w a l) /\ Q (.int (l.length : Nat)) H) := by
 intro pins s σ H xs us Q I r h
 obtain ⟨a, l, rfl, ha, q⟩ := h
 obtain ⟨u, rfl, ru⟩ := vals1 r
 cases ru
 obtain ⟨o, es, ep, t, ho, hex, hd, _, _, hsz, hf, hn⟩ := (I.hok a _ ha).1
 have hb : (es.size : Int) < 2 ^ 63 := by
  unfold scanBound at hsz
  omega
 refine call_len_set ho hex hd hf hb ⟨.int _, H, I.tok _, ⟨_, rfl⟩, ?_⟩
 rw [hn]
 exact q
end
end L2
namespace L2
open PySem PySem.Spec PyProof.Rows
section
variable {prog : Program} {w : World} {A : Around} {E : Value -> Shared -> Prop} {s : Shared}
theorem wH {it t : Addr} {k : Nat} {items : Array Value} {x : Value} {Q : Value -> Shared -> Prop} (hi : s.heap.IsTupleIter it t k) (ht : s.heap.IsTuple t items) (hx : items[k]? = some x)
  (q : ∀ h', h'.IsTupleIter it t (k + 1) -> Heap.SameBut it s.heap h' -> Q x { s with heap := h' }) : wpAny (model prog w) A (Builtin.SmallTypes.nextOf (.ref it)) Q E s := by
 obtain ⟨oi, a1, a2, a3⟩ := id hi
 obtain ⟨ot, b1, _, nt, b3⟩ := ht
 unfold Builtin.SmallTypes.nextOf
 refine wpAny_bind (wpAny_callSpecial?_slot (name := Str.ofString "__next__") hi.typeIs PySem.F.slot_tuple_iterator_next (wpAny_call_entry PySem.F.slot_tuple_iterator_next hi.typeIs PySem.F.entry_tuple_iterator_next ?_ (PySem.F.args_tuple_iterator_next_1 _)))
 refine wpAny_bind (m := field (.ref it) 0) (wpAny_field a1 a3 (x := .ref t) rfl ?_)
 show wpAny _ _ (if (Value.ref t == Value.none) = true then _ else field (.ref it) 1 >>= _) _ _ s
 rw [if_neg (show ¬ ((Value.ref t == Value.none) = true) from Bool.false_ne_true)]
 refine wpAny_bind (wpAny_field a1 a3 (x := .int k 0) rfl (wpAny_bind (m := seqItems? (.ref t)) (wpAny_seqItems b1 b3 ?_)))
 simp only [Int.toNat_natCast, hx]
 refine wpAny_bind (wpAny_setField a1 a3 (by simp) (wpAny_pure ⟨x, rfl, wpAny_pure (q _ ⟨_, Heap.get?_update_self _ a1 (Obj.isFreed_of_fields (Obj.data_mapFields a3 _)), (Obj.cls_mapFields ..).trans a2, ?_⟩ (Heap.SameBut.update ..))⟩))
 rw [Obj.data_mapFields a3]; simp [rawInt]
theorem wI {it t : Addr} {k : Nat} {items : Array Value} {Q : Value -> Shared -> Prop} (hh : A.handled = none) (hi : s.heap.IsTupleIter it t k) (ht : s.heap.IsTuple t items) (hx : items[k]? = none)
  (q : ∀ h' e, Heap.ExtBut it s.heap h' -> (∃ o, h'.get? e = some o /\ o.cls = .type "StopIteration") -> E (.ref e) { s with heap := h' }) : wpAny (model prog w) A (Builtin.SmallTypes.nextOf (.ref it)) Q E s := by
 obtain ⟨oi, a1, a2, a3⟩ := id hi
 obtain ⟨ot, b1, _, nt, b3⟩ := ht
 unfold Builtin.SmallTypes.nextOf
 refine wpAny_bind (wpAny_callSpecial?_slot (name := Str.ofString "__next__") hi.typeIs PySem.F.slot_tuple_iterator_next (wpAny_call_entry PySem.F.slot_tuple_iterator_next hi.typeIs PySem.F.entry_tuple_iterator_next ?_ (PySem.F.args_tuple_iterator_next_1 _)))
 refine wpAny_bind (m := field (.ref it) 0) (wpAny_field a1 a3 (x := .ref t) rfl ?_)
 show wpAny _ _ (if (Value.ref t == Value.none) = true then _ else field (.ref it) 1 >>= _) _ _ s
 rw [if_neg (show ¬ ((Value.ref t == Value.none) = true) from Bool.false_ne_true)]
 refine wpAny_bind (wpAny_field a1 a3 (x := .int k 0) rfl (wpAny_bind (m := seqItems? (.ref t)) (wpAny_seqItems b1 b3 ?_)))
 simp only [Int.toNat_natCast, hx]
 refine wpAny_bind (wpAny_rule (wpAny_bind (wpAny_setField a1 a3 (by simp) (wpAny_bind (m := newExc (.type "StopIteration") []) ?_))))
 simp only [newExc, newTuple]; refine wpAny_bind (wpAny_newObj_type (wpAny_bind (m := firstArgMember _ _) (wpAny_of_eq (a := Value.none) (by first | rfl | (simp only [firstArgMember]; rfl)) (wpAny_newObj_type ?_ (by size_fits)))) (by size_fits))
 simp only [raiseNew]; refine wpAny_bind (wpAny_handled ?_)
 first | rw [show A.in1.handled = none from hh] | rw [hh]
 exact wpAny_bind (wpAny_pure (wpAny_throw (q _ _ (((Heap.SameBut.update ..).extBut.push _).push _) ⟨_, Heap.get?_push_size _ rfl, rfl⟩)))
structure Far (z TI TO i1 i2 t1 t2 : Addr) : Prop where
 nd : [z, TI, TO, i1, i2].Nodup
 f1 : t1 ∉ [z, TO, i1, i2]
 f2 : t2 ∉ [z, TO, i1, i2]
def W3 (z TO i1 i2 : Addr) (h h' : Heap) : Prop := ∀ c o, c ∉ [z, TO, i1, i2] -> h.get? c = some o -> h'.get? c = some o
variable {z TI TO i1 i2 t1 t2 : Addr} {xs ys : Array Value} {k1 k2 : Nat}
end
end L2
namespace L2
open PySem PySem.Spec PyProof.Rows
theorem Inv.zipped {X : Cx} {pins : List (Addr × Obj)} {σ : St} {H : Hp} {s : Shared} {z TO i1 i2 : Addr} {h' : Heap} {t' : Nat} (I : Inv X pins σ H s) (hf : ∀ b ∈ [z, TO, i1, i2], Wu X pins H b) (k : W3 z TO i1 i2 s.heap h') : Inv X pins σ H { s with heap := h', toks := t' } := by
 have nt : ∀ b u, H b = some u -> b ∉ [z, TO, i1, i2] := fun b u e hb => by
  rw [(hf b hb).1] at e
  cases e
 have nl : X.env.locals ∉ [z, TO, i1, i2] := fun hb => (hf _ hb).2.1 rfl
 refine I.step (g' := s.gens) (d' := s.drawn) (ch := [z, TO, i1, i2]) (fun b hb => ⟨(hf b hb).2.2.2.1, (hf b hb).2.1, (hf b hb).2.2.2.2.1, (hf b hb).2.2.2.2.2⟩) (fun b o _ _ hc e _ => k b o hc e) (fun b o _ _ hc e _ => ⟨o.slots, k b o hc e⟩) (fun _ _ _ _ n => n)
  (fun b o hc e => ⟨o, k b o hc e⟩) (fun _ _ e => e) (fun _ _ _ e => e) (fun b ps e => ⟨#[], by rw [e]; simp⟩) (fun m hm => ?_) (fun b u e => ?_) I.bare
 ·obtain ⟨o, es, ep, ho, r⟩ := hm
  exact ⟨o, es, ep, k _ o nl ho, r⟩
 ·refine (I.hok b u e).stay (fun c v hc q => k c v ?_ q) (fun _ q => q) fun _ _ q => q
  rcases hc with z | z
  ·rw [z]; exact nt b u e
  ·exact nt c _ z
section
variable {X : Cx}
theorem bt_zip : bootBuiltins "zip" = some (.type "zip") := by decide +kernel
end
end L2
namespace L2
open PySem PySem.Spec PyProof.Rows
section
variable {X : Cx}
theorem JQ : OpR X (compareOp .LtE) (fun x y H Q => ∃ i j, x = .str i /\ y = .str j /\ Q (.bl (!decide (j.cps.toList < i.cps.toList))) H) := by
 intro pins s σ H x y v u Q I rx ry h
 obtain ⟨i, j, rfl, rfl, q⟩ := h
 obtain ⟨t, rfl⟩ := rx
 obtain ⟨t', rfl⟩ := ry
 exact PySem.P.le_str (zU I q rfl)
end
def wJ (H : Hp) : Nat -> V -> V -> Prop
 | 0, v, u => v = u /\ Zh v = true
 | n + 1, v, u => (v = u /\ Zh v = true) \/ ∃ a b xs ys, v = .ref a /\ u = .ref b /\ H a = some (.tup xs) /\ H b = some (.tup ys) /\ Paired (wJ H n) xs ys
theorem ZS {v : V} (h : Zh v = true) : eqV v v = true := by
 cases v with
 | non => rfl
 | bl b => simp [eqV]
 | int i => simp [eqV]
 | str x => simp [eqV]
 | _ => cases h
theorem Paired.at {α β : Type} {F : α -> β -> Prop} : ∀ {l₁ : List α} {l₂ : List β}, Paired F l₁ l₂ -> ∀ (i : Nat) (x : α) (y : β), l₁[i]? = some x -> l₂[i]? = some y -> F x y
 | _, _, .nil, i, x, y, h, _ => by simp at h
 | _, _, .cons r t, 0, x, y, h, k => by simp at h k; subst h k; exact r
 | _, _, .cons r t, i + 1, x, y, h, k => Paired.at t i x y (by simpa using h) (by simpa using k)
section
variable {X : Cx} {pins : List (Addr × Obj)} {σ : St} {H : Hp} {s : Shared}
theorem Z8 {A : Around} {n : Nat} {xs ys : List V} {us vs : List Value} (ih : ∀ {v u : V} {v' u' : Value}, RelV v v' -> RelV u u' -> wJ H n v u -> SeqAt.EqAt A s v' u' true) (r1 : qe xs us) (r2 : qe ys vs) (pr : Paired (wJ H n) xs ys) (j : Nat) (h1 : j < us.toArray.size) (h2 : j < vs.toArray.size) :
  SeqAt.EqAt A s us.toArray[j] vs.toArray[j] true := by
 have l1 := r1.length
 have l2 := r2.length
 have g1 : j < us.length := by simpa using h1
 have g2 : j < vs.length := by simpa using h2
 have k1 : xs[j]? = some (xs.getD j .non) := by simp [List.getD, show j < xs.length by omega]
 have k2 : ys[j]? = some (ys.getD j .non) := by simp [List.getD, show j < ys.length by omega]
 obtain ⟨u, e1, q1⟩ := r1.get k1
 obtain ⟨v, e2, q2⟩ := r2.get k2
 have w1 : us.toArray[j] = u := by
  rw [List.getElem?_eq_getElem g1] at e1
  simpa using Option.some.inj e1
 have w2 : vs.toArray[j] = v := by
  rw [List.getElem?_eq_getElem g2] at e2
  simpa using Option.some.inj e2
 rw [w1, w2]
 exact ih q1 q2 (Paired.at pr j _ _ k1 k2)
theorem WB (I : Inv X pins σ H s) : ∀ (n : Nat) {A : Around} {v u : V} {v' u' : Value}, A.units + n < cLine -> RelV v v' -> RelV u u' -> wJ H n v u -> SeqAt.EqAt A s v' u' true
 | 0, A, v, u, v', u', _, r1, r2, h => by
  obtain ⟨rfl, f⟩ := h
  have := yU (A := A) (s := s) r1 r2 f f
  rw [ZS f] at this
  exact this
 | n + 1, A, v, u, v', u', hu, r1, r2, h => by
  rcases h with ⟨rfl, f⟩ | ⟨a, b, xs, ys, rfl, rfl, ha, hb, pr⟩
  ·have := yU (A := A) (s := s) r1 r2 f f
   rw [ZS f] at this
   exact this
  ·cases r1
   cases r2
   by_cases ab : a = b
   ·subst ab
    exact SeqAt.EqAt.same _
   ·obtain ⟨_, us, q1, p1⟩ := I.hok a _ ha
    obtain ⟨_, vs, q2, p2⟩ := I.hok b _ hb
    have ln := Paired.length pr
    have l1 := q1.length
    have l2 := q2.length
    have z := SeqAt.RcAt.tuples (A := A) (s := s) (e := fun _ => true) p1.isTup p2.isTup (by omega) (Z8 (A := A.in1) (fun {v u v' u'} a1 a2 a3 => WB I n (A := A.in1) (by show A.units + 1 + n < cLine; omega) a1 a2 a3) q1 q2 pr)
    have e : ((List.range (min us.toArray.size vs.toArray.size)).all (fun _ => true) && us.toArray.size == vs.toArray.size) = true := by
     simp; omega
    rw [e] at z
    exact SeqAt.EqAt.of_refs ab z
def rNeD (n : Nat) : R2 := fun x y H Q => ∃ a b xs ys, x = .ref a /\ y = .ref b /\ H a = some (.tup xs) /\ H b = some (.tup ys) /\ Paired (wJ H n) xs ys /\ Q (.bl false) H
theorem op_neD (n : Nat) {k : Nat} (hr : Zj k X.A) (hn : n <= 20) : OpR X (compareOp .NotEq) (rNeD n) := by
 intro pins s σ H x y v u Q I rx ry h
 obtain ⟨a, b, xs, ys, rfl, rfl, ha, hb, pr, q⟩ := h
 cases rx
 cases ry
 have hu : X.A.units + 64 < cLine := hr.units
 obtain ⟨_, us, q1, p1⟩ := I.hok a _ ha
 obtain ⟨_, vs, q2, p2⟩ := I.hok b _ hb
 have ln := Paired.length pr
 have l1 := q1.length
 have l2 := q2.length
 have z := SeqAt.RcNeAt.tuples (A := X.A) (s := s) (e := fun _ => true) p1.isTup p2.isTup (by omega) (Z8 (A := X.A.in1) (fun {v u v' u'} a1 a2 a3 => WB I n (A := X.A.in1) (by show X.A.units + 1 + n < cLine; omega) a1 a2 a3) q1 q2 pr)
 have e : (!((List.range (min us.toArray.size vs.toArray.size)).all (fun _ => true) && us.toArray.size == vs.toArray.size)) = false := by
  simp; omega
 rw [e] at z
 exact z X.prog X.w _ _ ⟨.bl _, H, I, rfl, q⟩
end
end L2
namespace L2
open PySem PySem.Spec PyProof.Rows
end L2
namespace L4
open PySem L2
def Off (p : Addr) (H H' : Hp) : Prop := ∀ b o, b ≠ p -> H b = some o -> H' b = some o
def Tk (H H' : Hp) : Prop := ∀ b xs, H b = some (.tup xs) -> H' b = some (.tup xs)
theorem Off.refl {p : Addr} {H : Hp} : Off p H H := fun _ _ _ h => h
theorem Off.trans {p : Addr} {H H1 H2 : Hp} (a : Off p H H1) (b : Off p H1 H2) : Off p H H2 := fun c o n h => b c o n (a c o n h)
theorem Off.put {p : Addr} {H : Hp} {o : HO} : Off p H (upd H p o) := fun c u n h => by rw [zE n]; exact h
theorem Off.new {p t : Addr} {H : Hp} {o : HO} (h : H t = none) : Off p H (upd H t o) := fun c u n q => by rw [zE (zF q h)]; exact q
theorem Tk.trans {H H1 H2 : Hp} (a : Tk H H1) (b : Tk H1 H2) : Tk H H2 := fun c xs h => b c xs (a c xs h)
theorem Tk.refl {H : Hp} : Tk H H := fun _ _ h => h
theorem Tk.put {t : Addr} {H : Hp} {xs : List V} {o : HO} (h : H t = some (.lst xs)) : Tk H (upd H t o) := fun c u q => by rw [zE (yA q h (by intro z; cases z))]; exact q
theorem zf {H : Hp} {p : Addr} (h : H p = none) (o : HO) : zR H (upd H p o) := fun b u q => by rw [zE (zF q h)]; exact q
theorem Off.fresh {p f : Addr} {H H' : Hp} {o : HO} (h : Off p H H') (n : H f = none) : Off p H (upd H' f o) := fun b u hb q => by rw [zE (zF q n)]; exact h b u hb q
theorem Off.of {p : Addr} {H H' : Hp} (s : zR H H') : Off p H H' := fun b o _ q => s b o q
theorem Tk.of {H H' : Hp} (s : zR H H') : Tk H H' := fun b xs q => s b _ q
theorem take_snoc {α : Type} {xs : List α} {i : Nat} {x : α} (h : xs[i]? = some x) : xs.take (i + 1) = xs.take i ++ [x] := by rw [List.take_add_one, h]; rfl
theorem zy {n : Nat} (h : n <= 1000) : n <= sizeLine := Nat.le_of_lt (zo h)
end L4
namespace Fr
end Fr
namespace Fr
end Fr
namespace L4
open PySem L2
theorem _root_.L2.zR.put {H H' : Hp} {l : Addr} {o : HO} (h : zR H H') (n : H l = none) : zR H (upd H' l o) := fun b u e => by rw [zE (zF e n)]; exact h b u e
end L4
namespace L2
open PySem PySem.Spec PyProof.Rows
variable {X : Cx}
theorem pe_globR {x : Str} {v : V} {pos : Pos} (hg : Gl X x) (hm : ∃ u, X.mg x = some u /\ RelV v u) (hd : (x == ("__debug__" : Str)) = false := by decide) : PE X (.Name x pos) (tC v) := by
 obtain ⟨u, h, r⟩ := hm
 exact pe_glob hg h r hd
end L2
namespace HT
open PySem PyProof.Rows
open PySem.SeqAt
open PySem.AutoSeq1 (wpAny_loadPart')
open PySem.MeetsSeq PySem.MeetsSeq2 PySem.MeetsSeq3
variable {prog : Program} {w : World} {A : Around} {E : Value -> Shared -> Prop} {s : Shared}
theorem getItem_tuple_whole {t sl : Addr} {items : Array Value} {vl vu : Value} {lo hi : Option Int} {Q : Value -> Shared -> Prop} (ht : IsTup s.heap t items) (hs : s.heap.IsSliceOf sl vl vu .none) (pl : IsPart vl lo) (pu : IsPart vu hi)
  (hw : sIx items.size 0 lo = 0 /\ sIx items.size items.size hi = items.size)
  (h : Q (.ref t) s) : wpAny (model prog w) A (getItem (.ref t) (.ref sl)) Q E s := by
 obtain ⟨os, hos, hcs, hds⟩ := id hs
 have hTs : s.TypeIs (.ref sl) "slice" := ⟨os, hos, hcs⟩
 unfold getItem
 try with_reducible refine wpAny_holding ?_
 first | refine wpAny_bind (wpAny_pure ?_) | skip
 refine wpAny_bind (wpAny_sequenceKey ht.typeIs (by decide) ?_)
 refine wpAny_bind (wpAny_callSpecial?_slot (name := Str.ofString "__getitem__") ht.typeIs PyProof.Rows.slot_tuple_getitem
  (wpAny_call_entry PyProof.Rows.slot_tuple_getitem ht.typeIs entry_tuple_getitem ?_ (args_tuple_getitem _ _)))
 show wpAny _ _ (Builtin.Tuple.tupleItemsOf (.ref t) >>= _) _ _ s
 refine wpAny_bind (tupleItemsOf_ ht ?_)
 refine wpAny_bind (wpAny_typeOf hTs ?_)
 rw [if_pos (by decide)]
 refine wpAny_bind (sliceApplied_gen hs pl pu ?_)
 have hyes : (((sIx items.size 0 lo : Nat) : Int) == 0 && (1 : Int) == 1 && (sIx items.size items.size hi - sIx items.size 0 lo) == items.size) = true := by
  rw [hw.1, hw.2]
  simp
 show wpAny _ _ (if (((sIx items.size 0 lo : Nat) : Int) == 0 && (1 : Int) == 1 && (sIx items.size items.size hi - sIx items.size 0 lo) == items.size) = true then _ else _) _ _ s
 rw [if_pos hyes]
 refine wpAny_bind (m := Builtin.Tuple.tupleIsExact _) (wpAny_bind (wpAny_typeOf ht.typeIs (wpAny_pure ?_)))
 rw [if_pos (by decide)]
 first
  | exact wpAny_bind (wpAny_rule (wpAny_pure ⟨_, rfl, wpAny_pure h⟩))
  | exact wpAny_rule (wpAny_pure ⟨_, rfl, wpAny_pure h⟩)
  | exact wpAny_bind (wpAny_rule ⟨_, rfl, wpAny_pure h⟩)
  | exact wpAny_pure ⟨_, rfl, wpAny_pure h⟩
end HT
namespace L2
open PySem PySem.Spec PyProof.Rows
variable {X : Cx}
def rSlTW (K : PySem.W.Frag) : V -> Option Int -> Option Int -> Hp -> VK -> Prop := fun x lo hi H Q => ∃ a xs, x = .ref a /\ SqT K H a xs /\
 (HT.sIx xs.length 0 lo = 0 /\ HT.sIx xs.length xs.length hi = xs.length) /\ Q (.ref a) H
theorem sl_tupW : SlR X (rSlTW X.K) := by
 intro pins s σ H x v vl vu lo hi sl Q I rx hs pl pu h
 obtain ⟨a, xs, rfl, hx, hw, q⟩ := h
 cases rx
 obtain ⟨its, r, ht, hz⟩ := I.tuple hx
 have hlen : its.toArray.size = xs.length := by rw [List.size_toArray]; exact r.length.symm
 refine ⟨"tuple", _, PyProof.Rows.slot_tuple_getitem.lookup, ht.typeIs, ?_⟩
 exact HT.getItem_tuple_whole ht hs pl pu (by rw [hlen]; exact hw) ⟨.ref a, H, I, rfl, q⟩
end L2
namespace L2
open PySem PySem.Spec PyProof.Rows
section
variable {X : Cx}
def rCatA (K : PySem.W.Frag) : R2 := fun x y H Q => ∃ a b xs ys, x = .ref a /\ y = .ref b /\ SqT K H a xs /\ SqT K H b ys /\ xs.length + ys.length <= sizeLine /\
 (xs = [] -> Q (.ref b) H) /\ (xs ≠ [] -> ys = [] -> Q (.ref a) H) /\ (xs ≠ [] -> ys ≠ [] -> ∀ p, H p = none -> Q (.ref p) (upd H p (.tup (xs ++ ys))))
theorem wL (K : PySem.W.Frag) (hK : X.K = K := by rfl) : OpR X (binaryOp .Add) (rCatA K) := by
 subst hK
 intro pins s σ H x y v u Q I rx ry h
 obtain ⟨a, b, xs, ys, rfl, rfl, ha, hb, hz, q0, q1, q2⟩ := h
 by_cases hx : xs = []
 ·cases rx
  cases ry
  obtain ⟨its, r1, p1, _⟩ := I.tuple ha
  obtain ⟨its2, r2, p2, _⟩ := I.tuple hb
  obtain ⟨⟨cls, dd, data, sl⟩, ho, hc, n, hd⟩ := id p1
  obtain ⟨⟨cls2, dd2, data2, sl2⟩, ho2, hc2, n2, hd2⟩ := id p2
  simp only at hc hd hc2 hd2
  subst hc hd hc2 hd2
  have hv : its = [] := (qe.nil_iff r1).mpr hx
  exact concat_meets ⟨_, ho, rfl⟩ ⟨_, ho2, rfl⟩ noFill_tuple_add seq_tuple_add PySem.F.slot_tuple_add PySem.F.entry_tuple_add (PySem.F.args_tuple_add_2 _ _)
   (tuple_addW0 a b its.toArray its2.toArray n n2 dd dd2 sl sl2 (by simp [hv])) ⟨ho, ho2, ⟨.ref b, H, I, rfl, q0 hx⟩⟩
 ·exact op_catT pins s σ H _ _ v u Q I rx ry ⟨a, b, xs, ys, rfl, rfl, ha, hb, hx, hz, q1 hx, q2 hx⟩
def rNeE : R2 := fun x y H Q => ∃ a b xs, x = .ref a /\ y = .ref b /\ H a = some (.tup xs) /\ H b = some (.tup []) /\ Q (.bl (!xs.isEmpty)) H
theorem op_neE {k : Nat} (hr : Zj k X.A) : OpR X (compareOp .NotEq) rNeE := by
 intro pins s σ H x y v u Q I rx ry h
 obtain ⟨a, b, xs, rfl, rfl, ha, hb, q⟩ := h
 cases rx
 cases ry
 have hu : X.A.units + 64 < cLine := hr.units
 obtain ⟨_, us, q1, p1⟩ := I.hok a _ ha
 obtain ⟨_, vs, q2, p2⟩ := I.hok b _ hb
 have l1 := q1.length
 have l2 := q2.length
 have z := SeqAt.RcNeAt.tuples (A := X.A) (s := s) (e := fun _ => true) p1.isTup p2.isTup (by omega) (fun j h1 h2 => by
  rw [List.size_toArray, <- l2] at h2
  exact absurd h2 (Nat.not_lt_zero _))
 have e : (!((List.range (min us.toArray.size vs.toArray.size)).all (fun _ => true) && us.toArray.size == vs.toArray.size)) = !xs.isEmpty := by
  rw [List.size_toArray, List.size_toArray, <- l1, <- l2]
  cases xs with
  | nil => rfl
  | cons x xs => simp
 rw [e] at z
 exact z X.prog X.w _ _ ⟨.bl _, H, I, rfl, q⟩
end
end L2
namespace L4
open PySem L2
end L4
namespace L4
open PySem L2 PySem.StrLaws
end L4
namespace L4
open PySem L2 PySem.StrLaws
def Small (x : Str) : Prop := ∀ c ∈ x.cps.toList, 97 <= c /\ c <= 122
end L4
namespace L4
open PySem L2
theorem map_list {α : Type} {K : PySem.W.Frag} {a D : Addr} {t : Nat} {te : TE} {σ0 : St} {H1 : Hp} {Q : VK} (as : List α) (g h : α -> V) (ha : H1 a = some (.lst (as.map g))) (hl : as.length <= 1000) (hD : H1 D = none)
  (he : ∀ z ∈ as, ∀ H' Q', zR H1 H' -> (∀ H'', zR H' H'' -> Q' (h z) H'') -> te (σ0.set t (some (g z))) H' Q')
  (q : ∀ H', zR H1 H' -> H' D = some (.lst (as.map h)) -> Q (.ref D) H') : jC (Itl K a) (jJ t) tYes te σ0 H1 Q D := by
 refine j8 (xs := as.map g) (fun i ys H' => zR H1 H' /\ ys = (as.take i).map h) ⟨zf hD _, rfl⟩ (fun i ys H' hh _ => SqL.of (hh.1 _ _ ha)) ?_ ?_
 ·rintro i ys H' x hx ⟨s1, rfl⟩ hD'
  have hi : i < (as.map g).length := (List.getElem?_eq_some_iff.mp hx).1
  rw [List.getElem?_map] at hx
  obtain ⟨z, hz, rfl⟩ := Option.map_eq_some_iff.mp hx
  refine yes (he z (List.mem_of_getElem? hz) H' _ s1 fun H'' s2 => ?_)
  rw [List.length_map] at hi
  refine ZL (by rw [List.length_map]; exact hi) jy (s2 _ _ hD') (by rw [List.length_map, List.length_take]; exact zo (by omega)) ⟨fun b o qb => ?_, ?_⟩
  ·rw [zE (zF qb hD)]
   exact s2 b o (s1 b o qb)
  ·rw [take_snoc hz, List.map_append]
   rfl
 ·rintro ys H' ⟨s1, rfl⟩ hD'
  rw [List.length_map, List.take_length] at hD'
  exact q H' s1 hD'
theorem map_str {z : Str} {D : Addr} {t : Nat} {te : TE} {σ0 : St} {H1 : Hp} {Q : VK} (h : Nat -> V) (hl : z.length <= 1000) (hD : H1 D = none)
  (he : ∀ c ∈ z.cps.toList, ∀ H' Q', zR H1 H' -> (∀ H'', zR H' H'' -> Q' (h c) H'') -> te (σ0.set t (some (.str ⟨#[c]⟩))) H' Q')
  (q : ∀ H', zR H1 H' -> H' D = some (.lst (z.cps.toList.map h)) -> Q (.ref D) H') : jC (Its z) (jJ t) tYes te σ0 H1 Q D := by
 refine comp_str (fun i ys H' => zR H1 H' /\ ys = (z.cps.toList.take i).map h) ⟨zf hD _, rfl⟩ ?_ ?_
 ·rintro i ys H' c hc ⟨s1, rfl⟩ hD'
  have hi : i < z.cps.size := (Array.getElem?_eq_some_iff.mp hc).1
  have hc' : z.cps.toList[i]? = some c := by simpa using hc
  have hs : z.cps.size = z.length := rfl
  refine yes (he c (List.mem_of_getElem? hc') H' _ s1 fun H'' s2 => ?_)
  refine ZL hi jy (s2 _ _ hD') (by rw [List.length_map, List.length_take]; exact zo (by omega)) ⟨fun b o qb => ?_, ?_⟩
  ·rw [zE (zF qb hD)]
   exact s2 b o (s1 b o qb)
  ·rw [take_snoc hc', List.map_append]
   rfl
 ·rintro ys H' ⟨s1, rfl⟩ hD'
  rw [List.take_of_length_le (by simp)] at hD'
  exact q H' s1 hD'
theorem trues {α : Type} (as : List α) : as.map (fun _ => V.bl true) = (as.map fun _ => true).map V.bl := by rw [List.map_map]; rfl
theorem y6 {α : Type} (as : List α) : (as.map fun _ => true).all id = true := by
 rw [List.all_eq_true]
 intro x hx
 obtain ⟨_, _, rfl⟩ := List.mem_map.mp hx
 rfl
theorem zR.rfl' {H : Hp} : zR H H := fun _ _ h => h
end L4
namespace L4
open PySem L2 PySem.StrLaws
inductive Th where
 | non
 | bl (b : Bool)
 | int (i : Int)
 | str (x : Str)
 | lst
 | dct
 | tup (ts : List Th)
def tyTh : Th -> Value
 | .non => .type "NoneType"
 | .bl _ => .type "bool"
 | .int _ => .type "int"
 | .str _ => .type "str"
 | .lst => .type "list"
 | .dct => .type "dict"
 | .tup _ => .type "tuple"
def isStrB : Th -> Bool
 | .str _ => true
 | _ => false
theorem y8 {K : PySem.W.Frag} (t : Th) : PySem.W.kitOne K (tyTh t) (.type "str") = some (isStrB t) := by cases t <;> first | rfl | exact Q4 _
end L4
namespace L4
open PySem L2 PySem.StrLaws
end L4
namespace L4
open PySem L2 PySem.StrLaws
end L4
namespace L4
open PySem L2
open Classical in
section
variable {X : Addr -> Prop} {H0 : Hp} {σ : St}
end
end L4
namespace L4
open PySem L2
end L4
namespace L4
open PySem L2
end L4
namespace L2
open PySem PySem.Spec PyProof.Rows
open Builtin
section
variable {X : Cx}
end
end L2
namespace L4
open PySem L2
section
variable {B : Th -> Bool} {H0 H : Hp} {l : Addr} {n : Nat} {σ : St}
end
end L4
namespace L4
open PySem L2 PySem.StrLaws
end L4
namespace L2
open PySem PySem.Spec PyProof.Rows
end L2
namespace L2
open PySem PySem.Spec PyProof.Rows PySem.Builtin PySem.Builtin.Str
section
variable {X : Cx} {e : Expr} {es : List Expr} {te ta tb : TE} {t : TA} {pos : Pos} {a b : Expr} {st : Stmt} {rest : List Stmt} {ts us : TS}
end
end L2
namespace L2
open PySem PySem.Spec PyProof.Rows PySem.Builtin PySem.Builtin.Str
section
variable {X : Cx}
theorem Q7 : OpR X (binaryOp .Mult) (fun x y H Q => ∃ (i : Str) (n : Int), x = .str i /\ y = .int n /\ 0 <= n /\ n <= 100 /\ i.length <= 10 /\ Q (.str (Txt.mul i n)) H) := by
 intro pins s σ H x y v u Q I rx ry h
 obtain ⟨i, n, rfl, rfl, n0, n1, il, q⟩ := h
 obtain ⟨t, rfl⟩ := rx
 obtain ⟨t', rfl⟩ := ry
 refine SB.mul ⟨by simp; omega, fun h1 _ => ?_, fun h1 _ => ?_⟩ fun t' k => ⟨.str _, H, I.tok _, ⟨_, rfl⟩, q⟩
 ·have h2 : (2 ^ 63 - 1 : Int) / 100 <= (2 ^ 63 - 1) / n := by
   rw [Int.le_ediv_iff_mul_le (by omega)]
   have h3 : (2 ^ 63 - 1 : Int) / 100 * n <= (2 ^ 63 - 1 : Int) / 100 * 100 := Int.mul_le_mul_of_nonneg_left n1 (by decide)
   have h4 : (2 ^ 63 - 1 : Int) / 100 * 100 <= 2 ^ 63 - 1 := by decide
   omega
  have h5 : (10 : Int) <= (2 ^ 63 - 1 : Int) / 100 := by decide
  omega
 ·have : i.length * n.toNat <= 10 * 100 := Nat.mul_le_mul il (by omega)
  unfold tooLong sizeLine
  exact decide_eq_false (by omega)
end
end L2
namespace L4
open PySem L2 PySem.StrLaws
end L4
namespace L4
open PySem L2 PySem.StrLaws
end L4
namespace L4
open PySem L2 PySem.StrLaws
section
end
end L4
namespace L4
open PySem L2
section
variable {X : Addr -> Prop} {H0 H : Hp} {σ : St} {B : Th -> Bool} {l : Addr} {n : Nat}
end
end L4
namespace L4
open PySem L2
end L4
namespace L4
open PySem L2
end L4
namespace L4
open PySem L2
end L4
namespace L4
open PySem L2
end L4
namespace L4
open PySem L2 PySem.StrLaws
section
end
end L4
namespace L4
open PySem L2 PySem.StrLaws
section
variable {X : Addr -> Prop} {H0 : Hp} {σ : St} {K : PySem.W.Frag}
end
end L4
namespace L4
open PySem L2 PySem.StrLaws
section
end
section
end
end L4
namespace L2
open PySem PySem.Spec PyProof.Rows
section
variable {X : Cx}
theorem bt_min : bootBuiltins "min" = some (.builtin "min") := by decide +kernel
theorem W4 (K : PySem.W.Frag) (hc : X.calm = true) : qZ X (.builtin "min") (fun xs H Q => ∃ i j, xs = [.int i, .int j] /\ Q (.int (if j < i then j else i)) H) := yO hc
end
theorem iteDT {c A B : Prop} [Decidable c] (hc : decide c = true) (h : A) : if decide c = true then A else B := by rw [if_pos hc]; exact h
theorem iteDF {c A B : Prop} [Decidable c] (hc : decide c = false) (h : B) : if decide c = true then A else B := by rw [if_neg (by rw [hc]; exact Bool.false_ne_true)]; exact h
theorem comp_tt2 {K : PySem.W.Frag} {a : Addr} {n : Nat} {xs : List V} {ad : Nat -> Addr} {v1 v2 : Nat -> V} {tt : TT} {te : TE} {H1 : Hp} {Q : VK} {D : Addr} {more : St} (P : Nat -> List V -> Hp -> Prop) (h0 : P 0 [] (upd H1 D (.lst []))) (hn : xs.length = n) (hx : ∀ i, i < n -> xs[i]? = some (.ref (ad i)))
  (hl : ∀ i ys H, P i ys H -> H D = some (.lst ys) -> SqT K H a xs) (ht : ∀ i ys H, i < n -> P i ys H -> SqT K H (ad i) [v1 i, v2 i])
  (hs : ∀ i ys H, i < n -> P i ys H -> H D = some (.lst ys) -> tt (some (v1 i) :: some (v2 i) :: more) H fun b H4 => if b = true then te (some (v1 i) :: some (v2 i) :: more) H4 (cYes (fun σ => ∃ x y, σ = x :: y :: more) P n D (some (v1 i) :: some (v2 i) :: more) i) else cNo (fun σ => ∃ x y, σ = x :: y :: more) P n D (some (v1 i) :: some (v2 i) :: more) i H4)
  (hd : ∀ ys H, P n ys H -> H D = some (.lst ys) -> Q (.ref D) H) :
  jC (Itt K a) (gTup K 2 (JB (jJ 0) (JB (jJ 1) gNil))) tt te (none :: none :: more) H1 Q D := by
 refine jN (xv := fun i => .ref (ad i)) (st := fun i => some (v1 i) :: some (v2 i) :: more) (fun σ => ∃ x y, σ = x :: y :: more) P ⟨_, _, rfl⟩ h0 (fun i ys H hi p hD => ⟨⟨xs, _, hl i ys H p hD, hx i hi⟩, fun x H2 y => ⟨y.1, ?_⟩⟩) (fun ys H p hD => ⟨xs, hl _ ys H p hD, Nat.le_of_eq hn⟩)
  (fun i ys σ' H K' hi r p k => ?_) hs hd
 ·have e := y.2 xs (hl i ys H p hD)
  rw [hx i hi] at e
  exact (Option.some.inj e).symm
 ·obtain ⟨x, y, rfl⟩ := r
  exact ⟨ad i, _, rfl, ht i ys H hi p, rfl, _, _, rfl, _, _, rfl, rfl, k⟩
end L2
namespace L4
open PySem L2
end L4
namespace Fr
end Fr
namespace PySem
open Sem (wp)
section
variable {prog : Program} {w : World} {A : Around} {E : Value -> Shared -> Prop} {s : Shared}
theorem wpAny_collect_range {Q : List Value -> Shared -> Prop} {it : Addr} {a b c : Int} {t u v : Tok} {n : Nat} (hh : A.handled = none) (hr : IsRange s.heap it a b c t u v) (hsmall : Builtin.Range.small a b c = true)
  (hn : Builtin.Range.rangeSize a b c = n) (hlen : n <= 2 ^ 24)
  (hQ : ∀ h' tk (acc : Array Value), (∀ b o', s.heap.get? b = some o' -> h'.get? b = some o') -> ItemsOf (fun i v => ∃ t, v = .int (a + i * c) t) acc n -> Q acc.toList { s with heap := h', toks := tk }) :
  wpAny (model prog w) A (collect (.ref it)) Q E s := by
 unfold collect
 refine wpAny_bind (wpAny_runValue (codeAny_builtin F.entry_proto_collect ?_))
 rw [Around.under_plainId F.plain_proto_collect _]
 show wpAny _ A.in1 (newList [] >>= fun l => again (.builtin "list.__iadd__" ⟨[l, .ref it], []⟩)) _ _ s
 refine wpAny_bind (wpAny_newObj_type ?_)
 refine wpAny_pure ⟨plainId_quiet F.plain_list_iadd _, codeAny_builtin F.entry_list_iadd ?_⟩
 rw [Around.under_plainId F.plain_list_iadd _]
 show wpAny _ A.in1 (Builtin.List.listExtendWith (.ref s.heap.objs.size) (.ref it) (.ref s.heap.objs.size)) _ _ _
 have hS : (s.heap.push { cls := .type "list", data := .seq ([] : List Value).toArray }).get? s.heap.objs.size = some { cls := .type "list", data := .seq #[] 0 } := Heap.get?_push_size _ rfl
 have fin' : ∀ (s' : Shared), (∃ h' tk acc c', s' = { s with heap := h', toks := tk } /\ (∀ b o, b ≠ s.heap.objs.size -> (s.heap.push { cls := .type "list", data := .seq ([] : List Value).toArray }).get? b = some o -> h'.get? b = some o) /\ h'.get? s.heap.objs.size = some { cls := .type "list", dict := none, data := .seq acc c', slots := #[] } /\ ItemsOf (fun i v => ∃ t, v = .int (a + i * c) t) acc n) -> wpAny (model prog w) A (match Value.ref s.heap.objs.size with
   | Value.ref a => do
    match (<- load a).data with
     | Data.seq xs _ => pure xs.toList
     | _ => unsupported "internal:collect"
   | _ => unsupported "internal:collect") Q E s' := by
  rintro s' ⟨h', tk, acc, c', rfl, kp, e, hacc⟩
  show wpAny _ A (load s.heap.objs.size >>= _) _ _ _
  refine wpAny_bind (wpAny_load e ?_)
  refine wpAny_pure ?_
  exact hQ h' tk acc (fun b o' hb => kp b o' (Nat.ne_of_lt (Heap.lt_size hb)) (Heap.get?_push_of_some _ hb)) hacc
 refine wpAny_mono (wpAny_extend_range (A := A) (R := fun r s' => r = .ok (.ret (.ref s.heap.objs.size)) /\ ∃ h' tk acc c', s' = { s with heap := h', toks := tk } /\ (∀ b o, b ≠ s.heap.objs.size -> (s.heap.push { cls := .type "list", data := .seq ([] : List Value).toArray }).get? b = some o -> h'.get? b = some o) /\ h'.get? s.heap.objs.size = some { cls := .type "list", dict := none, data := .seq acc c', slots := #[] } /\ ItemsOf (fun i v => ∃ t, v = .int (a + i * c) t) acc n)
  (s := { s with heap := s.heap.push { cls := .type "list", data := .seq ([] : List Value).toArray } }) hh (Heap.get?_push_of_some _ hr) hsmall hn hlen _ _ 0 hS fun h' tk acc' c' k1 k2 k3 => ⟨rfl, h', tk, acc', c', rfl, k1, k2, k3⟩) (fun fin s' h => ?_) (fun e s' h => ?_)
 ·cases fin with
  | done f =>
   obtain ⟨e, h⟩ := h
   cases e
   exact fin' _ h
  | again c' => exact ⟨h.1, codeAny_mono h.2 fun r s'' hr => by obtain ⟨rfl, hr⟩ := hr; exact fin' _ hr⟩
 ·exact absurd h.1 (by simp)
end
theorem meets_tuple_new_range (l : Addr) (a b c : Int) (t u v : Tok) (n : Nat) (hsmall : Builtin.Range.small a b c = true) (hn : Builtin.Range.rangeSize a b c = n) (hlen : n <= 2 ^ 20) :
  Meets (Builtin.«tuple.__new__» ⟨[.type "tuple", .ref l], []⟩)
   (fun A R s => A.handled = none /\ IsRange s.heap l a b c t u v /\ ∀ (h' : Heap) (tk : Nat) (acc : Array Value), (∀ b o', s.heap.get? b = some o' -> h'.get? b = some o') -> ItemsOf (fun i v => ∃ t, v = .int (a + i * c) t) acc n -> R (.ok (.ret (.ref h'.objs.size))) { s with heap := h'.push { cls := .type "tuple", data := .seq acc }, toks := tk }) :=
 .of_wp fun prog w A R s h => by
  obtain ⟨hp, g, d, tk, os⟩ := s; obtain ⟨hh, ht, h⟩ := h
  have hsub := sub_tuple_self
  have hinit := init_tuple_lookup
  have hmh := madeHere_tuple
  have hT : Shared.TypeIs ⟨hp, g, d, tk, os⟩ (.ref l) "range" := ⟨_, ht, rfl⟩
  wp_walk using AutoSeq1.wpAny_loadPart' ht, wpAny_typeOf hT, wpAny_collect_range (A := A.in1) hh ht hsmall hn (by omega)
  intro h' tk' acc hk hacc
  show wpAny _ _ (Builtin.Tuple.tupleExact acc.toList.toArray >>= fun v => ret v) _ _ _
  unfold Builtin.Tuple.tupleExact
  have hsz : acc.size <= sizeLine := by rw [hacc.1]; exact Nat.le_trans hlen (by decide +kernel)
  refine wpAny_bind (wpAny_newObj_type ?_ (by show acc.toList.toArray.size <= sizeLine; simpa using hsz))
  refine wpAny_pure ⟨_, rfl, ?_⟩
  have e : acc.toList.toArray = acc := by simp
  rw [e]
  exact h h' tk' acc hk hacc
section
variable {prog : Program} {w : World} {A : Around} {E : Value -> Shared -> Prop} {s : Shared}
theorem call_tuple_range {l : Addr} {a b c : Int} {t u v : Tok} {n : Nat} {Q : Value -> Shared -> Prop} (hh : A.handled = none) (hr : IsRange s.heap l a b c t u v) (hsmall : Builtin.Range.small a b c = true) (hn : Builtin.Range.rangeSize a b c = n) (hlen : n <= 2 ^ 20)
  (h : ∀ (h' : Heap) (tk : Nat) (acc : Array Value), (∀ b o', s.heap.get? b = some o' -> h'.get? b = some o') -> ItemsOf (fun i v => ∃ t, v = .int (a + i * c) t) acc n -> Q (.ref h'.objs.size) { s with heap := h'.push { cls := .type "tuple", data := .seq acc }, toks := tk }) :
  wpAny (model prog w) A (call (.type "tuple") [.ref l]) Q E s :=
 callType_new F.called_tuple (by decide) (F.typeCall_tuple_1 _) (F.newCall_tuple_1 _) (fun obj => F.args_object_init_2 obj _) F.entry_tuple_new
  (meets_tuple_new_range l a b c t u v n hsmall hn hlen) ⟨hh, hr, fun h' tk acc hk hacc => ⟨⟨_, Heap.get?_push_size _ rfl, rfl⟩, h h' tk acc hk hacc⟩⟩
end
end PySem
namespace PySem.SeqAt
open PySem
theorem wpAny_forRange {M : Model} {A : Around} {E : Value -> Shared -> Prop} {s : Shared} {β : Type} {a b : Nat} (f : Nat -> β -> Sem (ForInStep β)) (I : Nat -> β -> Shared -> Prop) (Q : β -> Shared -> Prop)
  (turn : ∀ i c s, a <= i -> i < b -> I i c s -> wpAny M A (f i c) (fun r s' => match r with | .yield c' => I (i + 1) c' s' | .done c' => Q c' s') E s)
  (fin : ∀ c s, I (max a b) c s -> Q c s) (c : β) (h : I a c s) : wpAny M A (forIn [a:b] c f) Q E s := by
 rw [Std.Legacy.Range.forIn_eq_forIn_range']
 have hsz : ([a:b] : Std.Legacy.Range).size = b - a := by simp [Std.Legacy.Range.size]
 show wpAny M A (forIn (List.range' a ([a:b] : Std.Legacy.Range).size 1) c f) Q E s
 rw [hsz]
 refine wpAny_forIn_list f (fun l c st => ∃ i, a <= i /\ i <= max a b /\ l = List.range' i (max a b - i) 1 /\ I i c st) Q ?_ ?_ _ c ⟨a, Nat.le_refl _, by omega, by congr 1; omega, h⟩
 ·rintro x rest c st ⟨i, hai, hib, hl, hI⟩
  have hlt : i < max a b := by
   rcases Nat.lt_or_ge i (max a b) with h' | h'
   ·exact h'
   ·rw [show max a b - i = 0 by omega] at hl; simp at hl
  obtain ⟨n, hn⟩ : ∃ n, max a b - i = n + 1 := ⟨max a b - i - 1, by omega⟩
  rw [hn, List.range'_succ] at hl
  obtain ⟨rfl, rfl⟩ := List.cons.inj hl
  refine wpAny_mono (turn x c st hai (by omega) hI) (fun r st' h' => ?_) fun _ _ h' => h'
  cases r with
  | done c' => exact h'
  | yield c' => exact ⟨x + 1, by omega, by omega, by congr 1; omega, h'⟩
 ·rintro c st ⟨i, hai, hib, hl, hI⟩
  have : i = max a b := by
   rcases Nat.lt_or_ge i (max a b) with h' | h'
   ·obtain ⟨n, hn⟩ : ∃ n, max a b - i = n + 1 := ⟨max a b - i - 1, by omega⟩
    rw [hn, List.range'_succ] at hl
    cases hl
   ·omega
  rw [this] at hI
  exact fin c st hI
theorem tuple_indexAt (l : Addr) (items : Array Value) (n : Nat) (dd : Option Addr) (sl : Array (Option Value)) (x : Value) (e : Value -> Bool) (j : Nat) (hj : j < items.size)
  (hit : e items[j] = true) (hno : ∀ m (hm : m < items.size), m < j -> e items[m] = false) :
  Meets (Builtin.«tuple.index» ⟨[.ref l, x], []⟩)
   (fun A R s => s.heap.get? l = some { cls := .type "tuple", dict := dd, data := .seq items n, slots := sl } /\ (∀ y, y ∈ items -> EqAt A.in1 s y x (e y)) /\ R (.ok (.ret (.int j s.toks))) { s with toks := s.toks + 1 }) :=
 .of_wp fun prog w A R s h => by
  obtain ⟨hp, g, d, tk, os⟩ := s; obtain ⟨hl, he, h⟩ := h
  wp_walk using AutoSeq1.wpAny_loadPart' hl, wpAny_forRange _ (fun i c s' => c = (none, ()) /\ s' = ⟨hp, g, d, tk, os⟩ /\ i <= j) _
  case turn =>
   rintro i c s' hi1 hi2 ⟨rfl, rfl, hij⟩
   have hi : i < items.size := by omega
   rw [Array.getElem?_eq_getElem hi]
   refine wpAny_bind (he _ (Array.getElem_mem hi) prog w _ _ ?_)
   rcases Nat.lt_or_ge i j with h' | h'
   ·rw [hno i hi h']
    wp_walk
    exact ⟨rfl, rfl, h'⟩
   ·have e1 : i = j := by omega
    subst e1
    rw [hit]
    wp_walk
    exact ⟨_, rfl, h⟩
  case fin =>
   rintro c s' ⟨rfl, rfl, hij⟩
   omega
  case h =>
   exact ⟨rfl, rfl, Nat.zero_le _⟩
end PySem.SeqAt
namespace L2
open PySem PySem.Spec PyProof.Rows
theorem WC : ∀ {ns : List Int} {us : List Value}, qe (ns.map V.int) us -> IntsAre us ns
 | [], us, h => by cases h; exact .nil
 | n :: ns, us, h => by
  rw [List.map_cons] at h
  cases h with
  | cons r t =>
   obtain ⟨tk, rfl⟩ := r
   exact .cons n tk (WC t)
theorem y9 {ns : List Int} {us : List Value} (h : IntsAre us ns) : qe (ns.map V.int) us := by
 induction h with
 | nil => exact .nil
 | cons n t _ ih => exact .cons ⟨t, rfl⟩ ih
theorem WD : ∀ {xs : List V} {us : List Value}, xs.length = us.length -> (∀ (i : Nat) x u, xs[i]? = some x -> us[i]? = some u -> RelV x u) -> qe xs us
 | [], [], _, _ => .nil
 | [], _ :: _, h, _ => by cases h
 | _ :: _, [], h, _ => by cases h
 | x :: xs, u :: us, h, k => .cons (k 0 x u rfl rfl) (WD (by simpa using h) fun i y v a b => k (i + 1) y v (by simpa using a) (by simpa using b))
section
variable {X : Cx}
theorem Q8 (K : PySem.W.Frag) (hK : X.K = K := by rfl) : qZ X (.builtin "sorted") (fun xs H Q => ∃ (p : Addr) (ns : List Int), xs = [.ref p] /\ SqL K H p (ns.map V.int) /\ ns.length < 64 /\ ∀ (l : Addr) (ms : List Int), H l = none -> ms.Perm ns -> ms.Pairwise (· <= ·) -> Q (.ref l) (upd H l (.lst (ms.map V.int)))) := by
 subst hK
 intro pins s σ H xs us Q I r h
 obtain ⟨p, ns, rfl, hq, h64, q⟩ := h
 obtain ⟨u, rfl, rx⟩ := vals1 r
 cases rx
 obtain ⟨its, rv, pl, hz⟩ := I.list hq
 have hl := rv.length
 rw [List.length_map] at hl
 refine sorted_ints pl.isList (WC rv) (by omega) fun out ns' a1 a2 a3 => ?_
 obtain ⟨e, he⟩ := sortedAll_at s.heap its out
 refine ⟨.ref (s.heap.objs.size + 1), _, I.laid (t' := s.toks) (o := .lst (ns'.map V.int)) (fun b o q => sortedAll_old q) (Nat.le_succ _) ?_, rfl, q _ ns' (I.hok.fresh (Nat.le_succ _)) a2 a3⟩
 refine ⟨by rw [List.length_map, a2.length_eq]; exact Nat.le_of_lt (zo (by omega)), out.toList, e, y9 a1, ?_⟩
 simpa [seqObj] using he
def rRepL (K : PySem.W.Frag) : R2 := fun x y H Q => ∃ a xs n, x = .ref a /\ y = .int n /\ H a = some (.lst xs) /\ 0 <= n /\ n <= 1000 /\ xs.length * n.toNat <= 1000 /\ ∀ p, H p = none -> Q (.ref p) (upd H p (.lst (List.replicate n.toNat xs).flatten))
theorem op_repL (K : PySem.W.Frag) : OpR X (binaryOp .Mult) (rRepL K) := by
 intro pins s σ H x y v u Q I rx ry h
 obtain ⟨a, xs, k, rfl, rfl, ha, k0, k1, hz, q⟩ := h
 cases rx
 obtain ⟨t, rfl⟩ := ry
 obtain ⟨z, its, n, r, hl, e⟩ := I.lstM ha
 have e1 : List.foldl (fun x1 x2 => x1 ++ x2) #[] (List.replicate k.toNat its.toArray) = (List.replicate k.toNat its).flatten.toArray := by
  have := JL its k.toNat []
  rw [List.nil_append] at this
  exact this
 have hnew : List.foldl (fun x1 x2 => x1 ++ x2) #[] (List.replicate (if its.toArray.isEmpty = true then 0 else k.toNat) its.toArray) = (List.replicate k.toNat its).flatten.toArray := by
  cases hi : its with
  | nil => simp
  | cons b bs =>
   rw [<- hi]
   have : its.toArray.isEmpty = false := by rw [hi]; rfl
   rw [this]
   exact e1
 refine wpAny_binaryOp_repeat_ref (T := "list") (U := "int") (by decide) ⟨_, e, rfl⟩ (fun s' => typeIs_int s' k t) noFill_list_mul F.fills_int_mul F.slot_int_rmul repeat_list F.slot_int_index.lookup
  (call_meets F.slot_int_rmul (typeIs_int s k t) F.entry_int_rmul (F.args_int_rmul_2 _ _) (int___rmul___int_list k t a its.toArray n)
   ⟨e, rfl, ⟨_, e, rfl⟩, call_meets F.slot_list_mul ⟨_, e, rfl⟩ F.entry_list_mul (F.args_list_mul_2 _ _)
    (AutoListH.list___mul___list_int_3 a its.toArray n k t (by simp [Builtin.List.listFitsIndex]; omega) (by
     have h1 : its.length * k.toNat <= 1000 := by rw [<- hl]; exact hz
     have h2 : ((its.length * k.toNat : Nat) : Int) <= 1000 := by exact_mod_cast h1
     rw [Int.natCast_mul, show ((k.toNat : Nat) : Int) = k by omega] at h2
     simp only [List.size_toArray]
     omega) (by
     have h1 : its.length * k.toNat <= 1000 := by rw [<- hl]; exact hz
     have h2 : ((its.length * k.toNat : Nat) : Int) <= 1000 := by exact_mod_cast h1
     rw [Int.natCast_mul, show ((k.toNat : Nat) : Int) = k by omega] at h2
     simp [Builtin.List.listTooLong, sizeLine]
     omega))
    ⟨e, ?_⟩⟩)
 rw [hnew]
 refine ⟨.ref s.heap.objs.size, _, I.laid (t' := s.toks) (o := .lst (List.replicate k.toNat xs).flatten) (fun b ob q => Heap.get?_push_of_some _ q) (Nat.le_refl _) ?_, rfl, q _ (I.hok.fresh (Nat.le_refl _))⟩
 exact ⟨by rw [len_rep]; exact Nat.le_of_lt (zo (by rw [Nat.mul_comm]; exact hz)), _, 0, r.rep k.toNat, Heap.get?_push_size _ rfl⟩
theorem piOr {tg l : Expr} {w1 w2 : TI} (h1 : PI X tg l w1) (h2 : PI X tg l w2) : PI X tg l (fun σ H R => w1 σ H R \/ w2 σ H R) := fun pins s σ H R I h => by
 rcases h with h | h
 ·exact h1 pins s σ H R I h
 ·exact h2 pins s σ H R I h
end
end L2
namespace L2
open PySem PySem.Spec PyProof.Rows
theorem Inv.changed {X : Cx} {pins : List (Addr × Obj)} {σ : St} {H : Hp} {s : Shared} {ch : List Addr} {h' : Heap} {t' : Nat} (I : Inv X pins σ H s) (hf : ∀ b ∈ ch, Wu X pins H b) (k : ∀ c o, c ∉ ch -> s.heap.get? c = some o -> h'.get? c = some o) : Inv X pins σ H { s with heap := h', toks := t' } := by
 have nt : ∀ b u, H b = some u -> b ∉ ch := fun b u e hb => by
  rw [(hf b hb).1] at e
  cases e
 have nl : X.env.locals ∉ ch := fun hb => (hf _ hb).2.1 rfl
 refine I.step (g' := s.gens) (d' := s.drawn) (ch := ch) (fun b hb => ⟨(hf b hb).2.2.2.1, (hf b hb).2.1, (hf b hb).2.2.2.2.1, (hf b hb).2.2.2.2.2⟩) (fun b o _ _ hc e _ => k b o hc e) (fun b o _ _ hc e _ => ⟨o.slots, k b o hc e⟩) (fun _ _ _ _ n => n)
  (fun b o hc e => ⟨o, k b o hc e⟩) (fun _ _ e => e) (fun _ _ _ e => e) (fun b ps e => ⟨#[], by rw [e]; simp⟩) (fun m hm => ?_) (fun b u e => ?_) I.bare
 ·obtain ⟨o, es, ep, ho, r⟩ := hm
  exact ⟨o, es, ep, k _ o nl ho, r⟩
 ·refine (I.hok b u e).stay (fun c v hc q => k c v ?_ q) (fun _ q => q) fun _ _ q => q
  rcases hc with z | z
  ·rw [z]; exact nt b u e
  ·exact nt c _ z
section
variable {X : Cx}
end
end L2
namespace L2
open PySem PySem.Spec PyProof.Rows
theorem Ya : bootBuiltins "divmod" = some (.builtin "divmod") := by decide +kernel
theorem JR : bootBuiltins "sorted" = some (.builtin "sorted") := by decide +kernel
end L2
namespace L4
open PySem L2
abbrev nV (i : Nat) : V := .int (i : Int)
def Wel (H : Hp) (p : Addr) : Prop := ∃ x y : Int, H p = some (.lst [.int x, .int y])
theorem Wel.put {H : Hp} {p : Addr} {x y : Int} : Wel (upd H p (.lst [.int x, .int y])) p := ⟨x, y, zd⟩
theorem Wel.same {H H' : Hp} {p : Addr} (h : Wel H p) (s : zR H H') : Wel H' p := by
 obtain ⟨x, y, e⟩ := h
 exact ⟨x, y, s _ _ e⟩
theorem Wel.off {H : Hp} {p t : Addr} {o : HO} (h : Wel H p) (n : p ≠ t) : Wel (upd H t o) p := by
 obtain ⟨x, y, e⟩ := h
 exact ⟨x, y, by rw [zE n]; exact e⟩
theorem Wel.ne {H : Hp} {p t : Addr} (h : Wel H p) (n : H t = none) : p ≠ t := by
 obtain ⟨x, y, e⟩ := h
 exact zF e n
theorem Wel.tk {p : Addr} {H H' : Hp} (h : Wel H p) (o : Off p H H') : Tk H H' := fun b xs e => by
 obtain ⟨x, y, q⟩ := h
 exact o b _ (yA e q (by intro z; cases z)) e
def jQ : Sp := fun vs H Q _ => ∃ (p : Addr) (m : Nat), vs = [.ref p, .int (m : Int)] /\ Wel H p /\ 0 < m /\ m < 1000000 /\ ∀ (v : Nat) H', v < m -> Off p H H' -> Wel H' p -> Q (nV v) H'
theorem QQ {t : Nat} {te : TE} {σ0 : St} {H1 : Hp} {Q : VK} {D p : Addr} {lo : Int} {n m : Nat} (w : Wel H1 p) (hD : H1 D = none) (hn : n <= 900)
  (he : ∀ i H' Q', i < n -> Wel H' p -> (∀ (v : Nat) H'', v < m -> Off p H' H'' -> Wel H'' p -> Q' (nV v) H'') -> te (σ0.set t (some (.int (lo + i)))) H' Q')
  (q : ∀ (vs : List Nat) H', vs.length = n -> (∀ v ∈ vs, v < m) -> Off p H1 H' -> Wel H' p -> H' D = some (.lst (vs.map nV)) -> Q (.ref D) H') : jC (Itr lo n) (jJ t) tYes te σ0 H1 Q D := by
 have pD := w.ne hD
 refine qv (fun i ys H' => ∃ vs : List Nat, ys = vs.map nV /\ vs.length = i /\ (∀ v ∈ vs, v < m) /\ Off p H1 H' /\ Wel H' p) ⟨[], rfl, rfl, (fun v h => by cases h), Off.new hD, w.off pD⟩ ?_ ?_
 ·rintro i ys H' hi ⟨vs, rfl, hl, hv, o1, w1⟩ hD'
  refine yes (he i H' _ hi w1 fun v H'' v1 o2 w2 => ?_)
  have hD2 := o2 D _ (Ne.symm pD) hD'
  refine ZL hi jy hD2 (by rw [List.length_map, hl]; exact zo (by omega)) ⟨vs ++ [v], by rw [List.map_append]; rfl, by rw [List.length_append, hl]; rfl, fun u hu => ?_, (o1.trans o2).fresh hD, w2.off pD⟩
  rcases List.mem_append.mp hu with h | h
  ·exact hv u h
  ·rw [List.mem_singleton.mp h]
   exact v1
 ·rintro ys H' ⟨vs, rfl, hl, hv, o1, w1⟩ hD'
  exact q vs H' hl hv o1 w1 hD'
def TL (n : Nat) (xs : List V) : Prop := ∃ ys : List Str, xs = ys.map V.str /\ ys.length <= n /\ ∀ y ∈ ys, y.length <= 100
theorem TL.cut {n : Nat} {xs : List V} (h : TL n xs) (lo hi : Option Int) : TL n (j5 xs lo hi) := by
 obtain ⟨ys, rfl, hl, hy⟩ := h
 unfold j5
 refine ⟨_, by rw [<- List.map_drop, <- List.map_take], ?_, fun y h => hy y (List.mem_of_mem_drop (List.mem_of_mem_take h))⟩
 rw [List.length_take, List.length_drop]
 omega
theorem TL.app {n m : Nat} {xs ys : List V} (h : TL n xs) (k : TL m ys) : TL (n + m) (xs ++ ys) := by
 obtain ⟨a, rfl, al, ah⟩ := h
 obtain ⟨b, rfl, bl, bh⟩ := k
 refine ⟨a ++ b, by rw [List.map_append], by rw [List.length_append]; omega, fun y h => ?_⟩
 rcases List.mem_append.mp h with h | h
 ·exact ah y h
 ·exact bh y h
theorem TL.mono {n m : Nat} {xs : List V} (h : TL n xs) (k : n <= m) : TL m xs := by
 obtain ⟨a, e, al, ah⟩ := h
 exact ⟨a, e, Nat.le_trans al k, ah⟩
theorem TL.len {n : Nat} {xs : List V} (h : TL n xs) : xs.length <= n := by
 obtain ⟨a, rfl, al, ah⟩ := h
 rw [List.length_map]
 exact al
theorem Q9 (x : Str) (n : Int) : (Txt.mul x n).length <= x.length * n.toNat := by
 unfold Txt.mul
 split
 ·exact Nat.zero_le _
 ·split
  ·rename_i h1 h2
   simp at h2
   rcases h2 with h2 | h2
   ·rw [h2]
    simp
   ·rw [h2]
    simp
  ·have aux : ∀ (k : Nat) (a acc : Array Nat), ((List.replicate k a).foldl (· ++ ·) acc).size = acc.size + k * a.size := by
    intro k a
    induction k with
    | zero => intro acc; simp
    | succ k ih =>
     intro acc
     rw [List.replicate_succ, List.foldl_cons, ih, Array.size_append, Nat.succ_mul]
     omega
   show ((List.replicate n.toNat x.cps).foldl (· ++ ·) #[]).size <= _
   rw [aux]
   simp
   rw [Nat.mul_comm]
   exact Nat.le_refl _
theorem wM (x y : Str) : (x ++ y).length = x.length + y.length := by
 show (x.cps ++ y.cps).size = _
 rw [Array.size_append]
 rfl
end L4
namespace Tn
def place (m : Nat) (r : List Nat) : Nat := r.foldl (fun p x => p * m + x) 0
theorem place_snoc (m : Nat) (r : List Nat) (x : Nat) : place m (r ++ [x]) = place m r * m + x := by
 unfold place
 rw [List.foldl_append]
 rfl
def Rw (m k : Nat) (r : List Nat) : Prop := r.length = k /\ ∀ x ∈ r, x < m
theorem place_lt {m : Nat} : ∀ (k : Nat) (r : List Nat), Rw m k r -> place m r < m ^ k := by
 intro k
 induction k with
 | zero =>
  intro r h
  have : r = [] := List.length_eq_zero_iff.mp h.1
  subst this
  show 0 < m ^ 0
  rw [Nat.pow_zero]
  decide
 | succ k ih =>
  intro r h
  obtain ⟨h1, h2⟩ := h
  have hne : r ≠ [] := by intro z; rw [z] at h1; cases h1
  have e := List.dropLast_concat_getLast hne
  have hr : Rw m k r.dropLast := ⟨by rw [List.length_dropLast, h1]; rfl, fun x hx => h2 x ((List.dropLast_sublist r).subset hx)⟩
  have h3 := ih _ hr
  have h4 := h2 (r.getLast hne) (List.getLast_mem hne)
  rw [<- e, place_snoc, Nat.pow_succ]
  have h5 : (place m r.dropLast + 1) * m <= m ^ k * m := Nat.mul_le_mul_right m h3
  rw [Nat.succ_mul] at h5
  omega
def at' (o : List Nat) (i : Nat) : Nat := o.getD i 0
theorem nodup_len : ∀ (m : Nat) (xs : List Nat), xs.Nodup -> (∀ x ∈ xs, x < m) -> xs.length <= m
 | 0, [], _, _ => Nat.le_refl _
 | 0, x :: xs, _, h => absurd (h x (List.mem_cons_self ..)) (Nat.not_lt_zero _)
 | m + 1, xs, nd, h => by
  have h1 := nodup_len m (xs.erase m) (nd.erase m) fun x hx => by
   obtain ⟨ne, hm⟩ := nd.mem_erase_iff.mp hx
   have := h x hm
   omega
  by_cases hm : m ∈ xs
  ·rw [List.length_erase_of_mem hm] at h1
   omega
  ·rw [List.erase_of_not_mem hm] at h1
   omega
structure Cs (m k : Nat) (cs : List Nat) : Prop where
 len : cs.length = m ^ k
 lt : ∀ x ∈ cs, x < m
theorem Cs.at_lt {m k : Nat} {cs : List Nat} (h : Cs m k cs) {p : Nat} (hp : p < m ^ k) : at' cs p < m := by
 unfold at'
 rw [List.getD_eq_getElem?_getD, List.getElem?_eq_getElem (by rw [h.len]; exact hp)]
 exact h.lt _ (List.getElem_mem _)
end Tn
namespace L2
open PySem PySem.Spec PyProof.Rows
section
variable {prog : Program} {w : World} {A : Around} {E : Value -> Shared -> Prop} {s : Shared}
variable {z TI TO i1 i2 t1 t2 : Addr} {xs ys : Array Value} {k1 k2 : Nat}
end
end L2
namespace L2
open PySem PySem.Spec PyProof.Rows
section
variable {X : Cx}
end
end L2
namespace L2
open PySem PySem.Spec PyProof.Rows
theorem Yb {a : List V} (h : a.all Zh = true) : Qv a a = true := by
 unfold Qv
 rw [Bool.and_eq_true]
 refine ⟨?_, by simp⟩
 rw [List.all_eq_true]
 intro p hp
 have h1 := List.of_mem_zip hp
 have e : p.1 = p.2 := by
  obtain ⟨i, hi⟩ := List.getElem?_of_mem hp
  rw [List.getElem?_zip_eq_some] at hi
  exact Option.some.inj (hi.1.symm.trans hi.2)
 rw [<- e]
 exact ZS (List.all_eq_true.mp h _ h1.1)
section
variable {X : Cx}
end
end L2
namespace Tn
end Tn
namespace L2
open PySem PySem.Spec PyProof.Rows
section
variable {X : Cx}
theorem kslT (K : PySem.W.Frag) (hK : X.K = K := by rfl) : SlR X (fun x lo hi H Q => rSlT K x lo hi H Q \/ rSlTW K x lo hi H Q) := by
 subst hK
 exact sl_tup.or sl_tupW
end
theorem Z9 {K : PySem.W.Frag} {a : Addr} {n : Nat} {xs : List V} {ad : Nat -> Addr} {v1 v2 v3 : Nat -> V} {tt : TT} {te : TE} {H1 : Hp} {Q : VK} {D : Addr} {more : St} (P : Nat -> List V -> Hp -> Prop) (h0 : P 0 [] (upd H1 D (.lst []))) (hn : xs.length = n) (hx : ∀ i, i < n -> xs[i]? = some (.ref (ad i)))
  (hl : ∀ i ys H, P i ys H -> H D = some (.lst ys) -> SqT K H a xs) (ht : ∀ i ys H, i < n -> P i ys H -> SqT K H (ad i) [v1 i, v2 i, v3 i])
  (hs : ∀ i ys H, i < n -> P i ys H -> H D = some (.lst ys) -> tt (some (v1 i) :: some (v2 i) :: some (v3 i) :: more) H fun b H4 => if b = true then te (some (v1 i) :: some (v2 i) :: some (v3 i) :: more) H4 (cYes (fun σ => ∃ x y z, σ = x :: y :: z :: more) P n D (some (v1 i) :: some (v2 i) :: some (v3 i) :: more) i) else cNo (fun σ => ∃ x y z, σ = x :: y :: z :: more) P n D (some (v1 i) :: some (v2 i) :: some (v3 i) :: more) i H4)
  (hd : ∀ ys H, P n ys H -> H D = some (.lst ys) -> Q (.ref D) H) :
  jC (Itt K a) (gTup K 3 (JB (jJ 0) (JB (jJ 1) (JB (jJ 2) gNil)))) tt te (none :: none :: none :: more) H1 Q D := by
 refine jN (xv := fun i => .ref (ad i)) (st := fun i => some (v1 i) :: some (v2 i) :: some (v3 i) :: more) (fun σ => ∃ x y z, σ = x :: y :: z :: more) P ⟨_, _, _, rfl⟩ h0 (fun i ys H hi p hD => ⟨⟨xs, _, hl i ys H p hD, hx i hi⟩, fun x H2 y => ⟨y.1, ?_⟩⟩) (fun ys H p hD => ⟨xs, hl _ ys H p hD, Nat.le_of_eq hn⟩)
  (fun i ys σ' H K' hi r p k => ?_) hs hd
 ·have e := y.2 xs (hl i ys H p hD)
  rw [hx i hi] at e
  exact (Option.some.inj e).symm
 ·obtain ⟨x, y, z, rfl⟩ := r
  exact ⟨ad i, _, rfl, ht i ys H hi p, rfl, _, _, rfl, _, _, rfl, _, _, rfl, rfl, k⟩
end L2
namespace L2
open PySem PySem.Spec PyProof.Rows
section
variable {X : Cx}
end
end L2
namespace L2
open PySem PySem.Spec PyProof.Rows
section
variable {κ : Type} [DecidableEq κ]
def jb (kvs : List (κ × V)) (k : κ) : Option V := (kvs.find? fun kv => decide (kv.1 = k)).map (·.2)
def Zr (kvs : List (κ × V)) (k : κ) (v : V) : List (κ × V) :=
 if (kvs.any fun kv => decide (kv.1 = k)) = true then kvs.map (fun kv => if kv.1 = k then (kv.1, v) else kv) else kvs ++ [(k, v)]
theorem qA {p : κ × V} {r : List (κ × V)} {k : κ} (e : p.1 = k) : jb (p :: r) k = some p.2 := by simp [jb, List.find?_cons, e]
theorem qo {p : κ × V} {r : List (κ × V)} {k : κ} (e : ¬ p.1 = k) : jb (p :: r) k = jb r k := by simp [jb, List.find?_cons, e]
theorem ZB (k : κ) : ∀ kvs : List (κ × V), (kvs.any fun kv => decide (kv.1 = k)) = (jb kvs k).isSome
 | [] => rfl
 | p :: r => by
  rw [List.any_cons]
  by_cases e : p.1 = k
  ·simp only [qA e, decide_eq_true e, Bool.true_or, Option.isSome_some]
  ·rw [qo e, decide_eq_false e, Bool.false_or]; exact ZB k r
theorem WE (k j : κ) (y : V) : ∀ kvs : List (κ × V), jb (kvs.map fun kv => if kv.1 = k then (kv.1, y) else kv) j = (jb kvs j).map fun x => if j = k then y else x
 | [] => rfl
 | p :: r => by
  have ih := WE k j y r
  rw [List.map_cons]
  by_cases h : p.1 = k
  ·rw [if_pos h]
   by_cases e : p.1 = j
   ·rw [qA (p := (p.1, y)) e, qA e, Option.map_some, if_pos (e.symm.trans h)]
   ·rw [qo (p := (p.1, y)) e, qo e, ih]
  ·rw [if_neg h]
   by_cases e : p.1 = j
   ·rw [qA (p := p) e, qA e, Option.map_some, if_neg (fun z => h (e.trans z))]
   ·rw [qo (p := p) e, qo e, ih]
theorem JS (k j : κ) (y : V) : ∀ kvs : List (κ × V), jb kvs k = none -> jb (kvs ++ [(k, y)]) j = if j = k then some y else jb kvs j
 | [], _ => by
  by_cases e : k = j
  ·rw [if_pos e.symm]; exact qA (p := (k, y)) e
  ·rw [if_neg (fun z => e z.symm)]; exact qo (p := (k, y)) e
 | p :: r, hn => by
  rw [List.cons_append]
  have hk : ¬ p.1 = k := fun z => by rw [qA z] at hn; cases hn
  rw [qo hk] at hn
  have ih := JS k j y r hn
  by_cases e : p.1 = j
  ·rw [qA e, qA e, if_neg (fun z => hk (e.trans z))]
  ·rw [qo e, qo e, ih]
theorem ZT (kvs : List (κ × V)) (k j : κ) (y : V) : jb (Zr kvs k y) j = if j = k then some y else jb kvs j := by
 unfold Zr
 by_cases a : (kvs.any fun kv => decide (kv.1 = k)) = true
 ·rw [if_pos a, WE]
  rw [ZB] at a
  by_cases e : j = k
  ·obtain ⟨x, hx⟩ := Option.isSome_iff_exists.mp a
   rw [if_pos e, e, hx, Option.map_some, if_pos rfl]
  ·rw [if_neg e]
   cases jb kvs j with
   | none => rfl
   | some x => rw [Option.map_some, if_neg e]
 ·rw [if_neg a]
  refine JS k j y kvs ?_
  rw [ZB] at a
  cases q : jb kvs k with
  | none => rfl
  | some x => rw [q] at a; exact (a rfl).elim
theorem jR (kvs : List (κ × V)) (k : κ) (v : V) : (Zr kvs k v).length <= kvs.length + 1 := by
 unfold Zr
 split
 ·rw [List.length_map]; omega
 ·rw [List.length_append, List.length_cons, List.length_nil]; omega
theorem Ja {kvs : List (κ × V)} {k : κ} (v : V) (h : jb kvs k = none) : Zr kvs k v = kvs ++ [(k, v)] := by
 unfold Zr
 rw [ZB, h]
 exact if_neg (by decide)
theorem yu.isSome_eq {o : Option V} {u : Option Value} (r : yu o u) : o.isSome = u.isSome := by
 cases o with
 | none => cases u with
  | none => rfl
  | some _ => exact (show False from r).elim
 | some _ => cases u with
  | none => exact (show False from r).elim
  | some _ => rfl
theorem KV.val {kvs : List (κ × V)} {vs : List (κ × Value)} (r : KV kvs vs) (k : κ) : yu (jb kvs k) (valueAt vs k) := by
 unfold KV at r
 induction r with
 | nil => exact True.intro
 | @cons p q ps qs h t ih =>
  obtain ⟨h1, h2⟩ := h
  by_cases e : p.1 = k
  ·have e' : q.1 = k := h1.symm.trans e
   have b : valueAt (q :: qs) k = some q.2 := by simp [valueAt, List.find?_cons, e']
   rw [qA e, b]; exact h2
  ·have e' : ¬ q.1 = k := fun z => e (h1.trans z)
   have b : valueAt (q :: qs) k = valueAt qs k := by simp [valueAt, List.find?_cons, e']
   rw [qo e, b]; exact ih
theorem KV.any {kvs : List (κ × V)} {vs : List (κ × Value)} (r : KV kvs vs) (k : κ) : (kvs.any fun kv => decide (kv.1 = k)) = vs.any fun kv => decide (kv.1 = k) := by
 unfold KV at r
 induction r with
 | nil => rfl
 | cons h t ih => rw [List.any_cons, List.any_cons, ih, h.1]
theorem KV.repl {kvs : List (κ × V)} {vs : List (κ × Value)} (r : KV kvs vs) (k : κ) {y : V} {u : Value} (ry : RelV y u) :
  KV (kvs.map fun kv => if kv.1 = k then (kv.1, y) else kv) (vs.map fun kv => if kv.1 = k then (kv.1, u) else kv) := by
 unfold KV at r ⊢
 induction r with
 | nil => exact .nil
 | @cons p q ps qs h t ih =>
  rw [List.map_cons, List.map_cons]
  refine .cons ?_ ih
  obtain ⟨h1, h2⟩ := h
  by_cases e : p.1 = k
  ·rw [if_pos e, if_pos (h1.symm.trans e)]; exact ⟨h1, ry⟩
  ·rw [if_neg e, if_neg (fun z => e (h1.trans z))]; exact ⟨h1, h2⟩
theorem KV.put {kvs : List (κ × V)} {vs : List (κ × Value)} (r : KV kvs vs) (k : κ) {y : V} {u : Value} (ry : RelV y u) : KV (Zr kvs k y) (stored vs k u) := by
 unfold Zr stored
 rw [r.any k]
 by_cases e : (vs.any fun kv => decide (kv.1 = k)) = true
 ·rw [if_pos e, if_pos e]; exact r.repl k ry
 ·rw [if_neg e, if_neg e]; exact Paired.snoc r ⟨rfl, ry⟩
theorem KV.keys {kvs : List (κ × V)} {vs : List (κ × Value)} (r : KV kvs vs) : kvs.map (·.1) = vs.map (·.1) := by
 unfold KV at r
 induction r with
 | nil => rfl
 | cons h t ih => rw [List.map_cons, List.map_cons, ih, h.1]
theorem KV.length {kvs : List (κ × V)} {vs : List (κ × Value)} (r : KV kvs vs) : kvs.length = vs.length := Paired.length r
end
theorem W5 {P : Program} {w : World} {k : Key} {u : Value} (r : RelV (kV k) u) : (zw P w).is k u = true := by
 cases k with
 | inl i => obtain ⟨t, e⟩ := (show ∃ t, u = Value.int i t from r); subst e; exact wx P w i t
 | inr x => obtain ⟨t, e⟩ := (show ∃ t, u = Value.str x t from r); subst e; exact wy P w x t
theorem JT {P : Program} {w : World} : ∀ {ks : List Key} {us : List Value}, qe (ks.map kV) us -> ItemsAre (zw P w) ks us
 | [], _, r => by rw [List.map_nil] at r; cases r; exact .nil
 | k :: ks, _, r => by
  rw [List.map_cons] at r
  cases r with
  | cons h t => exact .cons (W5 h) (JT t)
abbrev KT (H : Hp) : List (List Key × V) -> List (List Key × Addr × Value) -> Prop := Paired fun p q => p.1 = q.1 /\ H q.2.1 = some (.tup (p.1.map kV)) /\ RelV p.2 q.2.2
theorem KT.val {H : Hp} {kvs : List (List Key × V)} {xs : List (List Key × Addr × Value)} (r : KT H kvs xs) (k : List Key) : yu (jb kvs k) ((atKey xs k).map (·.2)) := by
 induction r with
 | nil => exact True.intro
 | @cons p q ps qs h t ih =>
  obtain ⟨h1, _, h2⟩ := h
  by_cases e : p.1 = k
  ·have e' : q.1 = k := h1.symm.trans e
   have b : atKey (q :: qs) k = some q.2 := by simp [atKey, List.find?_cons, e']
   rw [qA e, b]; exact h2
  ·have e' : ¬ q.1 = k := fun z => e (h1.trans z)
   have b : atKey (q :: qs) k = atKey qs k := by simp [atKey, List.find?_cons, e']
   rw [qo e, b]; exact ih
theorem KT.repl {H : Hp} {kvs : List (List Key × V)} {xs : List (List Key × Addr × Value)} (r : KT H kvs xs) (k : List Key) {y : V} {u : Value} (ry : RelV y u) :
  KT H (kvs.map fun kv => if kv.1 = k then (kv.1, y) else kv) (xs.map (putAt k u)) := by
 induction r with
 | nil => exact .nil
 | @cons p q ps qs h t ih =>
  rw [List.map_cons, List.map_cons]
  refine .cons ?_ ih
  obtain ⟨h1, h2, h3⟩ := h
  unfold putAt
  by_cases e : p.1 = k
  ·rw [if_pos e, if_pos (h1.symm.trans e)]; exact ⟨h1, h2, ry⟩
  ·rw [if_neg e, if_neg (fun z => e (h1.trans z))]; exact ⟨h1, h2, h3⟩
theorem KT.put {H : Hp} {kvs : List (List Key × V)} {xs : List (List Key × Addr × Value)} (r : KT H kvs xs) (k : List Key) {b : Addr} {y : V} {u : Value} (hb : H b = some (.tup (k.map kV))) (ry : RelV y u) :
  KT H (Zr kvs k y) (storedH xs k b u) := by
 have e : (kvs.any fun kv => decide (kv.1 = k)) = (atKey xs k).isSome := by
  rw [ZB, (r.val k).isSome_eq, Option.isSome_map]
 unfold Zr storedH
 rw [e]
 by_cases q : (atKey xs k).isSome = true
 ·rw [if_pos q, if_pos q]; exact r.repl k ry
 ·rw [if_neg q, if_neg q]; exact Paired.snoc r ⟨rfl, hb, ry⟩
theorem KT.keeps {H H' : Hp} {kvs : List (List Key × V)} {xs : List (List Key × Addr × Value)} (r : KT H kvs xs) (ht : ∀ b ys, H b = some (.tup ys) -> H' b = some (.tup ys)) : KT H' kvs xs :=
 Paired.mapP r fun _ _ z => ⟨z.1, ht _ _ z.2.1, z.2.2⟩
section
variable {P : Program} {w : World} {H : Hp} {h : Heap} {a : Addr}
theorem rd_of {u : HO} (ok : HOk P w H h) (e : Rd H a u) : qc P w H h a u := e.ok ok
theorem Yc {kvs : List (Key × V)} (ok : HOk P w H h) (e : Rd H a (.dK kvs)) : kvs.length <= sizeLine /\ (a == sysModules) = false /\ ∃ vs, KV kvs vs /\ h.DictOf (zw P w) a vs :=
 show qc P w H h a (.dK kvs) from rd_of ok e
theorem dk_of {kvs : List (Key × V)} (ok : HOk P w H h) (e : H a = some (.dK kvs)) : kvs.length <= sizeLine /\ (a == sysModules) = false /\ ∃ vs, KV kvs vs /\ h.DictOf (zw P w) a vs := Yc ok (.inl e)
theorem JU {ks : List Key} (ok : HOk P w H h) (e : H a = some (.tup (ks.map kV))) : (tupleKind (zw P w)).is h ks a := by
 obtain ⟨_, its, r, o, h1, h2, ⟨n, h3⟩, _⟩ := (show qc P w H h a (.tup (ks.map kV)) from ok a _ e)
 exact ⟨o, its.toArray, n, h1, h2, h3, by simpa using JT r⟩
theorem dt_rd {kvs : List (List Key × V)} (ok : HOk P w H h) (e : Rd H a (.dT kvs)) : kvs.length <= sizeLine /\ (a == sysModules) = false /\
  ∃ xs, KT H kvs xs /\ h.DictOfH (tupleKind (zw P w)) a xs := by
 obtain ⟨z, y, xs, r, o, es, ep, h1, h2, h3, h4, h5⟩ := (show qc P w H h a (.dT kvs) from rd_of ok e)
 refine ⟨z, y, xs, r, o, es, ep, h1, h2, h3, h4, fun x hx => ?_, h5⟩
 have all : ∀ {l : List (List Key × V)} {m : List (List Key × Addr × Value)}, KT H l m -> ∀ x ∈ m, (tupleKind (zw P w)).is h x.1 x.2.1 := by
  intro l m q
  induction q with
  | nil => intro x hx; exact nomatch hx
  | @cons p q ps qs hq t ih =>
   intro x hx
   rcases List.mem_cons.mp hx with e | hx
   ·subst e
    exact JU ok (by rw [<- hq.1]; exact hq.2.1)
   ·exact ih x hx
 exact all r x hx
theorem dt_of {kvs : List (List Key × V)} (ok : HOk P w H h) (e : H a = some (.dT kvs)) : kvs.length <= sizeLine /\ (a == sysModules) = false /\
  ∃ xs, KT H kvs xs /\ h.DictOfH (tupleKind (zw P w)) a xs := dt_rd ok (.inl e)
end
def W6 (H : Hp) (a : Addr) (y : V) (r : Option V) : Prop :=
 (∃ kvs k, Rd H a (.dK kvs) /\ y = kV k /\ r = jb kvs k) \/ ∃ kvs k b, Rd H a (.dT kvs) /\ y = .ref b /\ H b = some (.tup (k.map kV)) /\ r = jb kvs k
def DPut (H : Hp) (a : Addr) (y v : V) (H' : Hp) : Prop :=
 (∃ kvs k, H a = some (.dK kvs) /\ y = kV k /\ kvs.length < sizeLine /\ H' = upd H a (.dK (Zr kvs k v))) \/
 ∃ kvs k b, H a = some (.dT kvs) /\ y = .ref b /\ H b = some (.tup (k.map kV)) /\ kvs.length < sizeLine /\ H' = upd H a (.dT (Zr kvs k v))
theorem W6.k {H : Hp} {a : Addr} {kvs : List (Key × V)} {k : Key} (e : H a = some (.dK kvs)) : W6 H a (kV k) (jb kvs k) := .inl ⟨kvs, k, .inl e, rfl, rfl⟩
theorem W6.t {H : Hp} {a b : Addr} {kvs : List (List Key × V)} {k : List Key} (e : H a = some (.dT kvs)) (eb : H b = some (.tup (k.map kV))) : W6 H a (.ref b) (jb kvs k) := .inr ⟨kvs, k, b, .inl e, rfl, eb, rfl⟩
theorem DPut.k {H : Hp} {a : Addr} {kvs : List (Key × V)} {k : Key} {v : V} (e : H a = some (.dK kvs)) (hl : kvs.length < sizeLine) : DPut H a (kV k) v (upd H a (.dK (Zr kvs k v))) := .inl ⟨kvs, k, e, rfl, hl, rfl⟩
theorem DPut.t {H : Hp} {a b : Addr} {kvs : List (List Key × V)} {k : List Key} {v : V} (e : H a = some (.dT kvs)) (eb : H b = some (.tup (k.map kV))) (hl : kvs.length < sizeLine) :
  DPut H a (.ref b) v (upd H a (.dT (Zr kvs k v))) := .inr ⟨kvs, k, b, e, rfl, eb, hl, rfl⟩
section
variable {X : Cx} {pins : List (Addr × Obj)} {σ : St} {H : Hp} {s : Shared} {a : Addr} {y v : V} {u r : Value} {o : Option V} {A : Around} {E : Value -> Shared -> Prop}
theorem Inv.big (I : Inv X pins σ H s) : sysModules < s.heap.objs.size := by
 have h : mainGlobals < s.heap.objs.size := (I.mod.glob.keeps I.bk).lt
 exact Nat.lt_trans (by decide) h
theorem Yd {Q : Value -> Shared -> Prop} (hu : A.units + 1 < cLine) (I : Inv X pins σ H s) (g : W6 H a y (some v)) (ry : RelV y u) (h : ∀ w' s', Inv X pins σ H s' -> RelV v w' -> Q w' s') :
  wpAny (model X.prog X.w) A (getItem (.ref a) u) Q E s := by
 rcases g with ⟨kvs, k, e, ey, l⟩ | ⟨kvs, k, b, e, ey, eb, l⟩
 ·subst ey
  obtain ⟨z, hd, vs, rel, dd⟩ := Yc I.hok e
  obtain ⟨w', hw, rw'⟩ := yu.some_of (v := v) (o := valueAt vs k) (by rw [l]; exact rel.val k)
  exact wpAny_getItem_of (W5 ry) dd.mapOf hw (h w' _ (I.tok _) rw')
 ·subst ey
  cases (show u = Value.ref b from ry)
  obtain ⟨z, hd, xs, rel, dd⟩ := dt_rd I.hok e
  obtain ⟨w', hw, rw'⟩ := yu.some_of (v := v) (o := (atKey xs k).map (·.2)) (by rw [l]; exact rel.val k)
  obtain ⟨p, hp, hp2⟩ := Option.map_eq_some_iff.mp hw
  refine wpAny_getItem_heap (tupleKind_room_in1 hu) (JU I.hok eb) dd hp ?_
  rw [hp2]
  exact h w' _ (I.tok _) rw'
theorem Ye {Q : Value -> Shared -> Prop} (hu : A.units + 1 < cLine) (I : Inv X pins σ H s) (g : W6 H a y o) (ry : RelV y u) (h : ∀ s', Inv X pins σ H s' -> Q (.bool (!o.isSome)) s') :
  wpAny (model X.prog X.w) A (compareOp .NotIn u (.ref a)) Q E s := by
 rcases g with ⟨kvs, k, e, ey, l⟩ | ⟨kvs, k, b, e, ey, eb, l⟩
 ·subst ey
  obtain ⟨z, hd, vs, rel, dd⟩ := Yc I.hok e
  refine wpAny_notIn_of (W5 ry) hd dd.mapOf ?_
  rw [<- (rel.val k).isSome_eq, <- l]
  exact h _ (I.tok _)
 ·subst ey
  cases (show u = Value.ref b from ry)
  obtain ⟨z, hd, xs, rel, dd⟩ := dt_rd I.hok e
  refine wpAny_notIn_heap (tupleKind_room_in1 hu) (JU I.hok eb) hd dd ?_
  have q := (rel.val k).isSome_eq
  rw [Option.isSome_map] at q
  rw [<- q, <- l]
  exact h _ (I.tok _)
theorem Yf {h' : Heap} {t' : Nat} {ob : HO} (I : Inv X pins σ H s) (mu : Mut (H a)) (hs : Heap.SameBut a s.heap h') (he : ∃ q, h'.get? a = some q) (new : qc X.prog X.w (upd H a ob) h' a ob) :
  Inv X pins σ (upd H a ob) { s with heap := h', toks := t' } :=
 I.write (x := a) (e := a) mu (.inl rfl) (fun b q hb z => (hs.2 b hb).trans z) he new
theorem dk_new {P : Program} {w : World} {H' : Hp} {h' : Heap} {kvs : List (Key × V)} {vs : List (Key × Value)} (z : kvs.length <= sizeLine) (hd : (a == sysModules) = false) (rel : KV kvs vs) (dd : h'.DictOf (zw P w) a vs) :
  qc P w H' h' a (.dK kvs) := ⟨z, hd, vs, rel, dd⟩
theorem JV {H' : Hp} {Q : Unit -> Shared -> Prop} (hu : A.units + 1 < cLine) (I : Inv X pins σ H s) (g : DPut H a y v H') (ry : RelV y u) (rv : RelV v r) (h : ∀ s', Inv X pins σ H' s' -> Q () s') :
  wpAny (model X.prog X.w) A (setItem (.ref a) u r) Q E s := by
 rcases g with ⟨kvs, k, e, ey, l, eH⟩ | ⟨kvs, k, b, e, ey, eb, l, eH⟩
 ·subst ey eH
  obtain ⟨z, hd, vs, rel, dd⟩ := dk_of I.hok e
  have hz : vs.length <= sizeLine := by rw [<- rel.length]; exact z
  have hl : (Zr kvs k v).length <= sizeLine := by have := jR kvs k v; omega
  refine wpAny_setItem_pairs (hsz := hz) (W5 ry) dd fun h' dd' hs => h _ ?_
  have he : ∃ q, h'.get? a = some q := let ⟨q, _, _, hq, _⟩ := dd'; ⟨q, hq⟩
  exact Yf I (by rw [e]; exact True.intro) hs he (dk_new hl hd (rel.put k rv) dd')
 ·subst ey eH
  cases (show u = Value.ref b from ry)
  obtain ⟨z, hd, xs, rel, dd⟩ := dt_of I.hok e
  have hz : xs.length <= sizeLine := by rw [<- Paired.length rel]; exact z
  have hl : (Zr kvs k v).length <= sizeLine := by have := jR kvs k v; omega
  refine wpAny_setItem_heap (hsz := hz) (tupleKind_room_in1 hu) (JU I.hok eb) dd fun h' dd' hs => h _ ?_
  obtain ⟨q, es, ep, hq, h2, h3, h4, _, h5⟩ := dd'
  refine Yf I (by rw [e]; exact True.intro) hs ⟨q, hq⟩ ⟨hl, hd, _, (rel.put k eb rv).keeps fun c ys ec => ?_, q, es, ep, hq, h2, h3, h4, h5⟩
  rw [zE (yA ec e (fun z => nomatch z))]
  exact ec
end
section
variable {X : Cx} {pins : List (Addr × Obj)} {σ : St} {H : Hp} {s : Shared} {a : Addr} {kvs : List (Key × V)} {k : Key} {u : Value} {A : Around} {E : Value -> Shared -> Prop}
theorem d_len {Q : Value -> Shared -> Prop} (I : Inv X pins σ H s) (e : Rd H a (.dK kvs)) (h : ∀ t s', Inv X pins σ H s' -> Q (.int kvs.length t) s') : wpAny (model X.prog X.w) A (call (.builtin "len") [.ref a]) Q E s := by
 obtain ⟨z, hd, vs, rel, dd⟩ := Yc I.hok e
 refine call_len_dict hd dd (by rw [<- rel.length]; rw [sizeLine_eq] at z; omega) ?_
 rw [<- rel.length]
 exact h _ _ (I.tok _)
end
def NoSl (i : Expr) : Prop := ∀ ov iv, subscripted i false ov iv = operate [ov, iv] (getItem ov iv)
theorem Yg {prog : Program} {w : World} {A : Around} {E : Value -> Shared -> Prop} {s : Shared} {env : Env} {value slice : Expr} {pos : Pos} {T id : String} {Q : Value -> Shared -> Prop}
  (hl : typeLookup (.type T) "__getitem__" = pure (some (.builtin id))) (hs : NoSl slice)
  (h : wpAny (model prog w) A (eval value env) (fun o s₁ => wpAny (model prog w) A (eval slice env) (fun i s₂ => s₂.TypeIs o T /\ wpAny (model prog w) A (getItem o i) Q E s₂) E s₁) E s) :
  wpAny (model prog w) A (eval (.Subscript value slice pos) env) Q E s := by
 refine Subscript_ (wpAny_mono h (fun o s₁ h₁ => wpAny_mono h₁ (fun i s₂ h₂ => ?_) fun _ _ x => x) fun _ _ x => x)
 obtain ⟨hT, h₂⟩ := h₂
 unfold subscriptTail
 refine wpAny_bind ?_
 rw [getitemInPython_of_ne hT.not_modules]
 refine wpAny_bind (wpAny_specialOf hT hl ?_)
 have fin : wpAny (model prog w) A (subscripted slice false o i) (fun r s₃ => wpAny (model prog w) A (letTemporaryGo value o r >>= fun _ => pure r) Q E s₃) E s₂ := by
  rw [hs o i]
  exact wpAny_operating (wpAny_mono h₂ (fun r s₃ h₃ => wpAny_bind (wpAny_letTemporaryGo (wpAny_pure h₃))) fun _ _ x => x)
 first
  | exact wpAny_pure (wpAny_bind fin)
  | exact wpAny_bind (wpAny_pure (wpAny_bind fin))
  | exact wpAny_bind fin
theorem wN {X : Cx} {pins : List (Addr × Obj)} {σ : St} {H : Hp} {s : Shared} {a : Addr} {y : V} {o : Option V} (I : Inv X pins σ H s) (g : W6 H a y o) : s.TypeIs (.ref a) "dict" := by
 rcases g with ⟨kvs, k, e, _, _⟩ | ⟨kvs, k, b, e, _, _, _⟩
 ·obtain ⟨_, _, vs, _, dd⟩ := Yc I.hok e
  exact dd.typeIs
 ·obtain ⟨_, _, xs, _, dd⟩ := dt_rd I.hok e
  exact dd.typeIs
def tDGet (td ty : TE) : TE := fun σ H Q => td σ H fun x H1 => ty σ H1 fun y H2 => ∃ a v, x = .ref a /\ W6 H2 a y (some v) /\ Q v H2
def sDPut (td ty tv : TE) : TS := fun D σ H => tv σ H fun v H1 => td σ H1 fun x H2 => ty σ H2 fun y H3 => ∃ a H4, x = .ref a /\ DPut H3 a y v H4 /\ D.nx σ H4
section
variable {X : Cx} {o i e value : Expr} {pos pos' tpos : Pos} {td ty tv : TE}
theorem Yh (hu : X.A.units + 1 < cLine) (ho : PE X o td) (hi : PE X i ty) (hs : NoSl i) : PE X (.Subscript o i pos) (tDGet td ty) := by
 intro pins s σ H Q I h
 refine Yg PySem.F.slot_dict_getitem.lookup hs (thn (ho pins s σ H _ I h) fun u s1 ⟨x, H1, I1, rx, q1⟩ => thn (hi pins s1 σ H1 _ I1 q1) fun iv s2 ⟨y, H2, I2, ry, a, v, ex, g, q2⟩ => ?_)
 subst ex
 obtain rfl : u = Value.ref a := rx
 exact ⟨wN I2 g, Yd hu I2 g ry fun w' s3 I3 rw' => ⟨v, H2, I3, rw', q2⟩⟩
theorem ps_dput (hu : X.A.units + 1 < cLine) (ho : PE X o td) (hi : PE X i ty) (hv : PE X value tv) (hs : swapsWith value (some (.Subscript o i pos')) pos.line X.env = pure false) :
  PS X (.Assign [.Subscript o i pos'] value pos) (sDPut td ty tv) := by
 intro pins s σ H D I h
 refine wpAny_Assign_Subscript (thn (hv pins s σ H _ I h) fun r s1 ⟨v, H1, I1, rv, q1⟩ => thn (ho pins s1 σ H1 _ I1 q1) fun u s2 ⟨x, H2, I2, rx, q2⟩ => thn (hi pins s2 σ H2 _ I2 q2) fun iv s3 ⟨y, H3, I3, ry, a, H4, ex, g, q3⟩ => ?_) hs
 subst ex
 obtain rfl : u = Value.ref a := rx
 exact JV hu I3 g ry rv fun s4 I4 => ⟨σ, H4, I4, q3⟩
end
theorem dk_empty {P : Program} {w : World} {H : Hp} (h : Heap) (hb : sysModules < h.objs.size) : qc P w H (h.push { cls := .type "dict", data := .dict #[] }) h.objs.size (.dK []) :=
 ⟨Nat.zero_le _, beq_eq_false_iff_ne.mpr (Ne.symm (Nat.ne_of_lt hb)), [], .nil, Heap.DictOf.new h⟩
theorem dt_empty {P : Program} {w : World} {H : Hp} (h : Heap) (hb : sysModules < h.objs.size) : qc P w H (h.push { cls := .type "dict", data := .dict #[] }) h.objs.size (.dT []) :=
 ⟨Nat.zero_le _, beq_eq_false_iff_ne.mpr (Ne.symm (Nat.ne_of_lt hb)), [], .nil, _, #[], 0, Heap.get?_push_size _ rfl, ⟨rfl, rfl, rfl⟩, rfl, rfl, List.nodup_nil⟩
def tDNewK : TE := fun _ H Q => ∀ p, H p = none -> Q (.ref p) (upd H p (.dK []))
def tDNewT : TE := fun _ H Q => ∀ p, H p = none -> Q (.ref p) (upd H p (.dT []))
section
variable {X : Cx} {pos : Pos}
theorem WF : PE X (.Dict [] [] pos) tDNewK := fun pins s σ H Q I h =>
 wpAny_Dict_empty ⟨.ref s.heap.objs.size, _, I.laid (a := s.heap.objs.size) (o := .dK []) (t' := s.toks) (fun _ _ q => Heap.get?_push_of_some _ q) (Nat.le_refl _) (dk_empty s.heap I.big), rfl, h _ (I.hok.fresh (Nat.le_refl _))⟩
theorem pe_dnewT : PE X (.Dict [] [] pos) tDNewT := fun pins s σ H Q I h =>
 wpAny_Dict_empty ⟨.ref s.heap.objs.size, _, I.laid (a := s.heap.objs.size) (o := .dT []) (t' := s.toks) (fun _ _ q => Heap.get?_push_of_some _ q) (Nat.le_refl _) (dt_empty s.heap I.big), rfl, h _ (I.hok.fresh (Nat.le_refl _))⟩
end
section
variable {X : Cx} {pins : List (Addr × Obj)} {σ : St} {H : Hp} {s : Shared} {a : Addr} {y d : V} {u r : Value} {o : Option V} {A : Around} {E : Value -> Shared -> Prop}
end
section
end
section
variable {X : Cx} {pins : List (Addr × Obj)} {σ : St} {H : Hp} {s : Shared} {a : Addr} {kvs : List (Key × V)} {A : Around} {E : Value -> Shared -> Prop}
end
section
variable {X : Cx} {pins : List (Addr × Obj)} {σ : St} {H : Hp} {s : Shared} {a : Addr} {y : V} {u : Value} {A : Around} {E : Value -> Shared -> Prop}
end
end L2
namespace L2
open PySem PySem.Spec PyProof.Rows
theorem no_keys : typeLookup (.type "list") "keys" = pure none := am_miss_of_fast (by decide +kernel)
theorem zD : plainId "dict.update.loop" = true := by decide +kernel
theorem qw : entryFor table "dict.update.loop" = some Builtin.«dict.update.loop» := entryFor_of_fast (by kernel_rfl)
theorem jF : isSubtype (.type "AttributeError") (.type "AttributeError") = pure true := by rw [isSubtype_type]; kernel_rfl
theorem keys_by {prog : Program} {w : World} {A : Around} {E : Value -> Shared -> Prop} {s : Shared} {a : Addr} {o : Obj} {xs : Array Value} {k : Nat} {t : Tok} {Q : Value -> Shared -> Prop}
  (hx : s.heap.get? a = some o) (hc : o.cls = .type "list") (hdat : o.data = .seq xs k) (hd : o.dict = none) (hA : A.handled = none)
  (h : ∀ h' tk e, Heap.NewExcOf s.heap h' e "AttributeError" -> E (.ref e) { s with heap := h', toks := tk }) :
  wpAny (model prog w) A (getAttrBy (.ref a) (.str "keys" t) false) Q E s := by
 obtain ⟨c, dct, dat, sl⟩ := o
 simp only at hc hdat hd
 subst hc hdat hd
 obtain ⟨hp, g, d, tk, os⟩ := s
 have hT : ∀ tk', (⟨hp, g, d, tk', os⟩ : Shared).TypeIs (.ref a) "list" := fun _ => ⟨_, hx, rfl⟩
 have f1 := jF
 have f3 := PySem.F.slot_list_getattribute.lookup
 have f4 := PySem.F.slot_list_getattribute.bind (.ref a)
 have f5 := am_list_getattr_none
 unfold getAttrBy
 repeat (any_goals (first | assumption | exact hT _ | ((with_reducible show wpAny _ _ (call (Value.builtin "list.__getattribute__") _ _) _ _ _); refine call_meets PySem.F.slot_list_getattribute (hT _) am_entry_list_getattribute (PySem.F.args_list_getattribute_2 _ _) (meets_getattribute_miss_list a xs k sl "keys" _ no_keys (by decide) (by decide)) ⟨hx, hA, fun h' tk' e hx' => ?_⟩) | wp_step))
 obtain ⟨t', u', he⟩ := hx'.there
 show wpAny _ _ (getattributeRaised _ _ _ _ _ _ _) _ _ _
 unfold getattributeRaised
 repeat (any_goals (first | assumption | wp_step))
 exact h _ _ _ hx'.of
theorem JW {prog : Program} {w : World} {A : Around} {E : Value -> Shared -> Prop} {s : Shared} {a : Addr} {o : Obj} {xs : Array Value} {k : Nat} {Q : Option Value -> Shared -> Prop}
  (hx : s.heap.get? a = some o) (hc : o.cls = .type "list") (hdat : o.data = .seq xs k) (hd : o.dict = none) (hA : A.handled = none)
  (h : ∀ h' tk, (∀ b ob, s.heap.get? b = some ob -> h'.get? b = some ob) -> Q none { s with heap := h', toks := tk }) :
  wpAny (model prog w) A (getAttr? (.ref a) "keys") Q E s := by
 unfold getAttr? getAttrBy?
 refine wpAny_bind (wpAny_mkText (wpAny_bind (wpAny_attempt (keys_by (s := { s with toks := s.toks + 1 }) hx hc hdat hd hA fun h' tk e ne => ?_))))
 obtain ⟨kp, nw, ob, vs, he, h1, h2⟩ := ne
 refine wpAny_bind (wpAny_isInstance (T := "AttributeError") (b := true) ⟨ob, he, h1⟩ jF ?_)
 exact wpAny_pure (h h' tk kp)
def putAll (kvs : List (Key × V)) (ps : List (Key × V)) : List (Key × V) := ps.foldl (fun acc p => Zr acc p.1 p.2) kvs
section
variable {prog : Program} {w : World} {A : Around} {R : Result -> Shared -> Prop}
def Zl (prog : Program) (w : World) (h : Heap) (v : Value) (k : Key) (x : Value) : Prop := ∃ b key, v = .ref b /\ h.IsTuple b #[key, x] /\ (zw prog w).is k key = true
theorem Zl.keep {prog : Program} {w : World} {h h' : Heap} {v x : Value} {k : Key} {b0 : Addr} (p : Zl prog w h v k x) (hs : ∀ b o, b ≠ b0 -> h.get? b = some o -> h'.get? b = some o) (hn : ∀ o, h.get? b0 = some o -> o.cls ≠ .type "tuple") : Zl prog w h' v k x := by
 obtain ⟨b, key, rfl, ⟨o, e, c, r⟩, hk⟩ := p
 exact ⟨b, key, rfl, ⟨o, hs b o (fun z => by subst z; exact hn o e c) e, c, r⟩, hk⟩
theorem upd_loop (hh : A.handled = none) (D L it : Addr) (items : Array Value) (hDL : D ≠ L) (hDi : D ≠ it) (hLi : L ≠ it) (ps : List (Key × Value)) (hlen : ps.length = items.size) (hsz : ps.length <= sizeLine) :
  ∀ (n i : Nat) (s : Shared) (acc : List (Key × Value)), n + i = items.size -> acc.length <= i -> s.heap.IsListIter it L i -> s.heap.IsList L items -> s.heap.DictOf (zw prog w) D acc ->
  (∀ (j : Nat) (p : Key × Value) (v : Value), ps[j]? = some p -> items[j]? = some v -> Zl prog w s.heap v p.1 p.2) ->
  (∀ h' tk, h'.DictOf (zw prog w) D ((ps.drop i).foldl (fun (acc : List (Key × Value)) (p : Key × Value) => stored acc p.1 p.2) acc) -> (∀ b o, b ≠ D -> b ≠ it -> s.heap.get? b = some o -> h'.get? b = some o) -> R (.ok (.ret .none)) { s with heap := h', toks := tk }) ->
  codeAny (model prog w) A (.builtin "dict.update.loop" ⟨[.ref D, .ref it, rawInt i, .none], []⟩) R s := by
 intro n
 induction n with
 | zero =>
  intro i s acc hn hacc hit hl hd hp hR
  refine codeAny_builtin qw ?_
  rw [Around.under_plainId zD _]
  show wpAny _ A.in1 (pyNext (.ref it) >>= _) _ _ s
  refine wpAny_bind (wpAny_pyNext_list_end (show A.in1.handled = none from hh) hit hl (by simp; omega) fun h' eb => ?_)
  show wpAny _ _ (Builtin.Dict.addKeywords D [] >>= _) _ _ _
  refine wpAny_bind (wpAny_pure (wpAny_pure (hR h' s.toks ?_ fun b o _ h2 e => eb b o h2 e)))
  rw [List.drop_eq_nil_of_le (by omega)]
  exact hd.extBut eb hDi
 | succ n ih =>
  intro i s acc hn hacc hit hl hd hp hR
  have hi : i < items.size := by omega
  obtain ⟨v, hv⟩ : ∃ v, items[i]? = some v := ⟨items[i], by simp [hi]⟩
  obtain ⟨p, hpi⟩ : ∃ p, ps[i]? = some p := ⟨ps[i]'(by omega), by rw [List.getElem?_eq_getElem (by omega)]⟩
  refine codeAny_builtin qw ?_
  rw [Around.under_plainId zD _]
  show wpAny _ A.in1 (pyNext (.ref it) >>= _) _ _ s
  refine wpAny_bind (wpAny_pyNext_list_item hit hl hv fun h1 hit1 hs1 => ?_)
  obtain ⟨oi, hoi, hci, _⟩ := hit
  have hp1 : ∀ (j : Nat) (p : Key × Value) (v : Value), ps[j]? = some p -> items[j]? = some v -> Zl prog w h1 v p.1 p.2 := fun j p v a b => (hp j p v a b).keep (b0 := it) (fun b o hb e => hs1.extBut b o hb e) fun o e => by
   rw [hoi] at e; cases e; rw [hci]; decide
  obtain ⟨b, key, rfl, hb, hk⟩ := hp1 i p v hpi hv
  obtain ⟨ot, e1, e2, nt, e3⟩ := id hb
  have hd1 := hd.extBut hs1.extBut hDi
  refine wpAny_bind (wpAny_holding (wpAny_bind (wpAny_tryCatch ?_)))
  unfold Builtin.Dict.pairItems
  refine wpAny_bind (wpAny_typeOf (T := "tuple") ⟨ot, e1, e2⟩ ?_)
  rw [if_pos (by decide)]
  refine wpAny_bind (wpAny_seqItems e1 e3 (wpAny_pure ?_))
  show wpAny _ _ (holding [key, p.2] (dictSet D key p.2)) _ _ _
  refine wpAny_holding (wpAny_dictSet_pairs (hsz := by omega) hk hd1 fun h2 hd2 hs2 => ?_)
  refine wpAny_pure ⟨plainId_quiet zD _, ?_⟩
  have hl1 : h1.IsList L items := hl.extBut hs1.extBut hLi
  have hle : (stored acc p.1 p.2).length <= i + 1 := by
   unfold stored
   split
   ·rw [List.length_map]; omega
   ·rw [List.length_append]; simp; omega
  obtain ⟨oD, _, _, hoD, hcD, _⟩ := hd1
  have := ih (i + 1) { s with heap := h2, toks := s.toks + 1 } (stored acc p.1 p.2) (by omega) hle (hit1.extBut hs2.extBut (Ne.symm hDi)) (hl1.extBut hs2.extBut (Ne.symm hDL)) hd2 (fun j p v a b => (hp1 j p v a b).keep (b0 := D) (fun b o hb e => hs2.extBut b o hb e) fun o e => by
    rw [hoD] at e; cases e; rw [hcD.1]; decide) fun h' tk hd' hk' => ?_
  ·simpa using this
  ·refine hR h' tk ?_ fun b o h1 h2 e => hk' b o h1 h2 (hs2.extBut b o h1 (hs1.extBut b o h2 e))
   have e4 : ps.drop i = p :: ps.drop (i + 1) := by
    rw [List.getElem?_eq_some_iff] at hpi
    obtain ⟨h5, h6⟩ := hpi
    rw [<- h6]
    exact List.drop_eq_getElem_cons h5
   rw [e4, List.foldl_cons]
   exact hd'
theorem Qa {E : Value -> Shared -> Prop} {Q : Value -> Shared -> Prop} {s : Shared} {L : Addr} {o : Obj} {items : Array Value} {k : Nat} {ps : List (Key × Value)} (hh : A.handled = none) (hx : s.heap.get? L = some o) (hc : o.cls = .type "list") (hdat : o.data = .seq items k) (hdn : o.dict = none)
  (hlen : ps.length = items.size) (hsz : ps.length <= sizeLine) (hp : ∀ (j : Nat) (p : Key × Value) (v : Value), ps[j]? = some p -> items[j]? = some v -> Zl prog w s.heap v p.1 p.2)
  (h : ∀ h' tk, h'.DictOf (zw prog w) s.heap.objs.size (ps.foldl (fun (acc : List (Key × Value)) (p : Key × Value) => stored acc p.1 p.2) []) -> (∀ b o, s.heap.get? b = some o -> h'.get? b = some o) -> Q (.ref s.heap.objs.size) { s with heap := h', toks := tk }) :
  wpAny (model prog w) A (call (.type "dict") [.ref L]) Q E s := by
 refine callType_codes (Q₁ := fun obj s₁ => obj = .ref s.heap.objs.size /\ s₁ = { s with heap := s.heap.push { cls := .type "dict", data := .dict #[] } }) PySem.F.kt_called_dict (PySem.F.kt_typeCall_dict_1 _) PySem.F.entry_dict_init (kt_code_dict_new _ ⟨rfl, rfl⟩) ?_
 rintro obj s₁ ⟨rfl, rfl⟩
 have hnew : (s.heap.push { cls := .type "dict", data := .dict #[] }).DictOf (zw prog w) s.heap.objs.size [] := Heap.DictOf.new s.heap
 have hx1 := Heap.get?_push_of_some { cls := .type "dict", data := .dict #[] } hx
 have Llt : L < s.heap.objs.size := Heap.lt_size hx
 refine ⟨hnew.typeIs, PySem.F.args_dict_init_2 _ _, ?_⟩
 unfold Builtin.«dict.__init__»
 refine wpAny_bind ?_
 unfold Builtin.Dict.selfAndRest
 refine wpAny_bind (wpAny_notOrdered_dict hnew.typeIs ?_)
 show wpAny _ _ (pure (s.heap.objs.size, [Value.ref L])) _ _ _
 refine wpAny_pure ?_
 show wpAny _ _ (Builtin.Dict.updateFrom "dict.__init__" s.heap.objs.size (.ref L) [] .none) _ _ _
 unfold Builtin.Dict.updateFrom
 refine wpAny_bind (wpAny_typeOf (T := "list") ⟨o, hx1, hc⟩ ?_)
 rw [if_pos (by decide)]
 refine wpAny_bind (JW hx1 hc hdat hdn (show A.in1.in1.handled = none from hh) fun h' tk kp => ?_)
 rw [if_pos (by rfl)]
 have hL' : h'.IsList L items := ⟨o, kp _ _ hx1, hc, k, hdat⟩
 refine wpAny_bind (wpAny_rule (wpAny_bind (wpAny_pyIter_list hL' ?_)))
 have Dget : ∃ od, h'.get? s.heap.objs.size = some od := ⟨_, kp _ _ (Heap.get?_push_size _ rfl)⟩
 have Dlt : s.heap.objs.size < h'.objs.size := let ⟨_, e⟩ := Dget; Heap.lt_size e
 refine wpAny_pure ⟨plainId_quiet zD _, ?_⟩
 have it0 : (h'.push { cls := .type "list_iterator", data := .fields #[.ref L, .int 0 0] }).IsListIter h'.objs.size L 0 := ⟨_, Heap.get?_push_size _ rfl, rfl, rfl⟩
 have hd' : (h'.push { cls := .type "list_iterator", data := .fields #[.ref L, .int 0 0] }).DictOf (zw prog w) s.heap.objs.size [] := by
  obtain ⟨od, es, ep, e, r⟩ := hnew
  exact ⟨od, es, ep, Heap.get?_push_of_some _ (kp _ _ e), r⟩
 refine upd_loop (A := A.in1) (show A.in1.handled = none from hh) s.heap.objs.size L h'.objs.size items (Nat.ne_of_gt Llt) (Nat.ne_of_lt Dlt) (Nat.ne_of_lt (Nat.lt_trans Llt Dlt)) ps hlen hsz items.size 0 { s with heap := h'.push { cls := .type "list_iterator", data := .fields #[.ref L, .int 0 0] }, toks := tk } [] rfl (Nat.le_refl _) it0 ⟨o, Heap.get?_push_of_some _ (kp _ _ hx1), hc, k, hdat⟩ hd' (fun j p v a b => ?_) fun h2 tk2 hd2 hk2 => ?_
 ·obtain ⟨bb, key, e1, ⟨ot, e2, r⟩, e3⟩ := hp j p v a b
  exact ⟨bb, key, e1, ⟨ot, Heap.get?_push_of_some _ (kp _ _ (Heap.get?_push_of_some _ e2)), r⟩, e3⟩
 ·refine ⟨rfl, h h2 tk2 ?_ fun b ob e => hk2 b ob (Nat.ne_of_lt (Heap.lt_size e)) (Nat.ne_of_lt (Nat.lt_trans (Heap.lt_size e) Dlt)) (Heap.get?_push_of_some _ (kp _ _ (Heap.get?_push_of_some _ e)))⟩
  rw [List.drop_zero] at hd2
  exact hd2
end
def Prs (H : Hp) : List V -> List (Key × V) -> Prop := Paired fun x p => ∃ b, x = .ref b /\ H b = some (.tup [kV p.1, p.2])
theorem prs_at {P : Program} {w : World} {H : Hp} {h : Heap} (ok : HOk P w H h) {xs : List V} {ps : List (Key × V)} (r : Prs H xs ps) : ∀ {us : List Value}, qe xs us -> ∃ rs : List (Key × Value), KV ps rs /\ ∀ (j : Nat) (p : Key × Value) (v : Value), rs[j]? = some p -> us[j]? = some v -> Zl P w h v p.1 p.2 := by
 unfold Prs at r
 induction r with
 | nil =>
  intro us rv
  exact ⟨[], .nil, fun j p v e => by simp at e⟩
 | @cons x p xs ps hx t ih =>
  intro us rv
  cases rv with
  | @cons _ u _ us hu rv =>
   obtain ⟨rs, r1, r2⟩ := ih rv
   obtain ⟨b, rfl, hb⟩ := hx
   obtain ⟨_, its, ri, o, e1, e2, ⟨n, e3⟩, _⟩ := (show qc P w H h b (.tup [kV p.1, p.2]) from ok b _ hb)
   cases ri with
   | @cons _ ku _ _ hk ri =>
    cases ri with
    | @cons _ vu _ _ hv ri =>
     cases ri
     refine ⟨(p.1, vu) :: rs, .cons ⟨rfl, hv⟩ r1, fun j q v ej ev => ?_⟩
     cases j with
     | zero =>
      cases (Option.some.inj ej)
      cases (Option.some.inj ev)
      obtain rfl : u = Value.ref b := hu
      exact ⟨b, ku, rfl, ⟨o, e1, e2, n, e3⟩, W5 hk⟩
     | succ j => exact r2 j q v ej ev
theorem Yi {ps : List (Key × V)} {rs : List (Key × Value)} (r : KV ps rs) : ∀ {acc : List (Key × V)} {bcc : List (Key × Value)}, KV acc bcc -> KV (putAll acc ps) (rs.foldl (fun (acc : List (Key × Value)) (p : Key × Value) => stored acc p.1 p.2) bcc) := by
 unfold KV at r
 induction r with
 | nil => exact fun q => q
 | @cons p q ps qs h t ih =>
  intro acc bcc ra
  obtain ⟨h1, h2⟩ := h
  show KV (putAll (Zr acc p.1 p.2) ps) _
  rw [List.foldl_cons, <- h1]
  exact ih (KV.put ra p.1 h2)
theorem jm : ∀ (ps acc : List (Key × V)), (putAll acc ps).length <= acc.length + ps.length
 | [], acc => Nat.le_refl _
 | p :: ps, acc => by
  have h1 := jm ps (Zr acc p.1 p.2)
  have h2 := jR acc p.1 p.2
  show (putAll (Zr acc p.1 p.2) ps).length <= _
  rw [List.length_cons]; omega
theorem wO : bootBuiltins "dict" = some (.type "dict") := by decide +kernel
section
variable {X : Cx}
def tDictP (K : PySem.W.Frag) (ta : TA) : TE := fun σ H Q => ta σ H fun vs H1 => ∃ p xs ps, vs = [.ref p] /\ H1 p = some (.lst xs) /\ Prs H1 xs ps /\ ∀ D, H1 D = none -> Q (.ref D) (upd H1 D (.dK (putAll [] ps)))
theorem WG (K : PySem.W.Frag) {a : Expr} {ta : TA} {p pos : Pos} (hg : Gl X "dict") (hm : X.mg "dict" = none) (ha : PA X [a] ta) (hs : starEach [a] X.env = [(false, eval a X.env)] := by rfl) (hc : X.calm = true := by rfl) (hK : X.K = K := by rfl) :
  PE X (.Call (.Name "dict" p) [a] [] pos) (tDictP K ta) := by
 subst hK
 intro pins s σ H Q I h
 refine Call_ (Zi I hg hm wO (PyProof.Rows.callWith_type1 (thn (ha pos pins s σ H _ I h) fun us s1 ⟨vs, H1, I1, r1, q1⟩ => ?_) hs rfl))
 obtain ⟨p1, xs, ps, e, hq, hps, q⟩ := q1
 subst e
 obtain ⟨u1, rfl, r2⟩ := vals1 r1
 cases r2
 obtain ⟨hz, its, n, rv, eo⟩ := (show qc X.prog X.w H1 s1.heap p1 (.lst xs) from I1.hok p1 _ hq)
 obtain ⟨rs, rk, hpa⟩ := prs_at I1.hok hps rv
 have l1 : rs.length = its.toArray.size := by
  have a1 := rk.length
  have a2 := Paired.length hps
  have a3 := rv.length
  simp; omega
 have l2 : ps.length <= sizeLine := by
  have a2 := Paired.length hps
  omega
 refine Qa (ps := rs) (I1.ok.hd hc) eo rfl rfl rfl l1 (by have := rk.length; omega) (fun j p v a b => hpa j p v a (by simpa using b)) fun h' tk hd' kp => ?_
 have hb : (s1.heap.objs.size == sysModules) = false := beq_eq_false_iff_ne.mpr (Ne.symm (Nat.ne_of_lt I1.big))
 have hl : (putAll [] ps).length <= sizeLine := by
  have := jm ps []
  simp at this; omega
 exact ⟨.ref s1.heap.objs.size, _, I1.laid (a := s1.heap.objs.size) (o := .dK (putAll [] ps)) (t' := tk) kp (Nat.le_refl _) ⟨hl, hb, _, Yi rk .nil, hd'⟩, rfl, q _ (I1.hok.fresh (Nat.le_refl _))⟩
def tKGet (td ty : TE) : TE := fun σ H Q => td σ H fun x H1 => ty σ H1 fun y H2 => ∃ a kvs k v, x = .ref a /\ H2 a = some (.dK kvs) /\ y = kV k /\ jb kvs k = some v /\ Q v H2
theorem wP {o i : Expr} {pos : Pos} {td ty : TE} (ho : PE X o td) (hi : PE X i ty) (hs : NoSl i) : PE X (.Subscript o i pos) (tKGet td ty) := by
 intro pins s σ H Q I h
 refine Yg PySem.F.slot_dict_getitem.lookup hs (thn (ho pins s σ H _ I h) fun u s1 ⟨x, H1, I1, rx, q1⟩ => thn (hi pins s1 σ H1 _ I1 q1) fun iv s2 ⟨y, H2, I2, ry, a, kvs, k, v, ex, ea, ey, l, q2⟩ => ?_)
 subst ex ey
 obtain rfl : u = Value.ref a := rx
 obtain ⟨z, hd, vs, rel, dd⟩ := dk_of I2.hok ea
 obtain ⟨w', hw, rw'⟩ := yu.some_of (v := v) (o := valueAt vs k) (by rw [<- l]; exact rel.val k)
 exact ⟨dd.typeIs, wpAny_getItem_of (W5 ry) dd.mapOf hw ⟨v, H2, I2.tok _, rw', q2⟩⟩
end
end L2
namespace L2
open PySem PySem.Spec PyProof.Rows L4
theorem Prs.tk {H H' : Hp} (s : Tk H H') {xs : List V} {ps : List (Key × V)} (h : Prs H xs ps) : Prs H' xs ps := by
 unfold Prs at h ⊢
 induction h with
 | nil => exact .nil
 | cons r _ ih =>
  obtain ⟨b, e, hb⟩ := r
  exact .cons ⟨b, e, s _ _ hb⟩ ih
theorem Prs.snoc {H : Hp} {xs : List V} {ps : List (Key × V)} {p : Key × V} {b : Addr} (h : Prs H xs ps) (hb : H b = some (.tup [kV p.1, p.2])) : Prs H (xs ++ [.ref b]) (ps ++ [p]) := by
 unfold Prs at h ⊢
 induction h with
 | nil => exact .cons ⟨b, rfl, hb⟩ .nil
 | cons r _ ih => exact .cons r ih
end L2
namespace L2
open PySem PySem.Spec PyProof.Rows
section
variable {prog : Program} {w : World} {K : Type} [DecidableEq K] {knd : KeyKind prog w K} {A : Around} {E : Value -> Shared -> Prop} {s : Shared}
end
section
variable {X : Cx}
end
end L2
namespace L2
open PySem PySem.Spec PyProof.Rows
theorem Qb : Manifest.owners.lookup (String.ofList ['d', 'e', 's', 'r', 'e', 'v', 'e', 'r'].reverse) = some Manifest.sig_reversed := by kernel_rfl
theorem qW : Slot "reversed" "__next__" "reversed.__next__" :=
 .of (owner := "reversed") (n := "__next__") (by rw [typeLookup_type, builtinLookup_eq_fast]; kernel_rfl) (by decide +kernel) (by decide +kernel) (by decide +kernel)
  (by first | exact .inl (by decide +kernel) | exact .inr (by decide +kernel)) (by rw [isSubtype_type]; kernel_rfl)
theorem Zm : entryFor table "reversed.__next__" = some Builtin.«reversed.__next__» := entryFor_of_tree (by kernel_rfl)
theorem j9 (a : Value) : argsOk "reversed.__next__" ⟨[a], []⟩ := by
 unfold argsOk; rw [signature?_of (id := "reversed.__next__") (n := ['_', '_', 't', 'x', 'e', 'n', '_', '_']) (o := ['d', 'e', 's', 'r', 'e', 'v', 'e', 'r']) (by kernel_rfl) Qb]; kernel_rfl
theorem jT : Slot "reversed" "__length_hint__" "reversed.__length_hint__" :=
 .of (owner := "reversed") (n := "__length_hint__") (by rw [typeLookup_type, builtinLookup_eq_fast]; kernel_rfl) (by decide +kernel) (by decide +kernel) (by decide +kernel)
  (by first | exact .inl (by decide +kernel) | exact .inr (by decide +kernel)) (by rw [isSubtype_type]; kernel_rfl)
theorem Qw : entryFor table "reversed.__length_hint__" = some Builtin.«reversed.__length_hint__» := entryFor_of_tree (by kernel_rfl)
theorem Qc (a : Value) : argsOk "reversed.__length_hint__" ⟨[a], []⟩ := by
 unfold argsOk; rw [signature?_of (id := "reversed.__length_hint__") (n := ['_', '_', 't', 'n', 'i', 'h', '_', 'h', 't', 'g', 'n', 'e', 'l', '_', '_']) (o := ['d', 'e', 's', 'r', 'e', 'v', 'e', 'r']) (by kernel_rfl) Qb]; kernel_rfl
theorem ZC : Slot "reversed" "__iter__" "reversed.__iter__" :=
 .of (owner := "reversed") (n := "__iter__") (by rw [typeLookup_type, builtinLookup_eq_fast]; kernel_rfl) (by decide +kernel) (by decide +kernel) (by decide +kernel)
  (by first | exact .inl (by decide +kernel) | exact .inr (by decide +kernel)) (by rw [isSubtype_type]; kernel_rfl)
theorem Qd (a : Value) : argsOk "reversed.__iter__" ⟨[a], []⟩ := by
 unfold argsOk; rw [signature?_of (id := "reversed.__iter__") (n := ['_', '_', 'r', 'e', 't', 'i', '_', '_']) (o := ['d', 'e', 's', 'r', 'e', 'v', 'e', 'r']) (by kernel_rfl) Qb]; kernel_rfl
theorem Qx : entryFor table "reversed.__iter__" = some Builtin.«dict_keyiterator.__iter__» :=
 entryFor_alias (id' := "dict_keyiterator.__iter__") (by kernel_rfl) (by first | rfl | decide +kernel | (unfold String.splitOn; simp +decide [String.splitOnAux])) (by decide +kernel) (by kernel_rfl)
theorem W7 : typeLookup (.type "tuple") "__reversed__" = pure none := am_miss_of_fast (by decide +kernel)
theorem W8 : typeLookup (.type "reversed") "__len__" = pure none := am_miss_of_fast (by decide +kernel)
theorem Jb : Slot "reversed" "__init__" "object.__init__" :=
 .of (owner := "object") (n := "__init__") (by rw [typeLookup_type, builtinLookup_eq_fast]; kernel_rfl) (by decide +kernel) (by decide +kernel) (by decide +kernel)
  (by first | exact .inl (by decide +kernel) | exact .inr (by decide +kernel)) (by rw [isSubtype_type]; kernel_rfl)
theorem W9 : TypeCalled "reversed" "reversed.__new__" "object.__init__" :=
 ⟨by decide +kernel, by decide +kernel, ⟨_, _, PySem.F.mro_reversed⟩, PySem.F.made_reversed, by decide +kernel, by rw [isSubtype_type]; kernel_rfl, Jb⟩
theorem JX : isSubtype (.type "tuple") (.type "dict") = pure false := by rw [isSubtype_type]; kernel_rfl
theorem seq_nat' {v n : Nat} (h : v < n) : seqIndex? (v : Int) n = some v := by
 unfold seqIndex?
 have h1 : ¬ ((v : Int) < 0) := by omega
 simp only [h1, if_false]
 rw [if_pos (by simp; omega)]
 rfl
def revO (t : Addr) (i : Int) : Obj := { cls := .type "reversed", data := .fields #[.ref t, rawInt i] }
def Zs (h : Heap) (a t : Addr) (i : Int) : Prop := ∃ o, h.get? a = some o /\ o.cls = .type "reversed" /\ o.data = .fields #[.ref t, rawInt i]
theorem Zs.typeIs {s : Shared} {a t : Addr} {i : Int} (x : Zs s.heap a t i) : s.TypeIs (.ref a) "reversed" := let ⟨o, ho, hc, _⟩ := x; ⟨o, ho, hc⟩
theorem Zs.at {h h' : Heap} {a t : Addr} {i : Int} (x : Zs h a t i) (e : ∀ o, h.get? a = some o -> h'.get? a = some o) : Zs h' a t i := let ⟨o, ho, r⟩ := x; ⟨o, e _ ho, r⟩
theorem Jc (t : Addr) (items : Array Value) (hz : (items.size : Int) < 2 ^ 63) :
  Meets (Builtin.«reversed.__new__» ⟨[.type "reversed", .ref t], []⟩) (fun _ R s => IsTup s.heap t items /\ ∀ tk, R (.ok (.ret (.ref s.heap.objs.size))) { s with heap := s.heap.push (revO t ((items.size : Int) - 1)), toks := tk }) :=
 .of_wp fun prog w A R s h => by
  obtain ⟨ht, h⟩ := h
  have hT : s.TypeIs (.ref t) "tuple" := ht.typeIs
  unfold Builtin.«reversed.__new__»
  refine wpAny_bind (wpAny_of_eq (newClass_reversed _) ?_)
  try dsimp only
  refine wpAny_bind (wpAny_of_eq (a := ()) (by first | rfl | kernel_rfl) ?_)
  refine wpAny_bind (wpAny_of_eq (a := ()) (by first | rfl | kernel_rfl) ?_)
  try dsimp only
  refine wpAny_bind (wpAny_specialOf hT W7 ?_)
  try dsimp only
  refine wpAny_bind ?_
  refine wpAny_bind (m := isInstance (.ref t) (.type "dict")) (wpAny_isInstance (T := "tuple") (b := false) hT JX ?_)
  rw [if_neg Bool.false_ne_true]
  refine wpAny_bind (m := specialOf (.ref t) "__getitem__") (wpAny_specialOf hT PySem.F.slot_tuple_getitem.lookup ?_)
  refine wpAny_of_eq (a := true) (by first | rfl | kernel_rfl) ?_
  show wpAny _ _ (call (.builtin "len") [.ref t] >>= _) _ _ _
  refine wpAny_bind (len_tuple ht hz ?_)
  show wpAny _ _ (asInt? (.int items.size (s.toks + 1)) >>= _) _ _ _
  refine wpAny_bind (wpAny_of_eq (a := some (items.size : Int)) rfl ?_)
  show wpAny _ _ (newObj (.type "reversed") (.fields #[.ref t, rawInt ((items.size : Int) - 1)]) >>= _) _ _ _
  refine wpAny_bind (wpAny_newObj_type (wpAny_pure ?_) (by size_fits))
  exact ⟨_, rfl, h _⟩
section
variable {prog : Program} {w : World} {A : Around} {E : Value -> Shared -> Prop} {s : Shared}
theorem Zt {t : Addr} {items : Array Value} {Q : Value -> Shared -> Prop} (ht : IsTup s.heap t items) (hz : (items.size : Int) < 2 ^ 63)
  (h : ∀ tk, Q (.ref s.heap.objs.size) { s with heap := s.heap.push (revO t ((items.size : Int) - 1)), toks := tk }) : wpAny (model prog w) A (call (.type "reversed") [.ref t]) Q E s := by
 refine callType_new W9 (by decide) (PySem.F.typeCall_reversed_1 _) (PySem.F.newCall_reversed_1 _) (fun obj => PySem.F.args_object_init_2 obj _) PySem.F.entry_reversed_new (Jc t items hz) ⟨ht, fun tk => ?_⟩
 exact ⟨⟨_, Heap.get?_push_size _ rfl, rfl⟩, h tk⟩
theorem Jd {it t : Addr} {i : Nat} {items : Array Value} {x : Value} {Q : Option Value -> Shared -> Prop} (hit : Zs s.heap it t (i : Int)) (ht : IsTup s.heap t items) (hx : items[i]? = some x) (hz : (items.size : Int) < 2 ^ 63)
  (hQ : ∀ h' tk, Zs h' it t ((i : Int) - 1) -> Heap.SameBut it s.heap h' -> Q (some x) { s with heap := h', toks := tk }) : wpAny (model prog w) A (pyNext (.ref it)) Q E s := by
 obtain ⟨o, ho, hc, hd⟩ := id hit
 have hi : i < items.size := by
  rcases Nat.lt_or_ge i items.size with z | z
  ·exact z
  ·rw [Array.getElem?_eq_none z] at hx; cases hx
 unfold pyNext
 refine wpAny_bind (wpAny_attempt (wpAny_callSpecial?_slot (name := Str.ofString "__next__") hit.typeIs qW
  (wpAny_call_entry qW hit.typeIs Zm ?_ (j9 _))))
 unfold Builtin.«reversed.__next__»
 refine wpAny_bind (wpAny_of_eq (a := (Value.ref it, [])) rfl ?_)
 try dsimp only
 refine wpAny_bind (wpAny_field ho hd (x := .ref t) rfl ?_)
 refine wpAny_bind (wpAny_field ho hd (x := rawInt (i : Int)) rfl ?_)
 show wpAny _ _ (if (i : Int) < 0 then _ else _) _ _ s
 rw [if_neg (by omega)]
 show wpAny _ _ (specialOf (.ref t) "__getitem__" >>= _) _ _ s
 refine wpAny_bind (wpAny_specialOf ht.typeIs PySem.F.slot_tuple_getitem.lookup ?_)
 show wpAny _ _ (mkInt (i : Int) >>= _) _ _ _
 refine wpAny_bind (wpAny_mkInt ?_)
 refine wpAny_bind (wpAny_attempt (getItem_tuple (s := { s with toks := s.toks + 1 }) ht (by omega) (by omega) (j := i) (seq_nat' hi) hx ?_))
 show wpAny _ _ (field (.ref it) 1 >>= _) _ _ _
 refine wpAny_bind (wpAny_field ho hd (x := rawInt (i : Int)) rfl ?_)
 show wpAny _ _ (setField (.ref it) 1 (rawInt ((i : Int) - 1)) >>= _) _ _ _
 refine wpAny_bind (wpAny_setField ho hd (by simp) (wpAny_pure ⟨x, rfl, wpAny_pure (hQ _ _ ?_ (Heap.SameBut.update ..))⟩))
 exact ⟨_, Heap.get?_update_self _ ho (Obj.isFreed_of_fields (Obj.data_mapFields hd _)), (Obj.cls_mapFields ..).trans hc, by
  rw [Obj.data_mapFields hd]; simp⟩
theorem JY {it t : Addr} {Q : Option Value -> Shared -> Prop} (hh : A.handled = none) (hit : Zs s.heap it t (-1))
  (hQ : ∀ h', Heap.ExtBut it s.heap h' -> Q none { s with heap := h' }) : wpAny (model prog w) A (pyNext (.ref it)) Q E s := by
 obtain ⟨o, ho, hc, hd⟩ := id hit
 unfold pyNext
 refine wpAny_bind (wpAny_attempt (wpAny_callSpecial?_slot (name := Str.ofString "__next__") hit.typeIs qW
  (wpAny_call_entry qW hit.typeIs Zm ?_ (j9 _))))
 unfold Builtin.«reversed.__next__»
 refine wpAny_bind (wpAny_of_eq (a := (Value.ref it, [])) rfl ?_)
 try dsimp only
 refine wpAny_bind (wpAny_field ho hd (x := .ref t) rfl ?_)
 refine wpAny_bind (wpAny_field ho hd (x := rawInt (-1)) rfl ?_)
 show wpAny _ _ (if (-1 : Int) < 0 then _ else _) _ _ s
 rw [if_pos (by decide)]
 refine wpAny_bind (wpAny_rule ?_)
 refine wpAny_bind ?_
 refine wpAny_bind (m := setField (.ref it) 1 (rawInt (-1))) (wpAny_setField ho hd (by simp) ?_)
 have ho2 := Heap.get?_update_self (Obj.mapFields fun vs => vs.set! 1 (rawInt (-1))) ho (Obj.isFreed_of_fields (Obj.data_mapFields hd _))
 have hd2 := Obj.data_mapFields hd (fun vs => vs.set! 1 (rawInt (-1)))
 refine wpAny_setField ho2 hd2 (by simp) ?_
 refine wpAny_bind ?_
 show wpAny _ _ (newExc (.type "StopIteration") [] >>= _) _ _ _
 refine wpAny_bind ?_
 simp only [newExc, newTuple]
 refine wpAny_bind (wpAny_newObj_type ?_ (by size_fits))
 refine wpAny_bind (m := firstArgMember _ _) (wpAny_of_eq (a := Value.none) (by first | rfl | (simp only [firstArgMember]; rfl)) ?_)
 refine wpAny_newObj_type ?_ (by size_fits)
 simp only [raiseNew]
 refine wpAny_bind (wpAny_handled ?_)
 first | rw [show A.in1.handled = none from hh] | rw [hh]
 refine wpAny_bind (wpAny_pure (wpAny_throw ?_))
 refine wpAny_bind (wpAny_isInstance (T := "StopIteration") (b := true) ⟨_, Heap.get?_push_size _ rfl, rfl⟩ isSubtype_stop ?_)
 refine wpAny_pure (hQ _ ?_)
 intro b o' hb e
 exact Heap.get?_push_of_some _ (Heap.get?_push_of_some _ ((Heap.get?_update_other _ _ (Ne.symm hb)).trans ((Heap.get?_update_other _ _ (Ne.symm hb)).trans e)))
theorem QR {it t : Addr} {i : Int} {Q : Value -> Shared -> Prop} (hit : Zs s.heap it t i) (h : Q (.ref it) s) : wpAny (model prog w) A (pyIter (.ref it)) Q E s := by
 refine wpAny_pyIter_slot hit.typeIs ZC (wpAny_call_entry ZC hit.typeIs Qx ?_ (Qd _))
 show wpAny _ _ (ret (.ref it)) _ _ s
 exact wpAny_pure ⟨_, rfl, "reversed", _, hit.typeIs, qW.lookup, h⟩
theorem hint_rev {it t : Addr} {i : Nat} {items : Array Value} {Q : Bool -> Shared -> Prop} (hit : Zs s.heap it t ((i : Int) - 1)) (ht : IsTup s.heap t items) (hi : i <= items.size) (hz : items.size <= 1000)
  (h : ∀ b tk, Q b { s with toks := tk }) : wpAny (model prog w) A (Builtin.List.listLengthHint (.ref it)) Q E s := by
 obtain ⟨o, ho, hc, hd⟩ := id hit
 unfold Builtin.List.listLengthHint
 refine wpAny_bind (wpAny_specialOf hit.typeIs W8 ?_)
 show wpAny _ _ (specialOf (Value.ref it) (Str.ofString "__length_hint__") >>= _) _ _ _
 refine wpAny_bind (wpAny_specialOf hit.typeIs jT.lookup ?_)
 generalize hid : ("reversed.__length_hint__" : String) = id0
 wp_delta
 rw [show splitId id0 = some ("reversed", "__length_hint__") from by subst hid; decide +kernel]
 subst hid
 refine wpAny_bind (wpAny_isInstance (T := "reversed") (b := true) hit.typeIs PySem.F.sub_reversed_self ?_)
 refine wpAny_ite_split (fun hab => absurd hab (by decide)) (fun _ => ?_)
 refine wpAny_ite_split (fun hab => absurd hab (by decide +kernel)) (fun _ => ?_)
 refine wpAny_bind (wpAny_rule ?_)
 refine wpAny_bind (wpAny_of_eq (jT.bind _) ?_)
 have htl : Builtin.List.listTooLong ((i : Int).toNat) = false := by simp [Builtin.List.listTooLong, sizeLine]; omega
 have hfi : Builtin.List.listFitsIndex (i : Int) = true := by simp [Builtin.List.listFitsIndex]; omega
 refine wpAny_bind (wpAny_attempt (wpAny_call_entry jT hit.typeIs Qw ?_ (Qc _)))
 unfold Builtin.«reversed.__length_hint__»
 refine wpAny_bind (wpAny_of_eq (a := Value.ref it) rfl ?_)
 refine wpAny_bind (wpAny_field ho hd (x := .ref t) rfl ?_)
 show wpAny _ _ (if (Value.ref t == Value.none) = true then _ else call (.builtin "len") [.ref t] >>= _) _ _ s
 rw [if_neg (show ¬ ((Value.ref t == Value.none) = true) from Bool.false_ne_true)]
 refine wpAny_bind (len_tuple ht (by omega) ?_)
 show wpAny _ _ (asInt? (.int items.size (s.toks + 1)) >>= _) _ _ _
 refine wpAny_bind (wpAny_of_eq (a := some (items.size : Int)) rfl ?_)
 refine wpAny_bind (wpAny_field ho hd (x := rawInt ((i : Int) - 1)) rfl ?_)
 show wpAny _ _ (if ((items.size : Nat) : Int) < ((i : Int) - 1) + 1 then _ else _) _ _ _
 rw [if_neg (by omega)]
 rw [show (i : Int) - 1 + 1 = (i : Int) by omega]
 show wpAny _ _ (mkInt (i : Int) >>= fun v => ret v) _ _ _
 refine wpAny_bind (wpAny_mkInt (wpAny_pure ⟨_, rfl, ?_⟩))
 have h0 : ¬ ((i : Int) < 0) := by omega
 dsimp only
 generalize (i : Int) = k at *
 refine wpAny_bind (m := asInt? (Value.int k _)) (wpAny_pure ?_)
 refine wpAny_ite_split (fun hab => absurd hab (by rw [hfi]; decide)) (fun _ => ?_)
 refine wpAny_ite_split (fun hab => absurd hab h0) (fun _ => ?_)
 exact wpAny_ite_split (fun hab => absurd hab (by rw [htl]; decide)) (fun _ => wpAny_pure (h _ _))
end
theorem Walks.rev {prog : Program} {w : World} {A : Around} (hh : A.handled = none) (I l : Addr) (hne : l ≠ I) (items : Array Value) (hz : (items.size : Int) < 2 ^ 63) :
  Walks prog w A I [I, l] [I] items.size (fun i v => items[items.size - 1 - i]? = some v) (fun i h => i <= items.size /\ Zs h I l ((items.size : Int) - 1 - (i : Int)) /\ IsTup h l items) where
 sub := fun b hb => by simp at hb; simp [hb]
 frame := fun _ _ _ x hk => ⟨x.1, x.2.1.at fun o e => hk I (by simp) o e, let ⟨o, e, r⟩ := x.2.2; ⟨o, hk l (by simp) o e, r⟩⟩
 item := fun i s Q E hi x hQ => by
  have e : (items.size : Int) - 1 - (i : Int) = ((items.size - 1 - i : Nat) : Int) := by omega
  have hit := x.2.1
  rw [e] at hit
  have hx : items[items.size - 1 - i]? = some (items[items.size - 1 - i]'(by omega)) := Array.getElem?_eq_getElem (by omega)
  refine Jd hit x.2.2 hx hz fun h' tk hit' hs' => ?_
  have e2 : ((items.size - 1 - i : Nat) : Int) - 1 = (items.size : Int) - 1 - ((i + 1 : Nat) : Int) := by omega
  rw [e2] at hit'
  exact hQ _ h' tk hx ⟨hi, hit', let ⟨o, e, r⟩ := x.2.2; ⟨o, (hs'.2 l hne).trans e, r⟩⟩ fun b o hb eo => hs'.extBut b o (fun h => hb (by simp [h])) eo
 done := fun s Q E x hQ => by
  have e : (items.size : Int) - 1 - (items.size : Int) = -1 := by omega
  have hit := x.2.1
  rw [e] at hit
  exact JY hh hit fun h' he' => hQ h' s.toks fun b o hb eo => he' b o (fun h => hb (by simp [h])) eo
 self := fun _ _ _ _ x hQ => QR x.2.1 hQ
section
variable {prog : Program} {w : World} {A : Around} {s : Shared}
theorem ya {R : Result -> Shared -> Prop} {it t : Addr} {items : Array Value} (hh : A.handled = none) (hit : Zs s.heap it t ((items.size : Int) - 1)) (ht : IsTup s.heap t items) (hne : t ≠ it) (hz : items.size <= 1000)
  (S : Addr) (res : Value) (c₀ : Nat) (hS : s.heap.get? S = some { cls := .type "list", data := .seq #[] c₀ })
  (hR : ∀ h' tk acc' c', (∀ b o, b ≠ S -> b ≠ it -> s.heap.get? b = some o -> h'.get? b = some o) -> h'.get? S = some { cls := .type "list", dict := none, data := .seq acc' c', slots := #[] } ->
   ItemsOf (fun i v => items[items.size - 1 - i]? = some v) acc' items.size -> R (.ok (.ret res)) { s with heap := h', toks := tk }) :
  wpAny (model prog w) A.in1 (Builtin.List.listExtendWith (.ref S) (.ref it) res)
   (fun fin s' => match fin with | .done f => R (.ok f) s' | .again c' => c'.quiet = true /\ codeAny (model prog w) A c' R s') (fun e s' => R (.error e) s') s := by
 have hSit : S ≠ it := fun e => by
  obtain ⟨o, ho, hc, _⟩ := hit
  rw [e, ho] at hS
  have := Option.some.inj hS
  rw [this] at hc
  exact absurd hc (show ¬ (Value.type "list" = Value.type _) by decide)
 have hSt : S ≠ t := fun e => by
  obtain ⟨o, ho, hc, _⟩ := ht
  rw [e, ho] at hS
  have := Option.some.inj hS
  rw [this] at hc
  exact absurd hc (show ¬ (Value.type "list" = Value.type _) by decide)
 have hSf : S ∉ [it, t] := fun hm => by
  rcases List.mem_cons.mp hm with h | h
  ·exact hSit h
  ·exact hSt (List.mem_singleton.mp h)
 have W := (Walks.rev (prog := prog) (w := w) (A := A.in1) hh it t hne items (by omega)).toS
 have key : ∀ (h : Heap) (c₁ tk : Nat), Zs h it t ((items.size : Int) - 1) -> IsTup h t items -> (∀ b o, b ≠ S -> s.heap.get? b = some o -> h.get? b = some o) ->
   h.get? S = some { cls := .type "list", data := .seq #[] c₁ } -> codeAny (model prog w) A (.builtin "list.extend.loop" ⟨[.ref S, .ref it, res], []⟩) R { s with heap := h, toks := tk } := by
  intro h c₁ tk hit' ht' hk hS₁
  refine codeAny_extend_loopS W (by rw [sizeLine_eq]; omega) S hSf res items.size 0 _ #[] c₁ rfl (Nat.zero_le _) ⟨Nat.zero_le _, by simpa using hit', ht'⟩ hS₁ (ItemsOf.nil _) fun s' acc' c' hm hS' hacc => ?_
  rw [Moved.eq_with hm]
  refine hR s'.heap s'.toks acc' c' (fun b o hb hi e => hm.heap b o (fun hmem => ?_) (hk b o hb e)) hS' hacc
  rcases List.mem_cons.mp hmem with e' | hmem
  ·exact hb e'
  ·exact hi (List.mem_singleton.mp hmem)
 unfold Builtin.List.listExtendWith
 refine wpAny_bind (wpAny_typeOf (T := "reversed") hit.typeIs ?_)
 have h1 : Builtin.List.listSameRef (.ref S) (.ref it) = false := by simp [Builtin.List.listSameRef, hSit]
 have h2 : (Value.type "reversed" == Value.type "list") = false := by decide
 have h3 : (Value.type "reversed" == Value.type "tuple") = false := by decide
 simp only [h1, h2, h3, Bool.or_false, Bool.false_eq_true, if_false]
 refine wpAny_bind (QR hit ?_)
 refine wpAny_bind (wpAny_holding (hint_rev (i := items.size) hit ht (Nat.le_refl _) hz fun b tk => ?_))
 refine wpAny_ite_split (fun _ => ?_) (fun _ => wpAny_pure ⟨plainId_quiet PySem.F.plain_extend_loop _, key _ c₀ _ hit ht (fun b o _ e => e) hS⟩)
 refine wpAny_bind (wpAny_rule ?_)
 refine wpAny_bind ?_
 show wpAny _ _ (updateSeq S (·.push .none) >>= fun _ => updateSeq S (·.pop)) _ _ _
 refine wpAny_bind (wpAny_updateSeq hS rfl ?_)
 have hS₂ := Heap.get?_update_self (Obj.mapSeq (·.push Value.none)) hS rfl
 refine wpAny_updateSeq (hz := by seq_fits) hS₂ rfl ?_
 have hS₃ := Heap.get?_update_self (Obj.mapSeq (·.pop)) hS₂ rfl
 have oth : ∀ b o, b ≠ S -> s.heap.get? b = some o -> ((s.heap.update S (Obj.mapSeq (·.push Value.none))).update S (Obj.mapSeq (·.pop))).get? b = some o := fun b o hb e => (Heap.get?_update_other _ _ (Ne.symm hb)).trans ((Heap.get?_update_other _ _ (Ne.symm hb)).trans e)
 refine wpAny_pure ⟨plainId_quiet PySem.F.plain_extend_loop _, key _ _ _ (hit.at fun o e => oth it o (Ne.symm hSit) e) (let ⟨o, e, r⟩ := ht; ⟨o, oth t o (Ne.symm hSt) e, r⟩) oth hS₃⟩
theorem init_rev {R : Result -> Shared -> Prop} {it t : Addr} {items : Array Value} (hh : A.handled = none) (hit : Zs s.heap it t ((items.size : Int) - 1)) (ht : IsTup s.heap t items) (hne : t ≠ it) (hz : items.size <= 1000) (S : Addr) (hS : s.heap.get? S = some { cls := .type "list", data := .seq #[] })
  (hSt : S ≠ t) (hSi : S ≠ it) (hR : ∀ h' tk acc' c', (∀ b o, b ≠ S -> b ≠ it -> s.heap.get? b = some o -> h'.get? b = some o) -> h'.get? S = some { cls := .type "list", dict := none, data := .seq acc' c', slots := #[] } ->
   ItemsOf (fun i v => items[items.size - 1 - i]? = some v) acc' items.size -> R (.ok (.ret .none)) { s with heap := h', toks := tk }) :
  wpAny (model prog w) A.in1 (Builtin.«list.__init__» ⟨[.ref S, .ref it], []⟩)
   (fun fin s' => match fin with | .done f => R (.ok f) s' | .again c' => c'.quiet = true /\ codeAny (model prog w) A c' R s') (fun e s' => R (.error e) s') s := by
 show wpAny _ _ (do let old <- Builtin.List.listItems (.ref S); Builtin.List.listUpdate (.ref S) (fun _ => #[]); letGo old.toList.reverse; Builtin.List.listExtendWith (.ref S) (.ref it) .none) _ _ s
 refine wpAny_bind ?_
 unfold Builtin.List.listItems
 refine wpAny_bind (wpAny_seqItems hS rfl (wpAny_pure ?_))
 show wpAny _ _ (updateSeq S (fun _ => #[]) >>= fun _ => letGo (#[] : Array Value).toList.reverse >>= fun _ => Builtin.List.listExtendWith (.ref S) (.ref it) .none) _ _ s
 refine wpAny_bind (wpAny_updateSeq hS rfl ?_)
 have hS₂ := Heap.get?_update_self (Obj.mapSeq (fun _ => (#[] : Array Value))) hS rfl
 have oth : ∀ b o, b ≠ S -> s.heap.get? b = some o -> (s.heap.update S (Obj.mapSeq (fun _ => (#[] : Array Value)))).get? b = some o :=
  fun b o hb e => (Heap.get?_update_other _ _ (Ne.symm hb)).trans e
 refine wpAny_bind (wpAny_letGo ?_)
 refine ya hh (hit.at fun o e => oth it o (Ne.symm hSi) e) (let ⟨o, e, r⟩ := ht; ⟨o, oth t o (Ne.symm hSt) e, r⟩) hne hz S .none _ hS₂ fun h' tk acc' c' hk hS' hacc => ?_
 exact hR h' tk acc' c' (fun b o hb hi e => hk b o hb hi (oth b o hb e)) hS' hacc
theorem Je {E : Value -> Shared -> Prop} {Q : Value -> Shared -> Prop} {it t : Addr} {items : Array Value} (hh : A.handled = none) (hit : Zs s.heap it t ((items.size : Int) - 1)) (ht : IsTup s.heap t items) (hne : t ≠ it) (hz : items.size <= 1000)
  (hQ : ∀ h' tk acc' c', (∀ b o, b ≠ it -> s.heap.get? b = some o -> h'.get? b = some o) ->
   h'.get? s.heap.objs.size = some { cls := .type "list", dict := none, data := .seq acc' c', slots := #[] } -> ItemsOf (fun i v => items[items.size - 1 - i]? = some v) acc' items.size -> Q (.ref s.heap.objs.size) { s with heap := h', toks := tk }) :
  wpAny (model prog w) A (call (.type "list") [.ref it]) Q E s := by
 refine callType_codes (Q₁ := fun obj s₁ => obj = .ref s.heap.objs.size /\ s₁ = { s with heap := s.heap.push { cls := .type "list", data := .seq #[] } }) PySem.F.called_list (PySem.F.typeCall_list_1 _) PySem.F.entry_list_init
  (code_list_new _ ⟨rfl, rfl⟩) fun obj s₁ h₁ => ?_
 obtain ⟨rfl, rfl⟩ := h₁
 have hS : (s.heap.push { cls := .type "list", data := .seq #[] }).get? s.heap.objs.size = some { cls := .type "list", data := .seq #[] } := Heap.get?_push_size _ rfl
 have lt1 : it < s.heap.objs.size := let ⟨_, e, _⟩ := hit; Heap.lt_size e
 have lt2 : t < s.heap.objs.size := let ⟨_, e, _⟩ := ht; Heap.lt_size e
 refine ⟨⟨_, hS, rfl⟩, PySem.F.args_list_init_2 _ _, init_rev (A := A.in1) hh (hit.at fun o e => Heap.get?_push_of_some _ e) (let ⟨o, e, r⟩ := ht; ⟨o, Heap.get?_push_of_some _ e, r⟩) hne hz _ hS (Nat.ne_of_gt lt2) (Nat.ne_of_gt lt1) fun h' tk acc' c' hk hS' hacc => ?_⟩
 exact ⟨rfl, hQ h' tk acc' c' (fun b o hi e => hk b o (Nat.ne_of_lt (Heap.lt_size e)) hi (Heap.get?_push_of_some _ e)) hS' hacc⟩
end
end L2
namespace L2
open PySem PySem.Spec PyProof.Rows
theorem wQ : bootBuiltins "reversed" = some (.type "reversed") := by decide +kernel
theorem vals_rev {xs : List V} {its : List Value} {acc : Array Value} (r : qe xs its) (h : ItemsOf (fun i v => its.toArray[its.toArray.size - 1 - i]? = some v) acc its.toArray.size) : qe xs.reverse acc.toList := by
 have l := r.length
 refine WD (by rw [List.length_reverse]; have := h.1; simp at this ⊢; omega) fun i x u hx hu => ?_
 have hi : i < xs.length := by
  have := (List.getElem?_eq_some_iff.mp hx).1
  rw [List.length_reverse] at this
  exact this
 rw [List.getElem?_reverse hi] at hx
 obtain ⟨u', hu', ru⟩ := r.get hx
 have e := h.2 i u (by simpa using hu)
 have e2 : its[its.length - 1 - i]? = some u := by simpa using e
 rw [<- l, hu'] at e2
 rw [<- Option.some.inj e2]
 exact ru
section
variable {X : Cx}
def tListRev (K : PySem.W.Frag) (ta : TA) : TE := fun σ H Q => ta σ H fun vs H1 => ∃ p xs, vs = [.ref p] /\ SqT K H1 p xs /\ xs.length <= 1000 /\ ∀ l, H1 l = none -> Q (.ref l) (upd H1 l (.lst xs.reverse))
theorem yb (K : PySem.W.Frag) {a : Expr} {ta : TA} {p p2 pos pos2 : Pos} (hg : Gl X "list") (hm : X.mg "list" = none) (hg2 : Gl X "reversed") (hm2 : X.mg "reversed" = none) (ha : PA X [a] ta) (hs : starEach [a] X.env = [(false, eval a X.env)] := by rfl) (hs2 : starEach [.Call (.Name "reversed" p2) [a] [] pos2] X.env = [(false, eval (.Call (.Name "reversed" p2) [a] [] pos2) X.env)] := by rfl) (hc : X.calm = true := by rfl) (hK : X.K = K := by rfl) :
  PE X (.Call (.Name "list" p) [.Call (.Name "reversed" p2) [a] [] pos2] [] pos) (tListRev K ta) := by
 subst hK
 intro pins s σ H Q I h
 refine Call_ (Zi I hg hm j7 (PyProof.Rows.callWith_type1 ?_ hs2 rfl))
 rw [hs2]
 show wpAny _ _ (spliced [(false, eval (.Call (.Name "reversed" p2) [a] [] pos2) X.env)]) _ _ s
 refine Calls.spliced_cons ?_
 refine Call_ (Zi I hg2 hm2 wQ (PyProof.Rows.callWith_type1 (thn (ha pos2 pins s σ H _ I h) fun us s1 ⟨vs, H1, I1, r1, q1⟩ => ?_) hs rfl))
 obtain ⟨p1, xs, e, hq, hz, q⟩ := q1
 subst e
 obtain ⟨u1, rfl, r2⟩ := vals1 r1
 cases r2
 obtain ⟨its, rv, pl, _⟩ := I1.tuple hq
 have lv := rv.length
 have plt : p1 < s1.heap.objs.size := PyProof.Rows.IsTup.lt pl
 have sz : its.toArray.size <= 1000 := by simp; omega
 refine Zt pl (by omega) fun tk => ?_
 refine Calls.spliced_nil ?_
 have I2 : Inv X pins σ H1 { s1 with heap := s1.heap.push (revO p1 ((its.toArray.size : Int) - 1)), toks := tk } := I1.kept (t' := tk) fun _ _ e => Heap.get?_push_of_some _ e
 have hsz : (s1.heap.push (revO p1 ((its.toArray.size : Int) - 1))).objs.size = s1.heap.objs.size + 1 := Heap.size_push ..
 refine Je (s := { s1 with heap := s1.heap.push (revO p1 ((its.toArray.size : Int) - 1)), toks := tk }) (I1.ok.hd hc) (it := s1.heap.objs.size) (t := p1) (items := its.toArray) ⟨_, Heap.get?_push_size _ rfl, rfl, rfl⟩ (let ⟨o, e, r⟩ := pl; ⟨o, Heap.get?_push_of_some _ e, r⟩) (Nat.ne_of_lt plt) sz fun h' tk2 acc c' kp he hacc => ?_
 have he' : h'.get? (s1.heap.objs.size + 1) = some { cls := .type "list", dict := none, data := .seq acc c', slots := #[] } := by
  have : ({ s1 with heap := s1.heap.push (revO p1 ((its.toArray.size : Int) - 1)), toks := tk } : Shared).heap.objs.size = s1.heap.objs.size + 1 := hsz
  rw [this] at he
  exact he
 have I3 : Inv X pins σ H1 { s1 with heap := h', toks := tk2 } := by
  refine I1.changed (t' := tk2) (ch := []) (fun b hb => by cases hb) fun c o _ e => kp c o (Nat.ne_of_lt (Heap.lt_size e)) (Heap.get?_push_of_some _ e)
 have Hn : H1 (s1.heap.objs.size + 1) = none := I1.hok.fresh (Nat.le_succ _)
 have I4 : Inv X pins σ (upd H1 (s1.heap.objs.size + 1) (.lst xs.reverse)) { s1 with heap := h', toks := tk2 } := by
  refine I3.adopt Hn (Heap.get?_none_of_le (Nat.le_succ_of_le I1.sz)) (Nat.ne_of_gt (Nat.lt_succ_of_lt I1.lt)) (fun xx cc e zz => ?_) (fun p hp zz => ?_) ⟨by rw [List.length_reverse]; exact Nat.le_of_lt (zo (by omega)), acc.toList, c', vals_rev rv hacc, by simpa using he'⟩
  ·obtain ⟨_, q⟩ := I1.cell xx cc e
   exact absurd q.lt (by rw [zz]; exact Nat.not_lt.mpr (Nat.le_succ _))
  ·exact absurd (Heap.lt_size (I1.pin p hp).1) (by rw [zz]; exact Nat.not_lt.mpr (Nat.le_succ _))
 rw [hsz]
 exact ⟨.ref (s1.heap.objs.size + 1), _, I4, rfl, q _ Hn⟩
def wR (K : PySem.W.Frag) (H : Hp) (n : Nat) : List (List V) -> List V -> Prop := Paired fun c v => ∃ t, v = .ref t /\ SqT K H t c /\ c.length = n /\ c.all Zh = true
open Classical in
noncomputable def isIn (K : PySem.W.Frag) (H : Hp) (xs : List V) (w : Value) : Bool := decide (∃ t c, w = .ref t /\ SqT K H t c /\ Qv c xs = true)
def sKPut (td ty tv : TE) : TS := fun D σ H => tv σ H fun v H1 => td σ H1 fun x H2 => ty σ H2 fun y H3 => ∃ a kvs k, x = .ref a /\ y = kV k /\ H3 a = some (.dK kvs) /\ kvs.length < sizeLine /\ D.nx σ (upd H3 a (.dK (Zr kvs k v)))
theorem Yj {o i value : Expr} {pos pos' : Pos} {td ty tv : TE} {j : Nat} (hr : Zj j X.A) (ho : PE X o td) (hi : PE X i ty) (hv : PE X value tv) (hs : swapsWith value (some (.Subscript o i pos')) pos.line X.env = pure false) :
  PS X (.Assign [.Subscript o i pos'] value pos) (sKPut td ty tv) := by
 intro pins s σ H D I h
 have hu : X.A.units + 64 < cLine := hr.units
 refine wpAny_Assign_Subscript (thn (hv pins s σ H _ I h) fun r s1 ⟨v, H1, I1, rv, q1⟩ => thn (ho pins s1 σ H1 _ I1 q1) fun u s2 ⟨x, H2, I2, rx, q2⟩ => thn (hi pins s2 σ H2 _ I2 q2) fun iv s3 ⟨y, H3, I3, ry, a, kvs, k, ex, ey, e, l, q3⟩ => ?_) hs
 subst ex ey
 obtain rfl : u = Value.ref a := rx
 exact JV (by omega) I3 (DPut.k e l) ry rv fun s4 I4 => ⟨σ, _, I4, q3⟩
def rKNotIn : R2 := fun y x H Q => ∃ a kvs k, x = .ref a /\ y = kV k /\ H a = some (.dK kvs) /\ Q (.bl (!(jb kvs k).isSome)) H
theorem JZ {j : Nat} (hr : Zj j X.A) : OpR X (compareOp .NotIn) rKNotIn := by
 intro pins s σ H x y v u Q I rx ry h
 obtain ⟨a, kvs, k, rfl, rfl, ha, q⟩ := h
 have hu : X.A.units + 64 < cLine := hr.units
 obtain rfl : u = Value.ref a := ry
 exact Ye (by omega) I (W6.k ha) rx fun s' I' => ⟨.bl _, H, I', rfl, q⟩
end
end L2
namespace L2
open PySem PySem.Spec PyProof.Rows
section
variable {X : Cx}
def rNeNil (K : PySem.W.Frag) : R2 := fun x y H Q => ∃ p q xs, x = .ref p /\ y = .ref q /\ SqL K H p xs /\ SqL K H q [] /\ Q (.bl (!xs.isEmpty)) H
theorem op_neNil (K : PySem.W.Frag) {k : Nat} (hr : Zj k X.A) (hK : X.K = K := by rfl) : OpR X (compareOp .NotEq) (rNeNil K) := by
 subst hK
 intro pins s σ H x y v u Q I rx ry h
 obtain ⟨p, q, xs, rfl, rfl, h1, h2, hq⟩ := h
 cases rx
 cases ry
 obtain ⟨us, r1, pl1, _⟩ := I.list h1
 obtain ⟨vs, r2, pl2, _⟩ := I.list h2
 have hu : X.A.units < cLine := Nat.lt_of_succ_lt (hu_of hr)
 cases r2
 cases xs with
 | nil =>
  cases r1
  exact SeqAt.RcNeAt.lists (e := fun _ => true) pl1.isList pl2.isList rfl hu (fun j h _ => absurd h (Nat.not_lt_zero _)) X.prog X.w _ _ ⟨.bl _, H, I, rfl, hq⟩
 | cons x xs =>
  have l1 := r1.length
  exact SeqAt.RcNeAt.lists_lengths pl1.isList pl2.isList (by simp at l1 ⊢; intro z; rw [z] at l1; cases l1) hu X.prog X.w _ _ ⟨.bl _, H, I, rfl, hq⟩
end
end L2
namespace L4
open PySem L2
theorem QS : ∀ (ps acc : List (Key × V)) (k : Key), k ∉ ps.map Prod.fst -> jb (putAll acc ps) k = jb acc k
 | [], acc, k, _ => rfl
 | p :: ps, acc, k, h => by
  rw [List.map_cons, List.mem_cons, not_or] at h
  show jb (putAll (Zr acc p.1 p.2) ps) k = _
  rw [QS ps _ k h.2, ZT, if_neg h.1]
theorem Jf : ∀ (ps acc : List (Key × V)) (p : Key × V), (ps.map Prod.fst).Nodup -> p ∈ ps -> jb (putAll acc ps) p.1 = some p.2
 | [], acc, p, _, h => by cases h
 | z :: ps, acc, p, hn, h => by
  rw [List.map_cons, List.nodup_cons] at hn
  show jb (putAll (Zr acc z.1 z.2) ps) p.1 = _
  rcases List.mem_cons.mp h with rfl | h
  ·rw [QS ps _ _ hn.1, ZT, if_pos rfl]
  ·exact Jf ps _ p hn.2 h
end L4
namespace L2
open PySem PySem.Spec PyProof.Rows
section
variable {prog : Program} {w : World} {A : Around} {R : Result -> Shared -> Prop}
abbrev TK (prog : Program) (w : World) : HeapKind prog w (List Key) := tupleKind (zw prog w)
theorem J1 {h h' : Heap} {ks : List Key} {a b0 : Addr} (x : (TK prog w).is h ks a) (hs : ∀ b o, b ≠ b0 -> h.get? b = some o -> h'.get? b = some o) (hn : ∀ o, h.get? b0 = some o -> o.cls ≠ .type "tuple") : (TK prog w).is h' ks a := by
 obtain ⟨o, items, n, e, c, r⟩ := x
 exact ⟨o, items, n, hs a o (fun z => by subst z; exact hn o e c) e, c, r⟩
theorem QT {h h' : Heap} {d b0 : Addr} {xs : List (List Key × Addr × Value)} (m : h.DictOfH (TK prog w) d xs) (hd : d ≠ b0) (hs : ∀ b o, b ≠ b0 -> h.get? b = some o -> h'.get? b = some o) (hn : ∀ o, h.get? b0 = some o -> o.cls ≠ .type "tuple") : h'.DictOfH (TK prog w) d xs := by
 obtain ⟨o, es, ep, ho, hc, hd', he, his, hn'⟩ := m
 exact ⟨o, es, ep, hs d o hd ho, hc, hd', he, fun x hx => J1 (his x hx) hs hn, hn'⟩
def Zu (prog : Program) (w : World) (h : Heap) (v : Value) (p : List Key × Addr × Value) : Prop := ∃ b, v = .ref b /\ h.IsTuple b #[.ref p.2.1, p.2.2] /\ (TK prog w).is h p.1 p.2.1
theorem Zu.keep {h h' : Heap} {v : Value} {p : List Key × Addr × Value} {b0 : Addr} (x : Zu prog w h v p) (hs : ∀ b o, b ≠ b0 -> h.get? b = some o -> h'.get? b = some o) (hn : ∀ o, h.get? b0 = some o -> o.cls ≠ .type "tuple") : Zu prog w h' v p := by
 obtain ⟨b, rfl, ⟨o, e, c, r⟩, hk⟩ := x
 exact ⟨b, rfl, ⟨o, hs b o (fun z => by subst z; exact hn o e c) e, c, r⟩, J1 hk hs hn⟩
def Yk (acc ps : List (List Key × Addr × Value)) : List (List Key × Addr × Value) := ps.foldl (fun acc p => storedH acc p.1 p.2.1 p.2.2) acc
theorem wS (acc : List (List Key × Addr × Value)) (k : List Key) (a : Addr) (v : Value) : (storedH acc k a v).length <= acc.length + 1 := by
 unfold storedH
 split
 ·rw [List.length_map]; omega
 ·rw [List.length_append]; simp
theorem Yl (hh : A.handled = none) (hu : A.units + 1 < cLine) (D L it : Addr) (items : Array Value) (hDL : D ≠ L) (hDi : D ≠ it) (hLi : L ≠ it) (ps : List (List Key × Addr × Value)) (hlen : ps.length = items.size) (hsz : ps.length <= sizeLine) :
  ∀ (n i : Nat) (s : Shared) (acc : List (List Key × Addr × Value)), n + i = items.size -> acc.length <= i -> s.heap.IsListIter it L i -> s.heap.IsList L items -> s.heap.DictOfH (TK prog w) D acc ->
  (∀ (j : Nat) (p : List Key × Addr × Value) (v : Value), ps[j]? = some p -> items[j]? = some v -> Zu prog w s.heap v p) ->
  (∀ h' tk, h'.DictOfH (TK prog w) D (Yk acc (ps.drop i)) -> (∀ b o, b ≠ D -> b ≠ it -> s.heap.get? b = some o -> h'.get? b = some o) -> R (.ok (.ret .none)) { s with heap := h', toks := tk }) ->
  codeAny (model prog w) A (.builtin "dict.update.loop" ⟨[.ref D, .ref it, rawInt i, .none], []⟩) R s := by
 intro n
 induction n with
 | zero =>
  intro i s acc hn hacc hit hl hd hp hR
  obtain ⟨oi, hoi, hci, _⟩ := id hit
  refine codeAny_builtin qw ?_
  rw [Around.under_plainId zD _]
  show wpAny _ A.in1 (pyNext (.ref it) >>= _) _ _ s
  refine wpAny_bind (wpAny_pyNext_list_end (show A.in1.handled = none from hh) hit hl (by simp; omega) fun h' eb => ?_)
  show wpAny _ _ (Builtin.Dict.addKeywords D [] >>= _) _ _ _
  refine wpAny_bind (wpAny_pure (wpAny_pure (hR h' s.toks ?_ fun b o _ h2 e => eb b o h2 e)))
  rw [List.drop_eq_nil_of_le (by omega)]
  exact QT hd hDi (fun b o hb e => eb b o hb e) fun o e => by rw [hoi] at e; cases e; rw [hci]; decide
 | succ n ih =>
  intro i s acc hn hacc hit hl hd hp hR
  have hi : i < items.size := by omega
  obtain ⟨v, hv⟩ : ∃ v, items[i]? = some v := ⟨items[i], by simp [hi]⟩
  obtain ⟨p, hpi⟩ : ∃ p, ps[i]? = some p := ⟨ps[i]'(by omega), by rw [List.getElem?_eq_getElem (by omega)]⟩
  refine codeAny_builtin qw ?_
  rw [Around.under_plainId zD _]
  show wpAny _ A.in1 (pyNext (.ref it) >>= _) _ _ s
  refine wpAny_bind (wpAny_pyNext_list_item hit hl hv fun h1 hit1 hs1 => ?_)
  obtain ⟨oi, hoi, hci, _⟩ := hit
  have nti : ∀ o, s.heap.get? it = some o -> o.cls ≠ .type "tuple" := fun o e => by rw [hoi] at e; cases e; rw [hci]; decide
  have hp1 : ∀ (j : Nat) (p : List Key × Addr × Value) (v : Value), ps[j]? = some p -> items[j]? = some v -> Zu prog w h1 v p := fun j p v a b => (hp j p v a b).keep (b0 := it) (fun b o hb e => hs1.extBut b o hb e) nti
  obtain ⟨b, rfl, hb, hk⟩ := hp1 i p v hpi hv
  obtain ⟨ot, e1, e2, nt, e3⟩ := id hb
  have hd1 := QT hd hDi (fun b o hb e => hs1.extBut b o hb e) nti
  refine wpAny_bind (wpAny_holding (wpAny_bind (wpAny_tryCatch ?_)))
  unfold Builtin.Dict.pairItems
  refine wpAny_bind (wpAny_typeOf (T := "tuple") ⟨ot, e1, e2⟩ ?_)
  rw [if_pos (by decide)]
  refine wpAny_bind (wpAny_seqItems e1 e3 (wpAny_pure ?_))
  show wpAny _ _ (holding [.ref p.2.1, p.2.2] (dictSet D (.ref p.2.1) p.2.2)) _ _ _
  refine wpAny_holding (wpAny_dictSet_heap (s := { s with heap := h1 }) (hsz := by omega) (tupleKind_room_in1 hu) hk hd1 fun h2 hd2 hs2 => ?_)
  refine wpAny_pure ⟨plainId_quiet zD _, ?_⟩
  have hl1 : h1.IsList L items := hl.extBut hs1.extBut hLi
  have hle : (storedH acc p.1 p.2.1 p.2.2).length <= i + 1 := Nat.le_trans (wS ..) (by omega)
  obtain ⟨oD, _, _, hoD, hcD, _⟩ := id hd1
  have := ih (i + 1) { s with heap := h2, toks := s.toks + (TK prog w).draws p.1 } (storedH acc p.1 p.2.1 p.2.2) (by omega) hle (hit1.extBut hs2.extBut (Ne.symm hDi)) (hl1.extBut hs2.extBut (Ne.symm hDL)) hd2 (fun j p v a b => (hp1 j p v a b).keep (b0 := D) (fun b o hb e => hs2.extBut b o hb e) fun o e => by
    rw [hoD] at e; cases e; rw [hcD.1]; decide) fun h' tk hd' hk' => ?_
  ·simpa using this
  ·refine hR h' tk ?_ fun b o h1 h2 e => hk' b o h1 h2 (hs2.extBut b o h1 (hs1.extBut b o h2 e))
   have e4 : ps.drop i = p :: ps.drop (i + 1) := by
    rw [List.getElem?_eq_some_iff] at hpi
    obtain ⟨h5, h6⟩ := hpi
    rw [<- h6]
    exact List.drop_eq_getElem_cons h5
   unfold Yk
   rw [e4, List.foldl_cons]
   exact hd'
theorem ZM {E : Value -> Shared -> Prop} {Q : Value -> Shared -> Prop} {s : Shared} {L : Addr} {o : Obj} {items : Array Value} {k : Nat} {ps : List (List Key × Addr × Value)} (hh : A.handled = none) (hu : A.units + 2 < cLine) (hx : s.heap.get? L = some o) (hc : o.cls = .type "list") (hdat : o.data = .seq items k) (hdn : o.dict = none)
  (hlen : ps.length = items.size) (hsz : ps.length <= sizeLine) (hp : ∀ (j : Nat) (p : List Key × Addr × Value) (v : Value), ps[j]? = some p -> items[j]? = some v -> Zu prog w s.heap v p)
  (h : ∀ h' tk, h'.DictOfH (TK prog w) s.heap.objs.size (Yk [] ps) -> (∀ b o, s.heap.get? b = some o -> h'.get? b = some o) -> Q (.ref s.heap.objs.size) { s with heap := h', toks := tk }) :
  wpAny (model prog w) A (call (.type "dict") [.ref L]) Q E s := by
 refine callType_codes (Q₁ := fun obj s₁ => obj = .ref s.heap.objs.size /\ s₁ = { s with heap := s.heap.push { cls := .type "dict", data := .dict #[] } }) PySem.F.kt_called_dict (PySem.F.kt_typeCall_dict_1 _) PySem.F.entry_dict_init (kt_code_dict_new _ ⟨rfl, rfl⟩) ?_
 rintro obj s₁ ⟨rfl, rfl⟩
 have hnew : (s.heap.push { cls := .type "dict", data := .dict #[] }).DictOf (zw prog w) s.heap.objs.size [] := Heap.DictOf.new s.heap
 have hnewH : (s.heap.push { cls := .type "dict", data := .dict #[] }).DictOfH (TK prog w) s.heap.objs.size [] := ⟨_, #[], 0, Heap.get?_push_size _ rfl, ⟨rfl, rfl, rfl⟩, rfl, rfl, fun x hx => (by cases hx), .nil⟩
 have hx1 := Heap.get?_push_of_some { cls := .type "dict", data := .dict #[] } hx
 have Llt : L < s.heap.objs.size := Heap.lt_size hx
 refine ⟨hnew.typeIs, PySem.F.args_dict_init_2 _ _, ?_⟩
 unfold Builtin.«dict.__init__»
 refine wpAny_bind ?_
 unfold Builtin.Dict.selfAndRest
 refine wpAny_bind (wpAny_notOrdered_dict hnew.typeIs ?_)
 show wpAny _ _ (pure (s.heap.objs.size, [Value.ref L])) _ _ _
 refine wpAny_pure ?_
 show wpAny _ _ (Builtin.Dict.updateFrom "dict.__init__" s.heap.objs.size (.ref L) [] .none) _ _ _
 unfold Builtin.Dict.updateFrom
 refine wpAny_bind (wpAny_typeOf (T := "list") ⟨o, hx1, hc⟩ ?_)
 rw [if_pos (by decide)]
 refine wpAny_bind (JW hx1 hc hdat hdn (show A.in1.in1.handled = none from hh) fun h' tk kp => ?_)
 rw [if_pos (by rfl)]
 have hL' : h'.IsList L items := ⟨o, kp _ _ hx1, hc, k, hdat⟩
 refine wpAny_bind (wpAny_rule (wpAny_bind (wpAny_pyIter_list hL' ?_)))
 have Dget : ∃ od, h'.get? s.heap.objs.size = some od := ⟨_, kp _ _ (Heap.get?_push_size _ rfl)⟩
 have Dlt : s.heap.objs.size < h'.objs.size := let ⟨_, e⟩ := Dget; Heap.lt_size e
 refine wpAny_pure ⟨plainId_quiet zD _, ?_⟩
 have it0 : (h'.push { cls := .type "list_iterator", data := .fields #[.ref L, .int 0 0] }).IsListIter h'.objs.size L 0 := ⟨_, Heap.get?_push_size _ rfl, rfl, rfl⟩
 have hd' : (h'.push { cls := .type "list_iterator", data := .fields #[.ref L, .int 0 0] }).DictOfH (TK prog w) s.heap.objs.size [] := by
  obtain ⟨od, es, ep, e, h1, h2, h3, _, h5⟩ := hnewH
  exact ⟨od, es, ep, Heap.get?_push_of_some _ (kp _ _ e), h1, h2, h3, (fun x hx => by cases hx), h5⟩
 refine Yl (A := A.in1) (show A.in1.handled = none from hh) (show A.units + 1 + 1 < cLine from hu) s.heap.objs.size L h'.objs.size items (Nat.ne_of_gt Llt) (Nat.ne_of_lt Dlt) (Nat.ne_of_lt (Nat.lt_trans Llt Dlt)) ps hlen hsz items.size 0 { s with heap := h'.push { cls := .type "list_iterator", data := .fields #[.ref L, .int 0 0] }, toks := tk } [] rfl (Nat.le_refl _) it0 (hL'.push _) hd' (fun j p v a b => ?_) fun h2 tk2 hd2 hk2 => ?_
 ·obtain ⟨bb, e1, ⟨ot, e2, r⟩, ⟨o3, i3, n3, e3, r3⟩⟩ := hp j p v a b
  exact ⟨bb, e1, ⟨ot, Heap.get?_push_of_some _ (kp _ _ (Heap.get?_push_of_some _ e2)), r⟩, ⟨o3, i3, n3, Heap.get?_push_of_some _ (kp _ _ (Heap.get?_push_of_some _ e3)), r3⟩⟩
 ·refine ⟨rfl, h h2 tk2 ?_ fun b ob e => hk2 b ob (Nat.ne_of_lt (Heap.lt_size e)) (Nat.ne_of_lt (Nat.lt_trans (Heap.lt_size e) Dlt)) (Heap.get?_push_of_some _ (kp _ _ (Heap.get?_push_of_some _ e)))⟩
  rw [List.drop_zero] at hd2
  exact hd2
end
def wT (H : Hp) : List V -> List (List Key × V) -> Prop := Paired fun x p => ∃ b kb, x = .ref b /\ H b = some (.tup [.ref kb, p.2]) /\ H kb = some (.tup (p.1.map kV))
def putAllT (kvs ps : List (List Key × V)) : List (List Key × V) := ps.foldl (fun acc p => Zr acc p.1 p.2) kvs
theorem prsT_at {P : Program} {w : World} {H : Hp} {h : Heap} (ok : HOk P w H h) {xs : List V} {ps : List (List Key × V)} (r : wT H xs ps) : ∀ {us : List Value}, qe xs us -> ∃ rs : List (List Key × Addr × Value), KT H ps rs /\ ∀ (j : Nat) (p : List Key × Addr × Value) (v : Value), rs[j]? = some p -> us[j]? = some v -> Zu P w h v p := by
 unfold wT at r
 induction r with
 | nil =>
  intro us rv
  exact ⟨[], .nil, fun j p v e => by simp at e⟩
 | @cons x p xs ps hx t ih =>
  intro us rv
  cases rv with
  | @cons _ u _ us hu rv =>
   obtain ⟨rs, r1, r2⟩ := ih rv
   obtain ⟨b, kb, rfl, hb, hkb⟩ := hx
   obtain ⟨_, its, ri, o, e1, e2, ⟨n, e3⟩, _⟩ := (show qc P w H h b (.tup [.ref kb, p.2]) from ok b _ hb)
   cases ri with
   | @cons _ ku _ _ hk ri =>
    cases ri with
    | @cons _ vu _ _ hv ri =>
     cases ri
     obtain rfl : ku = Value.ref kb := hk
     refine ⟨(p.1, kb, vu) :: rs, .cons ⟨rfl, hkb, hv⟩ r1, fun j q v ej ev => ?_⟩
     cases j with
     | zero =>
      cases (Option.some.inj ej)
      cases (Option.some.inj ev)
      obtain rfl : u = Value.ref b := hu
      exact ⟨b, rfl, ⟨o, e1, e2, n, e3⟩, JU ok hkb⟩
     | succ j => exact r2 j q v ej ev
theorem put_allT {H : Hp} {ps : List (List Key × V)} {rs : List (List Key × Addr × Value)} (r : KT H ps rs) : ∀ {acc : List (List Key × V)} {bcc : List (List Key × Addr × Value)}, KT H acc bcc -> KT H (putAllT acc ps) (Yk bcc rs) := by
 unfold KT at r
 induction r with
 | nil => exact fun q => q
 | @cons p q ps qs h t ih =>
  intro acc bcc ra
  obtain ⟨h1, h2, h3⟩ := h
  show KT H (putAllT (Zr acc p.1 p.2) ps) (Yk (storedH bcc q.1 q.2.1 q.2.2) qs)
  rw [<- h1]
  exact ih (KT.put ra p.1 h2 h3)
theorem Zn : ∀ (ps acc : List (List Key × V)), (putAllT acc ps).length <= acc.length + ps.length
 | [], acc => Nat.le_refl _
 | p :: ps, acc => by
  have h1 := Zn ps (Zr acc p.1 p.2)
  have h2 := jR acc p.1 p.2
  show (putAllT (Zr acc p.1 p.2) ps).length <= _
  rw [List.length_cons]; omega
section
variable {X : Cx}
def tDictPT (ta : TA) : TE := fun σ H Q => ta σ H fun vs H1 => ∃ p xs ps, vs = [.ref p] /\ H1 p = some (.lst xs) /\ wT H1 xs ps /\ ∀ D, H1 D = none -> Q (.ref D) (upd H1 D (.dT (putAllT [] ps)))
theorem Ym {k : Nat} (hr : Zj k X.A) {a : Expr} {ta : TA} {p pos : Pos} (hg : Gl X "dict") (hm : X.mg "dict" = none) (ha : PA X [a] ta) (hs : starEach [a] X.env = [(false, eval a X.env)] := by rfl) (hc : X.calm = true := by rfl) :
  PE X (.Call (.Name "dict" p) [a] [] pos) (tDictPT ta) := by
 intro pins s σ H Q I h
 have hu : X.A.units + 64 < cLine := hr.units
 refine Call_ (Zi I hg hm wO (PyProof.Rows.callWith_type1 (thn (ha pos pins s σ H _ I h) fun us s1 ⟨vs, H1, I1, r1, q1⟩ => ?_) hs rfl))
 obtain ⟨p1, xs, ps, e, hq, hps, q⟩ := q1
 subst e
 obtain ⟨u1, rfl, r2⟩ := vals1 r1
 cases r2
 obtain ⟨hz, its, n, rv, eo⟩ := (show qc X.prog X.w H1 s1.heap p1 (.lst xs) from I1.hok p1 _ hq)
 obtain ⟨rs, rk, hpa⟩ := prsT_at I1.hok hps rv
 have a1 : ps.length = rs.length := Paired.length rk
 have a2 := Paired.length hps
 have l1 : rs.length = its.toArray.size := by
  have a3 := rv.length
  simp; omega
 refine ZM (ps := rs) (I1.ok.hd hc) (by omega) eo rfl rfl rfl l1 (by omega) (fun j p v a b => hpa j p v a (by simpa using b)) fun h' tk hd' kp => ?_
 have hb : (s1.heap.objs.size == sysModules) = false := beq_eq_false_iff_ne.mpr (Ne.symm (Nat.ne_of_lt I1.big))
 have hl : (putAllT [] ps).length <= sizeLine := by
  have := Zn ps []
  simp at this; omega
 have Hn : H1 s1.heap.objs.size = none := I1.hok.fresh (Nat.le_refl _)
 obtain ⟨od, es, ep, f1, f2, f3, f4, _, f6⟩ := hd'
 exact ⟨.ref s1.heap.objs.size, _, I1.laid (a := s1.heap.objs.size) (o := .dT (putAllT [] ps)) (t' := tk) kp (Nat.le_refl _) ⟨hl, hb, _, (put_allT rk .nil).keeps fun b ys e => by rw [zE (zF e Hn)]; exact e, od, es, ep, f1, f2, f3, f4, f6⟩, rfl, q _ Hn⟩
theorem hu1 {k : Nat} {A : Around} (hr : Zj k A) : A.units + 1 < cLine := by
 have : A.units + 64 < cLine := hr.units
 omega
def rTNotIn : R2 := fun y x H Q => ∃ a b kvs k, x = .ref a /\ y = .ref b /\ H a = some (.dT kvs) /\ H b = some (.tup (k.map kV)) /\ Q (.bl (!(jb kvs k).isSome)) H
theorem Qe {j : Nat} (hr : Zj j X.A) : OpR X (compareOp .NotIn) rTNotIn := by
 intro pins s σ H x y v u Q I rx ry h
 obtain ⟨a, b, kvs, k, rfl, rfl, ha, hb, q⟩ := h
 have hu : X.A.units + 64 < cLine := hr.units
 obtain rfl : u = Value.ref a := ry
 exact Ye (by omega) I (W6.t ha hb) rx fun s' I' => ⟨.bl _, H, I', rfl, q⟩
end
end L2
namespace L2
open PySem
end L2
namespace L2
open PySem
section
variable {prog : Program} {w : World} {K : Type} [DecidableEq K] {knd : KeyKind prog w K} {A : Around} {E : Value -> Shared -> Prop} {s : Shared}
end
end L2
namespace L2
open PySem
end L2
namespace L2
open PySem
end L2
namespace L2
open PySem
end L2
namespace L2
open PySem
end L2
namespace L2
open PySem
section
variable {prog : Program} {w : World} {A : Around} {E : Value -> Shared -> Prop} {s : Shared}
end
end L2
namespace L2
open PySem PySem.Spec PyProof.Rows
section
variable {prog : Program} {w : World} {A : Around} {E : Value -> Shared -> Prop} {s : Shared}
end
end L2
namespace L2
open PySem PySem.Spec PyProof.Rows
section
variable {prog : Program} {w : World} {A : Around} {E : Value -> Shared -> Prop} {s : Shared} {a I : Addr} {es : Array (Int × Value)} {ep : Nat} {t : SetTable}
end
end L2
namespace L2
open PySem PySem.Spec PyProof.Rows PySem.W
section
variable {prog : Program} {w : World} {A : Around} {E : Value -> Shared -> Prop} {s : Shared} {a : Addr} {es : Array (Int × Value)} {ep : Nat} {t : SetTable}
end
section
variable {X : Cx}
end
end L2
namespace L2
open PySem PySem.Spec PyProof.Rows
section
variable {X : Cx}
theorem yc {α β : Type} {R : α -> β -> Prop} {as : List α} {bs : List β} (h : Paired R as bs) : ∀ {i : Nat} {a : α}, as[i]? = some a -> ∃ b, bs[i]? = some b /\ R a b := by
 induction h with
 | nil => intro i a e; simp at e
 | cons r _ ih =>
  intro i a e
  cases i with
  | zero =>
   simp at e
   subst e
   exact ⟨_, rfl, r⟩
  | succ i =>
   obtain ⟨b, e1, e2⟩ := ih (i := i) (by simpa using e)
   exact ⟨b, by simpa using e1, e2⟩
theorem Yn {xs : List V} (h : xs.all Zh = true) : Qv xs xs = true := by
 unfold Qv
 rw [Bool.and_eq_true]
 refine ⟨?_, by simp⟩
 rw [List.all_eq_true]
 intro p hp
 have h1 := List.of_mem_zip hp
 have e : p.1 = p.2 := by
  obtain ⟨i, hi⟩ := List.getElem?_of_mem hp
  rw [List.getElem?_zip_eq_some] at hi
  rw [hi.1] at hi
  exact Option.some.inj hi.2
 rw [<- e]
 exact ZS (List.all_eq_true.mp h _ h1.1)
end
section
variable {prog : Program} {w : World} {A : Around} {R : Result -> Shared -> Prop}
end
section
variable {X : Cx}
end
end L2
namespace L2
open PySem PySem.Spec PyProof.Rows
section
variable {X : Cx}
end
end L2
namespace L4
open PySem L2
-- residuation
namespace Sy
end Sy
def Ltr (x : Str) : Prop := x.length = 1 /\ Small x
end L4
namespace L4
open PySem L2
theorem wT.tk {H H' : Hp} (s : Tk H H') {xs : List V} {ps : List (List Key × V)} (h : wT H xs ps) : wT H' xs ps := by
 unfold wT at h ⊢
 induction h with
 | nil => exact .nil
 | cons r _ ih =>
  obtain ⟨b, kb, e, hb, hk⟩ := r
  exact .cons ⟨b, kb, e, s _ _ hb, s _ _ hk⟩ ih
theorem wT.snoc {H : Hp} {xs : List V} {ps : List (List Key × V)} {p : List Key × V} {b kb : Addr} (h : wT H xs ps) (hb : H b = some (.tup [.ref kb, p.2])) (hk : H kb = some (.tup (p.1.map kV))) : wT H (xs ++ [.ref b]) (ps ++ [p]) := by
 unfold wT at h ⊢
 induction h with
 | nil => exact .cons ⟨b, kb, rfl, hb, hk⟩ .nil
 | cons r _ ih => exact .cons r ih
theorem QU : ∀ (ps acc : List (List Key × V)) (k : List Key), k ∉ ps.map Prod.fst -> jb (putAllT acc ps) k = jb acc k
 | [], acc, k, _ => rfl
 | p :: ps, acc, k, h => by
  rw [List.map_cons, List.mem_cons, not_or] at h
  show jb (putAllT (Zr acc p.1 p.2) ps) k = _
  rw [QU ps _ k h.2, ZT, if_neg h.1]
theorem Yo : ∀ (ps acc : List (List Key × V)) (p : List Key × V), (ps.map Prod.fst).Nodup -> p ∈ ps -> jb (putAllT acc ps) p.1 = some p.2
 | [], acc, p, _, h => by cases h
 | z :: ps, acc, p, hn, h => by
  rw [List.map_cons, List.nodup_cons] at hn
  show jb (putAllT (Zr acc z.1 z.2) ps) p.1 = _
  rcases List.mem_cons.mp h with rfl | h
  ·rw [QU ps _ _ hn.1, ZT, if_pos rfl]
  ·exact Yo ps _ p hn.2 h
end L4
namespace Tn
end Tn
namespace L2
open PySem PySem.Spec PyProof.Rows
section
variable {X : Cx} {N' : List Str} {ix : List (Option Nat)} {scope : Scope} {y : Str} {pins : List (Addr × Obj)} {σ : St} {H : Hp} {s : Shared} {fp : List Addr}
end
end L2
namespace L2
open PySem PySem.Spec PyProof.Rows
end L2
namespace L2
open PySem PySem.Spec PyProof.Rows PySem.W
def EAt (h : Heap) (d : Addr) (es : Array DictEntry) (ep : Nat) : Prop := ∃ o, h.get? d = some o /\ o.ExactDict /\ o.data = .dict es ep
theorem EAt.keep {h h' : Heap} {d : Addr} {es : Array DictEntry} {ep : Nat} (x : EAt h d es ep) (k : ∀ o, h.get? d = some o -> h'.get? d = some o) : EAt h' d es ep := let ⟨o, ho, r⟩ := x; ⟨o, k o ho, r⟩
theorem EAt.ty {s : Shared} {d : Addr} {es : Array DictEntry} {ep : Nat} (x : EAt s.heap d es ep) : s.TypeIs (.ref d) "dict" := let ⟨o, ho, hc, _⟩ := x; ⟨o, ho, hc.1⟩
theorem EAt.lt {h : Heap} {d : Addr} {es : Array DictEntry} {ep : Nat} (x : EAt h d es ep) : d < h.objs.size := let ⟨_, ho, _⟩ := x; Heap.lt_size ho
section
variable {prog : Program} {w : World} {A : Around} {E : Value -> Shared -> Prop} {s : Shared} {d it : Addr} {es : Array DictEntry} {ep i : Nat}
theorem iter_e {Q : Value -> Shared -> Prop} (hd : (d == sysModules) = false) (hm : EAt s.heap d es ep)
  (hQ : Q (.ref s.heap.objs.size) { s with heap := s.heap.push { cls := .type "dict_keyiterator", data := .fields #[.ref d, .int 0 0, .int es.size 0, .int ep 0] } }) :
  wpAny (model prog w) A (pyIter (.ref d)) Q E s := by
 have hT := hm.ty
 obtain ⟨o, ho, hc, hdat⟩ := id hm
 refine wpAny_pyIter_slot hT F.slot_dict_iter (wpAny_call_entry F.slot_dict_iter hT F.entry_dict_iter ?_ (F.args_dict_iter_1 _))
 unfold Builtin.«dict.__iter__»
 refine wpAny_bind ?_
 unfold Builtin.Dict.dictSlotNone
 refine wpAny_bind (wpAny_notOrdered_dict hT (wpAny_pure ?_))
 show wpAny _ _ (Builtin.Dict.showsAll d >>= _) _ _ s
 unfold Builtin.Dict.showsAll
 rw [if_neg (by rw [hd]; exact Bool.false_ne_true)]
 refine wpAny_bind (wpAny_pure (wpAny_bind (wpAny_dictEntries ho hdat (wpAny_bind (wpAny_dictEpoch ho hdat ?_)))))
 exact wpAny_bind (wpAny_newObj_type (wpAny_pure ⟨_, rfl, "dict_keyiterator", _, ⟨_, Heap.get?_push_size _ rfl, rfl⟩, F.slot_dict_keyiterator_next.lookup, hQ⟩))
theorem next_e {Q : Option Value -> Shared -> Prop} (hit : s.heap.IsKeyIter it d i es.size ep) (hm : EAt s.heap d es ep) (hi : i < es.size)
  (hQ : ∀ h', h'.IsKeyIter it d (i + 1) es.size ep -> Heap.SameBut it s.heap h' -> Q (some es[i].key) { s with heap := h' }) :
  wpAny (model prog w) A (pyNext (.ref it)) Q E s := by
 obtain ⟨o, ho, hc, hd⟩ := id hit
 obtain ⟨od, hod, hcd, hdd⟩ := id hm
 unfold pyNext
 refine wpAny_bind (wpAny_attempt (wpAny_callSpecial?_slot (name := Str.ofString "__next__") hit.typeIs F.slot_dict_keyiterator_next
  (wpAny_call_entry F.slot_dict_keyiterator_next hit.typeIs F.entry_dict_keyiterator_next ?_ (F.args_dict_keyiterator_next_1 _))))
 refine wpAny_bind (wpAny_pure (wpAny_bind (wpAny_bind ?_)))
 first | refine wpAny_bind (wpAny_typeNameOfWhole_keyiter hit.typeIs (wpAny_pure ?_)) | refine wpAny_bind (wpAny_typeNameOf_keyiter hit.typeIs (wpAny_pure ?_))
 refine wpAny_bind (wpAny_fieldsOf ho hd ?_)
 simp only [show Builtin.Dict_items.ownsTuple "dict_keyiterator" = false by decide, Bool.false_eq_true, if_false]
 show wpAny _ _ (if (Value.ref d == Value.none) = true then _ else _) _ _ s
 rw [if_neg (show ¬ ((Value.ref d == Value.none) = true) from Bool.false_ne_true)]
 refine wpAny_bind (wpAny_pure (wpAny_bind (wpAny_dictEntries hod hdd ?_)))
 rw [if_neg (by simp)]
 refine wpAny_bind (wpAny_pure (wpAny_bind (wpAny_dictEpoch hod hdd ?_)))
 rw [if_neg (by simp)]
 refine wpAny_pure ?_
 simp only [show ¬ ((i : Int) < 0) from by omega, if_false, Int.toNat_natCast, Array.getElem?_eq_getElem hi]
 refine wpAny_bind ?_
 first | refine wpAny_bind (wpAny_typeNameOfWhole_keyiter hit.typeIs (wpAny_pure ?_)) | refine wpAny_bind (wpAny_typeNameOf_keyiter hit.typeIs (wpAny_pure ?_))
 refine wpAny_bind (wpAny_isOneOf_keyiter hit.typeIs ?_)
 show wpAny _ _ (setField (.ref it) 1 (rawInt ((i : Int) + 1)) >>= _) _ _ s
 refine wpAny_bind (wpAny_setField ho hd (by simp) ?_)
 have hit' : (s.heap.update it (Obj.mapFields (·.setIfInBounds 1 (rawInt ((i : Int) + 1))))).IsKeyIter it d (i + 1) es.size ep :=
  ⟨_, Heap.get?_update_self _ ho (Obj.isFreed_of_fields (Obj.data_mapFields hd _)), (Obj.cls_mapFields ..).trans hc, by rw [Obj.data_mapFields hd]; simp [rawInt]⟩
 refine wpAny_bind (wpAny_holding ?_)
 refine wpAny_bind (wpAny_isOneOf_keyiter (s := { s with heap := s.heap.update it (Obj.mapFields (·.setIfInBounds 1 (rawInt ((i : Int) + 1)))) }) hit'.typeIs ?_)
 show wpAny _ _ (pure es[i].key) _ _ _
 exact wpAny_pure (wpAny_pure ⟨_, rfl, wpAny_pure (hQ _ hit' (Heap.SameBut.update ..))⟩)
theorem last_e {Q : Option Value -> Shared -> Prop} (hh : A.handled = none) (hit : s.heap.IsKeyIter it d es.size es.size ep) (hm : EAt s.heap d es ep)
  (hQ : ∀ h', Heap.ExtBut it s.heap h' -> Q none { s with heap := h' }) : wpAny (model prog w) A (pyNext (.ref it)) Q E s := by
 obtain ⟨o, ho, hc, hd⟩ := id hit
 obtain ⟨od, hod, hcd, hdd⟩ := id hm
 unfold pyNext
 refine wpAny_bind (wpAny_attempt (wpAny_callSpecial?_slot (name := Str.ofString "__next__") hit.typeIs F.slot_dict_keyiterator_next
  (wpAny_call_entry F.slot_dict_keyiterator_next hit.typeIs F.entry_dict_keyiterator_next ?_ (F.args_dict_keyiterator_next_1 _))))
 refine wpAny_bind (wpAny_pure (wpAny_bind (wpAny_bind ?_)))
 first | refine wpAny_bind (wpAny_typeNameOfWhole_keyiter hit.typeIs (wpAny_pure ?_)) | refine wpAny_bind (wpAny_typeNameOf_keyiter hit.typeIs (wpAny_pure ?_))
 refine wpAny_bind (wpAny_fieldsOf ho hd ?_)
 simp only [show Builtin.Dict_items.ownsTuple "dict_keyiterator" = false by decide, Bool.false_eq_true, if_false]
 show wpAny _ _ (if (Value.ref d == Value.none) = true then _ else _) _ _ s
 rw [if_neg (show ¬ ((Value.ref d == Value.none) = true) from Bool.false_ne_true)]
 refine wpAny_bind (wpAny_pure (wpAny_bind (wpAny_dictEntries hod hdd ?_)))
 rw [if_neg (by simp)]
 refine wpAny_bind (wpAny_pure (wpAny_bind (wpAny_dictEpoch hod hdd ?_)))
 rw [if_neg (by simp)]
 refine wpAny_pure ?_
 simp only [show ¬ ((es.size : Int) < 0) from by omega, if_false, Int.toNat_natCast, Array.getElem?_eq_none (Nat.le_refl es.size)]
 refine wpAny_bind ?_
 first | refine wpAny_bind (wpAny_typeNameOfWhole_keyiter hit.typeIs (wpAny_pure ?_)) | refine wpAny_bind (wpAny_typeNameOf_keyiter hit.typeIs (wpAny_pure ?_))
 show wpAny _ _ (setField (.ref it) 0 .none >>= _) _ _ s
 refine wpAny_bind (wpAny_setField ho hd (by simp) ?_)
 show wpAny _ _ (newExc (.type "StopIteration") [] >>= _) _ _ _
 refine wpAny_bind ?_
 simp only [newExc, newTuple]
 refine wpAny_bind (wpAny_newObj_type ?_ (by size_fits))
 refine wpAny_bind (m := firstArgMember _ _) (wpAny_of_eq (a := Value.none) (by first | rfl | (simp only [firstArgMember]; rfl)) ?_)
 refine wpAny_newObj_type ?_ (by size_fits)
 simp only [raiseNew]
 refine wpAny_bind (wpAny_handled ?_)
 rw [show A.in1.handled = none from hh]
 refine wpAny_bind (wpAny_pure (wpAny_throw ?_))
 refine wpAny_bind (wpAny_isInstance (T := "StopIteration") (b := true) ⟨_, Heap.get?_push_size _ rfl, rfl⟩ isSubtype_stop ?_)
 exact wpAny_pure (hQ _ (((Heap.SameBut.update ..).extBut.push _).push _))
theorem walks_e (hh : A.handled = none) (I : Addr) (hne : d ≠ I) : Walks prog w A I [I, d] [I] es.size (fun i v => ∃ e, es[i]? = some e /\ v = e.key) (fun i h => h.IsKeyIter I d i es.size ep /\ EAt h d es ep) where
 sub := fun b hb => by simp at hb; simp [hb]
 frame := fun _ _ _ st hk => ⟨st.1.at fun o e => hk I (by simp) o e, st.2.keep fun o e => hk d (by simp) o e⟩
 item := fun i s Q E hi st hQ => next_e st.1 st.2 hi fun h' hit' hs' => hQ _ h' s.toks ⟨_, Array.getElem?_eq_getElem hi, rfl⟩ ⟨hit', st.2.keep fun o e => hs'.extBut d o hne e⟩ fun b o hb e => hs'.extBut b o (fun h => hb (by simp [h])) e
 done := fun s Q E st hQ => last_e hh st.1 st.2 fun h' he' => hQ h' s.toks fun b o hb e => he' b o (fun h => hb (by simp [h])) e
 self := fun _ _ _ _ st hQ => wpAny_pyIter_keyiter st.1 hQ
theorem kdl_e (lo : (d == sysModules) = false) : KdlSrc prog w "dict" d d es.size (fun i v => ∃ e, es[i]? = some e /\ v = e.key) (fun h => EAt h d es ep) where
 type := fun _ hm => hm.ty
 there := fun _ hm => ⟨hm.lt, hm.lt⟩
 keep := fun _ _ hm hk => hm.keep fun o e => hk d (.inl rfl) o e
 notList := by decide
 notTuple := by decide
 hint := fun _ _ _ _ hm hq => kdl_hint_dict hm.ty hq
 iter := fun _ _ hh hm => ⟨_, _, (fun _ _ hq => iter_e lo hm hq), walks_e hh _ (Nat.ne_of_lt hm.lt), ⟨⟨_, Heap.get?_push_size _ rfl, rfl, rfl⟩, hm.keep fun o e => Heap.get?_push_of_some _ e⟩⟩
end
end L2
namespace L2
open PySem PySem.Spec PyProof.Rows PySem.W
section
variable {prog : Program} {w : World} {A : Around} {E : Value -> Shared -> Prop} {s : Shared}
end
section
variable {X : Cx}
end
end L2
namespace L2
open PySem PySem.Spec PyProof.Rows PySem.W
section
variable {X : Cx}
end
end L2
namespace L2
open PySem PySem.Spec PyProof.Rows
end L2
namespace L2
open PySem PySem.Spec PyProof.Rows
section
variable {X : Cx}
end
end L2
namespace L2
open PySem PySem.Spec PyProof.Rows PySem.W
section
variable {prog : Program} {w : World} {A : Around} {E : Value -> Shared -> Prop} {s : Shared}
end
section
variable {prog : Program} {w : World} {A : Around} {E : Value -> Shared -> Prop} {s : Shared} {a I : Addr} {es : Array (Int × Value)} {ep : Nat} {t : SetTable}
end
section
variable {prog : Program} {w : World} {A : Around} {E : Value -> Shared -> Prop} {s : Shared}
section
variable {a I p : Addr} {es : Array (Int × Value)} {ep : Nat} {t : SetTable} {pl : List Nat}
end
end
section
variable {X : Cx}
end
end L2
namespace L2
open PySem PySem.Spec PyProof.Rows
section
variable {X : Cx}
theorem Yp : qZ X (.builtin "len") (fun xs H Q => ∃ a kvs, xs = [.ref a] /\ H a = some (.dK kvs) /\ Q (.int (kvs.length : Nat)) H) := by
 intro pins s σ H xs us Q I r h
 obtain ⟨a, kvs, rfl, ha, q⟩ := h
 obtain ⟨u, rfl, rx⟩ := vals1 r
 cases rx
 exact d_len I (.inl ha) fun t s' I' => ⟨.int _, H, I', ⟨_, rfl⟩, q⟩
end
end L2
namespace L4
open PySem L2
namespace Sy
end Sy
end L4
namespace L2
open PySem PySem.Spec PyProof.Rows
section
variable {prog : Program} {w : World} {A : Around} {E : Value -> Shared -> Prop} {s : Shared}
end
section
variable {X : Cx}
end
end L2
namespace L4
open PySem L2
end L4
namespace L2
open PySem PySem.Spec PyProof.Rows
section
variable {prog : Program} {w : World} {A : Around} {E : Value -> Shared -> Prop} {s : Shared}
variable {z TI TO i1 i2 t1 t2 : Addr} {xs ys : Array Value} {k : Nat} {a0 : Addr} {b : Bool}
variable {R : Result -> Shared -> Prop}
end
section
variable {X : Cx}
end
end L2
namespace L2
open PySem PySem.Spec PyProof.Rows
section
variable {X : Cx}
end
end L2
namespace L4
open PySem L2
end L4
namespace L2
open PySem PySem.Spec PyProof.Rows
section
variable {prog : Program} {w : World} {A : Around} {E : Value -> Shared -> Prop} {s : Shared}
structure Qf (z TI TO i1 i2 t1 t2 : Addr) (xs ys : Array Value) (f0 : Value) (k1 k2 : Nat) (h : Heap) : Prop where
 zi : IsZip h z TI TO f0
 ti : IsPair h TI (.ref i1) (.ref i2)
 to : ∃ a b, IsPair h TO a b
 a1 : h.IsListIter i1 t1 k1
 a2 : h.IsTupleIter i2 t2 k2
 b1 : h.IsList t1 xs
 b2 : h.IsTuple t2 ys
variable {z TI TO i1 i2 t1 t2 : Addr} {xs ys : Array Value} {k1 k2 : Nat}
theorem Yq {x y : Value} {Q : Value -> Shared -> Prop} (D : Far z TI TO i1 i2 t1 t2) (Z : Qf z TI TO i1 i2 t1 t2 xs ys .none k1 k2 s.heap) (hx : xs[k1]? = some x) (hy : ys[k2]? = some y)
  (q : ∀ h', Qf z TI TO i1 i2 t1 t2 xs ys (rawInt s.heap.objs.size) (k1 + 1) (k2 + 1) h' -> IsPair h' s.heap.objs.size x y -> W3 z TO i1 i2 s.heap h' -> Q (.ref s.heap.objs.size) { s with heap := h' }) :
  wpAny (model prog w) A (Builtin.«zip.__next__» ⟨[.ref z], []⟩) (fun fin s' => ∃ v, fin = .done (.ret v) /\ Q v s') E s := by
 obtain ⟨nd, f1, f2⟩ := D
 simp only [List.nodup_cons, List.mem_cons, List.not_mem_nil, or_false, not_or, List.nodup_nil, and_true, not_false_eq_true] at nd f1 f2
 obtain ⟨⟨nzI, nzO, nz1, nz2⟩, ⟨nIO, nI1, nI2⟩, ⟨nO1, nO2⟩, n12⟩ := nd
 obtain ⟨p1z, p1O, p11, p12⟩ := f1
 obtain ⟨p2z, p2O, p21, p22⟩ := f2
 obtain ⟨zi, ti, ⟨a, b, to⟩, a1, a2, b1, b2⟩ := Z
 refine wpAny_bind (m := field (.ref z) 2) (wpAny_field zi rfl (x := .bool false) rfl ?_)
 refine wpAny_bind (m := field (.ref z) 3) (wpAny_field zi rfl (x := .ref TI) rfl (wpAny_bind (wpAny_seqItems ti rfl ?_)))
 refine wpAny_bind (m := Builtin.SmallTypes.ownedTupleIsFree (.ref z)) ?_
 unfold Builtin.SmallTypes.ownedTupleIsFree; refine wpAny_bind (wpAny_field zi rfl (x := .none) rfl (wpAny_pure ?_))
 simp only [if_true]; refine wpAny_bind (wpAny_rule (wpAny_bind (wpAny_field zi rfl (x := .ref TO) rfl (wpAny_bind (wpAny_setField_rec zi (by simp) fun g1 zi1' s1 => ?_)))))
 have zi1 : IsZip g1 z TI TO .ellipsis := zi1'
 refine wpAny_bind ?_
 simp only [List.zipIdx_cons, List.zipIdx_nil, List.forIn_cons, List.forIn_nil]
 refine wpAny_bind (wpAny_bind (wpAny_onRaise (wpAny_bind (m := Builtin.SmallTypes.nextOf (.ref i1)) ?_)))
 refine wpAny_nextOf_list_item (a1.extBut s1.extBut (Ne.symm nz1)) (b1.extBut s1.extBut p1z) hx fun g2 a1' s2 => wpAny_pure ?_
 have to2 : IsPair g2 TO a b := s2.extBut _ _ nO1 (s1.extBut _ _ (Ne.symm nzO) to)
 refine wpAny_bind (wpAny_seqItems to2 rfl (wpAny_bind (wpAny_updateSeq_pair to2 fun g3 to3' s3 => wpAny_bind (wpAny_letGo (wpAny_pure ?_)))))
 have to3 : IsPair g3 TO x b := to3'
 refine wpAny_bind (wpAny_bind (wpAny_onRaise (wpAny_bind (m := Builtin.SmallTypes.nextOf (.ref i2)) ?_)))
 refine wH (((a2.extBut s1.extBut (Ne.symm nz2)).extBut s2.extBut (Ne.symm n12)).extBut s3.extBut (Ne.symm nO2)) (((b2.extBut s1.extBut p2z).extBut s2.extBut p21).extBut s3.extBut p2O) hy fun g4 a2' s4 => wpAny_pure ?_
 have to4 : IsPair g4 TO x b := s4.extBut _ _ nO2 to3
 refine wpAny_bind (wpAny_seqItems to4 rfl (wpAny_bind (wpAny_updateSeq_pair to4 fun g5 to5' s5 => wpAny_bind (wpAny_letGo (wpAny_pure (wpAny_pure ?_))))))
 have to5 : IsPair g5 TO x y := to5'
 refine wpAny_bind (wpAny_seqItems to5 rfl (wpAny_bind (wpAny_newTuple ?_)))
 have sz : g5.objs.size = s.heap.objs.size := by rw [s5.1, s4.1, s3.1, s2.1, s1.1]
 have zi5 : IsZip g5 z TI TO .ellipsis := s5.extBut _ _ nzO (s4.extBut _ _ nz2 (s3.extBut _ _ nzO (s2.extBut _ _ nz1 zi1)))
 have k5 : ∀ c o, c ≠ z -> c ≠ TO -> c ≠ i1 -> c ≠ i2 -> s.heap.get? c = some o -> g5.get? c = some o := fun c o c1 c2 c3 c4 e => s5.extBut _ _ c2 (s4.extBut _ _ c4 (s3.extBut _ _ c2 (s2.extBut _ _ c3 (s1.extBut _ _ c1 e))))
 have a15 : g5.IsListIter i1 t1 (k1 + 1) := ((a1'.extBut s3.extBut (Ne.symm nO1)).extBut s4.extBut n12).extBut s5.extBut (Ne.symm nO1)
 have a25 : g5.IsTupleIter i2 t2 (k2 + 1) := a2'.extBut s5.extBut (Ne.symm nO2)
 refine wpAny_bind (m := Builtin.SmallTypes.ownedTupleHandOut (.ref z) (.ref g5.objs.size)) ?_
 unfold Builtin.SmallTypes.ownedTupleHandOut
 have zi6 : IsZip (g5.push { cls := .type "tuple", data := .seq #[x, y] }) z TI TO .ellipsis := Heap.get?_push_of_some _ zi5
 refine wpAny_bind (wpAny_setField_rec zi6 (by simp) fun g7 zi7' s7 => ?_)
 have zi7 : IsZip g7 z TI TO (rawInt g5.objs.size) := zi7'
 refine wpAny_setField_rec zi7 (by simp) fun g8 zi8' s8 => ?_
 have zi8 : IsZip g8 z TI TO (rawInt g5.objs.size) := zi8'
 have up : ∀ c o, c ≠ z -> g5.get? c = some o -> g8.get? c = some o := fun c o c1 e => s8.extBut _ _ c1 (s7.extBut _ _ c1 (Heap.get?_push_of_some _ e))
 have new : IsPair g8 g5.objs.size x y := s8.extBut _ _ (Nat.ne_of_gt (Heap.lt_size zi5)) (s7.extBut _ _ (Nat.ne_of_gt (Heap.lt_size zi5)) (Heap.get?_push_size _ rfl))
 have tp : ∀ {c : Addr} {us : Array Value}, c ≠ z -> c ≠ TO -> c ≠ i1 -> c ≠ i2 -> s.heap.IsList c us -> g8.IsList c us := fun {c us} c1 c2 c3 c4 ⟨o, e, r⟩ => ⟨o, up c o c1 (k5 c o c1 c2 c3 c4 e), r⟩
 have tp2 : ∀ {c : Addr} {us : Array Value}, c ≠ z -> c ≠ TO -> c ≠ i1 -> c ≠ i2 -> s.heap.IsTuple c us -> g8.IsTuple c us := fun {c us} c1 c2 c3 c4 ⟨o, e, r⟩ => ⟨o, up c o c1 (k5 c o c1 c2 c3 c4 e), r⟩
 have il : ∀ {c u : Addr} {n : Nat}, c ≠ z -> g5.IsListIter c u n -> g8.IsListIter c u n := fun {c u n} c1 ⟨o, e, r⟩ => ⟨o, up c o c1 e, r⟩
 have il2 : ∀ {c u : Addr} {n : Nat}, c ≠ z -> g5.IsTupleIter c u n -> g8.IsTupleIter c u n := fun {c u n} c1 ⟨o, e, r⟩ => ⟨o, up c o c1 e, r⟩
 refine wpAny_pure ⟨_, rfl, ?_⟩
 have fin := q g8 ⟨by rw [<- sz]; exact zi8, up _ _ (Ne.symm nzI) (k5 _ _ (Ne.symm nzI) nIO nI1 nI2 ti), ⟨x, y, up _ _ (Ne.symm nzO) to5⟩, il (Ne.symm nz1) a15, il2 (Ne.symm nz2) a25, tp p1z p1O p11 p12 b1, tp2 p2z p2O p21 p22 b2⟩ (by rw [<- sz]; exact new) fun c o hc e => by
  simp only [List.mem_cons, List.not_mem_nil, or_false, not_or] at hc
  obtain ⟨c1, c2, c3, c4⟩ := hc
  exact up c o c1 (k5 c o c1 c2 c3 c4 e)
 rw [<- sz] at fin
 exact fin
theorem zip_endM {Q : Fin -> Shared -> Prop} (hh : A.handled = none) (D : Far z TI TO i1 i2 t1 t2) (Z : Qf z TI TO i1 i2 t1 t2 xs ys .none k1 k2 s.heap) (hend : xs[k1]? = none \/ ys[k2]? = none)
  (q : ∀ h' e, W3 z TO i1 i2 s.heap h' -> (∃ o, h'.get? e = some o /\ o.cls = .type "StopIteration") -> E (.ref e) { s with heap := h' }) : wpAny (model prog w) A (Builtin.«zip.__next__» ⟨[.ref z], []⟩) Q E s := by
 obtain ⟨nd, f1, f2⟩ := D
 simp only [List.nodup_cons, List.mem_cons, List.not_mem_nil, or_false, not_or, List.nodup_nil, and_true, not_false_eq_true] at nd f1 f2
 obtain ⟨⟨nzI, nzO, nz1, nz2⟩, ⟨nIO, nI1, nI2⟩, ⟨nO1, nO2⟩, n12⟩ := nd
 obtain ⟨p1z, p1O, p11, p12⟩ := f1
 obtain ⟨p2z, p2O, p21, p22⟩ := f2
 obtain ⟨zi, ti, ⟨a, b, to⟩, a1, a2, b1, b2⟩ := Z
 refine wpAny_bind (m := field (.ref z) 2) (wpAny_field zi rfl (x := .bool false) rfl ?_)
 refine wpAny_bind (m := field (.ref z) 3) (wpAny_field zi rfl (x := .ref TI) rfl (wpAny_bind (wpAny_seqItems ti rfl ?_)))
 refine wpAny_bind (m := Builtin.SmallTypes.ownedTupleIsFree (.ref z)) ?_
 unfold Builtin.SmallTypes.ownedTupleIsFree; refine wpAny_bind (wpAny_field zi rfl (x := .none) rfl (wpAny_pure ?_))
 simp only [if_true]; refine wpAny_bind (wpAny_rule (wpAny_bind (wpAny_field zi rfl (x := .ref TO) rfl (wpAny_bind (wpAny_setField_rec zi (by simp) fun g1 zi1' s1 => ?_)))))
 have zi1 : IsZip g1 z TI TO .ellipsis := zi1'
 refine wpAny_bind ?_
 simp only [List.zipIdx_cons, List.zipIdx_nil, List.forIn_cons, List.forIn_nil]
 refine wpAny_bind (wpAny_bind (wpAny_onRaise (wpAny_bind (m := Builtin.SmallTypes.nextOf (.ref i1)) ?_)))
 cases hx : xs[k1]? with
 | none =>
  refine wpAny_nextOf_list_end hh (a1.extBut s1.extBut (Ne.symm nz1)) (b1.extBut s1.extBut p1z) hx fun g2 e s2 ⟨oe, oe1, oe2⟩ => ?_
  have zi2 : IsZip g2 z TI TO .ellipsis := s2 _ _ nz1 zi1
  have ez : e ≠ z := fun c => by rw [c, zi2] at oe1; cases oe1; simp at oe2
  refine wpAny_setField_rec zi2 (by simp) fun g3 _ s3 => q g3 e (fun c o hc e' => ?_) ⟨oe, s3.extBut _ _ ez oe1, oe2⟩
  simp only [List.mem_cons, List.not_mem_nil, or_false, not_or] at hc
  exact s3.extBut _ _ hc.1 (s2 _ _ hc.2.2.1 (s1.extBut _ _ hc.1 e'))
 | some x =>
  have hy : ys[k2]? = none := hend.elim (fun c => by rw [hx] at c; cases c) id
  refine wpAny_nextOf_list_item (a1.extBut s1.extBut (Ne.symm nz1)) (b1.extBut s1.extBut p1z) hx fun g2 a1' s2 => wpAny_pure ?_
  have to2 : IsPair g2 TO a b := s2.extBut _ _ nO1 (s1.extBut _ _ (Ne.symm nzO) to)
  refine wpAny_bind (wpAny_seqItems to2 rfl (wpAny_bind (wpAny_updateSeq_pair to2 fun g3 to3' s3 => wpAny_bind (wpAny_letGo (wpAny_pure ?_)))))
  refine wpAny_bind (wpAny_bind (wpAny_onRaise (wpAny_bind (m := Builtin.SmallTypes.nextOf (.ref i2)) ?_)))
  refine wI hh (((a2.extBut s1.extBut (Ne.symm nz2)).extBut s2.extBut (Ne.symm n12)).extBut s3.extBut (Ne.symm nO2)) (((b2.extBut s1.extBut p2z).extBut s2.extBut p21).extBut s3.extBut p2O) hy fun g4 e s4 ⟨oe, oe1, oe2⟩ => ?_
  have zi4 : IsZip g4 z TI TO .ellipsis := s4 _ _ nz2 (s3.extBut _ _ nzO (s2.extBut _ _ nz1 zi1))
  have ez : e ≠ z := fun c => by rw [c, zi4] at oe1; cases oe1; simp at oe2
  refine wpAny_setField_rec zi4 (by simp) fun g5 _ s5 => q g5 e (fun c o hc e' => ?_) ⟨oe, s5.extBut _ _ ez oe1, oe2⟩
  simp only [List.mem_cons, List.not_mem_nil, or_false, not_or] at hc
  exact s5.extBut _ _ hc.1 (s4 _ _ hc.2.2.2 (s3.extBut _ _ hc.2.1 (s2.extBut _ _ hc.2.2.1 (s1.extBut _ _ hc.1 e'))))
theorem J2 {x y : Value} {Q : Option Value -> Shared -> Prop} (D : Far z TI TO i1 i2 t1 t2) (Z : Qf z TI TO i1 i2 t1 t2 xs ys .none k1 k2 s.heap) (hx : xs[k1]? = some x) (hy : ys[k2]? = some y)
  (q : ∀ h', Qf z TI TO i1 i2 t1 t2 xs ys (rawInt s.heap.objs.size) (k1 + 1) (k2 + 1) h' -> IsPair h' s.heap.objs.size x y -> W3 z TO i1 i2 s.heap h' -> Q (some (.ref s.heap.objs.size)) { s with heap := h' }) : wpAny (model prog w) A (pyNext (.ref z)) Q E s := by
 have ty : s.TypeIs (.ref z) "zip" := ⟨_, Z.zi, rfl⟩
 unfold pyNext
 exact wpAny_bind (wpAny_attempt (wpAny_callSpecial?_slot (name := Str.ofString "__next__") ty PySem.F.slot_zip_next (wpAny_call_entry PySem.F.slot_zip_next ty PySem.F.entry_zip_next (Yq D Z hx hy fun h' u1 u2 u3 => wpAny_pure (q h' u1 u2 u3)) (PySem.F.args_zip_next_1 _))))
theorem J3 {Q : Option Value -> Shared -> Prop} (hh : A.handled = none) (D : Far z TI TO i1 i2 t1 t2) (Z : Qf z TI TO i1 i2 t1 t2 xs ys .none k1 k2 s.heap) (hend : xs[k1]? = none \/ ys[k2]? = none)
  (q : ∀ h', W3 z TO i1 i2 s.heap h' -> Q none { s with heap := h' }) : wpAny (model prog w) A (pyNext (.ref z)) Q E s := by
 have ty : s.TypeIs (.ref z) "zip" := ⟨_, Z.zi, rfl⟩
 unfold pyNext
 refine wpAny_bind (wpAny_attempt (wpAny_callSpecial?_slot (name := Str.ofString "__next__") ty PySem.F.slot_zip_next (wpAny_call_entry PySem.F.slot_zip_next ty PySem.F.entry_zip_next (zip_endM hh D Z hend fun h' e hk ⟨o, o1, o2⟩ => ?_) (PySem.F.args_zip_next_1 _))))
 exact wpAny_bind (wpAny_isInstance (T := "StopIteration") (b := true) ⟨o, o1, o2⟩ isSubtype_stop (wpAny_pure (q h' hk)))
def zm1 (h : Heap) (t1 : Addr) : Heap := h.push { cls := .type "list_iterator", data := .fields #[.ref t1, .int 0 0] }
def zm2 (h : Heap) (t1 t2 : Addr) : Heap := (zm1 h t1).push { cls := .type "tuple_iterator", data := .fields #[.ref t2, .int 0 0] }
def zm3 (h : Heap) (t1 t2 : Addr) : Heap := (zm2 h t1 t2).push { cls := .type "tuple", data := .seq #[.ref h.objs.size, .ref (zm1 h t1).objs.size] }
def zm4 (h : Heap) (t1 t2 : Addr) : Heap := (zm3 h t1 t2).push { cls := .type "tuple", data := .seq #[.none, .none] }
def zm5 (h : Heap) (t1 t2 : Addr) : Heap := (zm4 h t1 t2).push { cls := .type "zip", data := .fields #[.none, .bool false, .bool false, .ref (zm2 h t1 t2).objs.size, .ref (zm3 h t1 t2).objs.size] }
theorem zip_newM (t1 t2 : Addr) (xs ys : Array Value) : Meets (Builtin.«zip.__new__» ⟨[.type "zip", .ref t1, .ref t2], []⟩) (fun _ R s => s.heap.IsList t1 xs /\ s.heap.IsTuple t2 ys /\ R (.ok (.ret (.ref (zm4 s.heap t1 t2).objs.size))) { s with heap := zm5 s.heap t1 t2 }) :=
 .of_wp fun prog w A R s h => by
  obtain ⟨hp, g, d, tk, os⟩ := s
  obtain ⟨u1, u2, h⟩ := h
  have subz := PySem.sub_zip
  have T1 : Heap.IsList (Shared.heap ⟨hp, g, d, tk, os⟩) t1 xs := u1
  have T2 : Heap.IsTuple (Shared.heap ⟨hp.push { cls := .type "list_iterator", data := .fields #[.ref t1, .int 0 0] }, g, d, tk, os⟩) t2 ys := Heap.IsTuple.push u2 _
  wp_walk using wpAny_pyIter_list T1, wpAny_pyIter_tuple T2
  exact ⟨_, rfl, h⟩
theorem yd {Q : Value -> Shared -> Prop} (h1 : s.heap.IsList t1 xs) (h2 : s.heap.IsTuple t2 ys)
  (q : ∀ h' z TI TO i1 i2, Far z TI TO i1 i2 t1 t2 -> Qf z TI TO i1 i2 t1 t2 xs ys .none 0 0 h' -> (∀ b ∈ [z, TI, TO, i1, i2], s.heap.objs.size <= b) -> (∀ c o, s.heap.get? c = some o -> h'.get? c = some o) -> Q (.ref z) { s with heap := h' }) :
  wpAny (model prog w) A (call (.type "zip") [.ref t1, .ref t2]) Q E s := by
 refine callType_new PySem.F.called_zip (by decide) (PySem.F.typeCall_zip_2 _ _) (PySem.F.newCall_zip_2 _ _) (fun obj => PySem.F.args_object_init_3 obj _ _) PySem.F.entry_zip_new (zip_newM t1 t2 xs ys) ⟨h1, h2, ?_⟩
 have l1 : t1 < s.heap.objs.size := by obtain ⟨_, e, _⟩ := h1; exact Heap.lt_size e
 have l2 : t2 < s.heap.objs.size := by obtain ⟨_, e, _⟩ := h2; exact Heap.lt_size e
 have z1 : (zm1 s.heap t1).objs.size = s.heap.objs.size + 1 := Heap.size_push ..
 have z2 : (zm2 s.heap t1 t2).objs.size = s.heap.objs.size + 2 := by unfold zm2; rw [Heap.size_push, z1]
 have z3 : (zm3 s.heap t1 t2).objs.size = s.heap.objs.size + 3 := by unfold zm3; rw [Heap.size_push, z2]
 have z4 : (zm4 s.heap t1 t2).objs.size = s.heap.objs.size + 4 := by unfold zm4; rw [Heap.size_push, z3]
 have kp : ∀ c o, s.heap.get? c = some o -> (zm5 s.heap t1 t2).get? c = some o := fun c o e => Heap.get?_push_of_some _ (Heap.get?_push_of_some _ (Heap.get?_push_of_some _ (Heap.get?_push_of_some _ (Heap.get?_push_of_some _ e))))
 have g5 : (zm5 s.heap t1 t2).get? (zm4 s.heap t1 t2).objs.size = some _ := Heap.get?_push_size _ rfl
 have g4 : (zm5 s.heap t1 t2).get? (zm3 s.heap t1 t2).objs.size = some _ := Heap.get?_push_of_some _ (Heap.get?_push_size _ rfl)
 have g3 : (zm5 s.heap t1 t2).get? (zm2 s.heap t1 t2).objs.size = some _ := Heap.get?_push_of_some _ (Heap.get?_push_of_some _ (Heap.get?_push_size _ rfl))
 have g2 : (zm5 s.heap t1 t2).get? (zm1 s.heap t1).objs.size = some _ := Heap.get?_push_of_some _ (Heap.get?_push_of_some _ (Heap.get?_push_of_some _ (Heap.get?_push_size _ rfl)))
 have g1 : (zm5 s.heap t1 t2).get? s.heap.objs.size = some _ := Heap.get?_push_of_some _ (Heap.get?_push_of_some _ (Heap.get?_push_of_some _ (Heap.get?_push_of_some _ (Heap.get?_push_size _ rfl))))
 refine ⟨⟨_, g5, rfl⟩, q _ _ (zm2 s.heap t1 t2).objs.size (zm3 s.heap t1 t2).objs.size s.heap.objs.size (zm1 s.heap t1).objs.size ⟨?_, ?_, ?_⟩ ⟨g5, g3, ⟨_, _, g4⟩, ⟨_, g1, rfl, rfl⟩, ⟨_, g2, rfl, rfl⟩, ?_, ?_⟩ ?_ kp⟩
 ·rw [z1, z2, z3, z4]
  generalize s.heap.objs.size = n
  simp
 ·rw [z1, z3, z4]
  generalize s.heap.objs.size = n at *
  have : ∀ a b : Nat, a < b -> ¬ (a = b) := fun a b h => Nat.ne_of_lt h
  simp only [List.mem_cons, List.not_mem_nil, or_false, not_or]
  exact ⟨this _ _ (Nat.lt_of_lt_of_le l1 (Nat.le_add_right ..)), this _ _ (Nat.lt_of_lt_of_le l1 (Nat.le_add_right ..)), this _ _ l1, this _ _ (Nat.lt_of_lt_of_le l1 (Nat.le_add_right ..))⟩
 ·rw [z1, z3, z4]
  generalize s.heap.objs.size = n at *
  have : ∀ a b : Nat, a < b -> ¬ (a = b) := fun a b h => Nat.ne_of_lt h
  simp only [List.mem_cons, List.not_mem_nil, or_false, not_or]
  exact ⟨this _ _ (Nat.lt_of_lt_of_le l2 (Nat.le_add_right ..)), this _ _ (Nat.lt_of_lt_of_le l2 (Nat.le_add_right ..)), this _ _ l2, this _ _ (Nat.lt_of_lt_of_le l2 (Nat.le_add_right ..))⟩
 ·obtain ⟨o, e, r⟩ := h1
  exact ⟨o, kp _ _ e, r⟩
 ·obtain ⟨o, e, r⟩ := h2
  exact ⟨o, kp _ _ e, r⟩
 ·rw [z1, z2, z3, z4]
  generalize s.heap.objs.size = n
  intro b hb
  simp only [List.mem_cons, List.not_mem_nil, or_false] at hb
  rcases hb with rfl | rfl | rfl | rfl | rfl
  ·exact Nat.le_add_right ..
  ·exact Nat.le_add_right ..
  ·exact Nat.le_add_right ..
  ·exact Nat.le_refl _
  ·exact Nat.le_add_right ..
end
end L2
namespace L2
open PySem PySem.Spec PyProof.Rows
def ItzM (K : PySem.W.Frag) (p q : Addr) : It :=
  ⟨fun i H => ∃ xs ys x y, SqL K H p xs /\ SqT K H q ys /\ xs[i]? = some x /\ ys[i]? = some y,
   fun i H v H' => ∃ T x y, H T = none /\ v = .ref T /\ H' = upd H T (.tup [x, y]) /\ ∀ xs ys, SqL K H p xs -> SqT K H q ys -> xs[i]? = some x /\ ys[i]? = some y,
   fun i H => ∃ xs ys, SqL K H p xs /\ SqT K H q ys /\ (xs.length <= i \/ ys.length <= i)⟩
structure ZipTnM (z TI TO i1 i2 t1 t2 : Addr) (k : Nat) (h : Heap) : Prop where
 zi : IsZip h z TI TO .none
 ti : IsPair h TI (.ref i1) (.ref i2)
 to : ∃ a b, IsPair h TO a b
 a1 : h.IsListIter i1 t1 k
 a2 : h.IsTupleIter i2 t2 k
theorem Yr {P : Program} {w : World} {K : PySem.W.Frag} {elts : List Expr} {kk : Nat} {pos : Pos} {z TI TO i1 i2 t1 t2 : Addr} (D : Far z TI TO i1 i2 t1 t2) :
  Turn P w K (.Tuple elts kk pos) (ItzM K t1 t2) [z, TI, TO, i1, i2] z (fun i h => ZipTnM z TI TO i1 i2 t1 t2 i h) where
 mem := by simp
 obj := fun i h st b hb => by
  obtain ⟨u1, u2, ⟨a, c, u3⟩, ⟨o4, u4, _, d4⟩, ⟨o5, u5, _, d5⟩⟩ := st
  simp only [List.mem_cons, List.not_mem_nil, or_false] at hb
  rcases hb with rfl | rfl | rfl | rfl | rfl
  ·exact ⟨_, u1, fun v zz => by cases zz⟩
  ·exact ⟨_, u2, fun v zz => by cases zz⟩
  ·exact ⟨_, u3, fun v zz => by cases zz⟩
  ·exact ⟨_, u4, fun v zz => by rw [d4] at zz; cases zz⟩
  ·exact ⟨_, u5, fun v zz => by rw [d5] at zz; cases zz⟩
 keep := fun i h h' st k => by
  obtain ⟨u1, u2, ⟨a, c, u3⟩, ⟨o4, u4, r4⟩, ⟨o5, u5, r5⟩⟩ := st
  exact ⟨k _ (by simp) _ u1, k _ (by simp) _ u2, ⟨a, c, k _ (by simp) _ u3⟩, ⟨o4, k _ (by simp) _ u4, r4⟩, ⟨o5, k _ (by simp) _ u5, r5⟩⟩
 item := by
  intro X hP hw hK hc i pins s σ H E I hf st hg
  subst hP hw hK
  obtain ⟨xs, ys, x, y, hq1, hq2, hx, hy⟩ := hg
  obtain ⟨its1, rv1, p1, hz1⟩ := I.list hq1
  obtain ⟨its2, rv2, p2, hz2⟩ := I.tuple hq2
  obtain ⟨u, hu, ru⟩ := rv1.get hx
  obtain ⟨v, hv, rv⟩ := rv2.get hy
  refine J2 (s := s) D ⟨st.zi, st.ti, st.to, st.a1, st.a2, p1.isList, p2⟩ (x := u) (y := v) (by simpa using hu) (by simpa using hv) fun h' Z hp hk => ⟨_, rfl, wpAny_letOwnedTupleGo_zip Z.zi fun h2 z2 sb => ?_⟩
  have hf4 : ∀ b ∈ [z, TO, i1, i2], Wu X pins H b := fun b hb => hf b (by simp only [List.mem_cons, List.not_mem_nil, or_false] at hb ⊢; rcases hb with e | e | e | e <;> simp [e])
  have k2 : W3 z TO i1 i2 s.heap h2 := fun c o hc e => (sb.2 c (fun zz => hc (by simp [zz]))).trans (hk c o hc e)
  have I1 : Inv X pins σ H { s with heap := h2 } := I.zipped (t' := s.toks) hf4 k2
  have zlt : z < s.heap.objs.size := Heap.lt_size st.zi
  have at2 : IsPair h2 s.heap.objs.size u v := (sb.2 _ (Nat.ne_of_gt zlt)).trans hp
  have Hn : H s.heap.objs.size = none := I.hok.fresh (Nat.le_refl _)
  have I2 : Inv X pins σ (upd H s.heap.objs.size (.tup [x, y])) { s with heap := h2 } := by
   refine I1.adopt Hn (Heap.get?_none_of_le I.sz) (Nat.ne_of_gt I.lt) (fun xx cc e zz => ?_) (fun p hp zz => ?_) ⟨by show 2 <= sizeLine; decide, [u, v], .cons ru (.cons rv .nil), ⟨_, at2, rfl, ⟨0, rfl⟩, rfl⟩⟩
   ·obtain ⟨_, q⟩ := I.cell xx cc e
    exact absurd q.lt (by rw [zz]; exact Nat.lt_irrefl _)
   ·exact absurd (Heap.lt_size (I.pin p hp).1) (by rw [zz]; exact Nat.lt_irrefl _)
  have n5 : ∀ b ∈ [z, TI, TO, i1, i2], b ≠ s.heap.objs.size := fun b hb zz => by
   obtain ⟨u1, u2, ⟨a, c, u3⟩, ⟨o4, u4, _⟩, ⟨o5, u5, _⟩⟩ := st
   simp only [List.mem_cons, List.not_mem_nil, or_false] at hb
   rcases hb with e | e | e | e | e
   ·rw [e] at zz; exact absurd (Heap.lt_size u1) (by rw [zz]; exact Nat.lt_irrefl _)
   ·rw [e] at zz; exact absurd (Heap.lt_size u2) (by rw [zz]; exact Nat.lt_irrefl _)
   ·rw [e] at zz; exact absurd (Heap.lt_size u3) (by rw [zz]; exact Nat.lt_irrefl _)
   ·rw [e] at zz; exact absurd (Heap.lt_size u4) (by rw [zz]; exact Nat.lt_irrefl _)
   ·rw [e] at zz; exact absurd (Heap.lt_size u5) (by rw [zz]; exact Nat.lt_irrefl _)
  obtain ⟨nd, _, _⟩ := D
  simp only [List.nodup_cons, List.mem_cons, List.not_mem_nil, or_false, not_or, List.nodup_nil, and_true, not_false_eq_true] at nd
  obtain ⟨⟨nzI, nzO, nz1, nz2⟩, _, _, _⟩ := nd
  obtain ⟨a, b, to⟩ := Z.to
  refine ⟨.ref s.heap.objs.size, _, I2, rfl, ⟨_, x, y, Hn, rfl, rfl, fun xs' ys' h1 h2 => ?_⟩, ⟨z2, (sb.2 _ (Ne.symm nzI)).trans Z.ti, ⟨a, b, (sb.2 _ (Ne.symm nzO)).trans to⟩, Z.a1.extBut sb.extBut (Ne.symm nz1), Z.a2.extBut sb.extBut (Ne.symm nz2)⟩, fun b hb => ?_⟩
  ·rw [I.list_inj h1 hq1, I.tuple_inj h2 hq2]
   exact ⟨hx, hy⟩
  ·rw [zE (n5 b hb)]
   exact (hf b hb).1
 done := by
  intro X hP hw hK hc i pins s σ H E I hf st hg
  subst hP hw hK
  obtain ⟨xs, ys, hq1, hq2, hx⟩ := hg
  obtain ⟨its1, rv1, p1, hz1⟩ := I.list hq1
  obtain ⟨its2, rv2, p2, hz2⟩ := I.tuple hq2
  have l1 := rv1.length
  have l2 := rv2.length
  have hf4 : ∀ b ∈ [z, TO, i1, i2], Wu X pins H b := fun b hb => hf b (by simp only [List.mem_cons, List.not_mem_nil, or_false] at hb ⊢; rcases hb with e | e | e | e <;> simp [e])
  exact J3 (I.ok.hd hc) D ⟨st.zi, st.ti, st.to, st.a1, st.a2, p1.isList, p2⟩ (by rcases hx with h | h; exact .inl (by simp; omega); exact .inr (by simp; omega)) fun h' hk => ⟨rfl, I.zipped (t' := s.toks) hf4 hk⟩
 self := fun A i s Q E st h => wpAny_pyIter_zip st.zi h
section
variable {X : Cx}
def iZipM (K : PySem.W.Frag) (ta : TA) : TI := fun σ H R => ta σ H fun vs H1 => ∃ p q xs ys, vs = [.ref p, .ref q] /\ SqL K H1 p xs /\ SqT K H1 q ys /\ R (ItzM K p q) H1
theorem kpi_zipM (K : PySem.W.Frag) {elts : List Expr} {kk : Nat} {tpos : Pos} {a b : Expr} {ta : TA} {p pos : Pos} (hg : Gl X "zip") (hm : X.mg "zip" = none) (ha : PA X [a, b] ta) (hs : starEach [a, b] X.env = [(false, eval a X.env), (false, eval b X.env)] := by rfl) (hs2 : starEach [b] X.env = [(false, eval b X.env)] := by rfl) (hK : X.K = K := by rfl) :
  PI X (.Tuple elts kk tpos) (.Call (.Name "zip" p) [a, b] [] pos) (iZipM K ta) := by
 subst hK
 intro pins s σ H R I h
 refine Call_ (Zi I hg hm bt_zip (PyProof.Rows.callWith_type1 (thn (ha pos pins s σ H _ I h) fun us s1 ⟨vs, H1, I1, r1, q1⟩ => ?_) (by rw [hs, hs2]) (by rw [hs2]; rfl)))
 obtain ⟨p1, p2, xs, ys, e, hq1, hq2, q⟩ := q1
 subst e
 obtain ⟨u1, u2, rfl, r1, r2⟩ := yM r1
 cases r1
 cases r2
 obtain ⟨its1, rv1, t1, _⟩ := I1.list hq1
 obtain ⟨its2, rv2, t2, _⟩ := I1.tuple hq2
 refine yd t1.isList t2 fun h' z TI TO i1 i2 D Z new kp => wpAny_pyIter_zip Z.zi ?_
 have I2 : Inv X pins σ H1 { s1 with heap := h' } := I1.kept (t' := s1.toks) kp
 exact ⟨z, [z, TI, TO, i1, i2], _, ItzM X.K p1 p2, H1, rfl, I2, Yr D, ⟨Z.zi, Z.ti, Z.to, Z.a1, Z.a2⟩, fun b hb => I1.fpOk (new b hb) (I1.hok.fresh (new b hb)), q⟩
end
end L2
namespace L2
open PySem PySem.Spec PyProof.Rows
theorem no_keysT : typeLookup (.type "tuple") "keys" = pure none := am_miss_of_fast (by decide +kernel)
theorem keys_byT {prog : Program} {w : World} {A : Around} {E : Value -> Shared -> Prop} {s : Shared} {a : Addr} {o : Obj} {xs : Array Value} {k : Nat} {t : Tok} {Q : Value -> Shared -> Prop}
  (hx : s.heap.get? a = some o) (hc : o.cls = .type "tuple") (hdat : o.data = .seq xs k) (hd : o.dict = none) (hA : A.handled = none)
  (h : ∀ h' tk e, Heap.NewExcOf s.heap h' e "AttributeError" -> E (.ref e) { s with heap := h', toks := tk }) :
  wpAny (model prog w) A (getAttrBy (.ref a) (.str "keys" t) false) Q E s := by
 obtain ⟨c, dct, dat, sl⟩ := o
 simp only at hc hdat hd
 subst hc hdat hd
 obtain ⟨hp, g, d, tk, os⟩ := s
 have hT : ∀ tk', (⟨hp, g, d, tk', os⟩ : Shared).TypeIs (.ref a) "tuple" := fun _ => ⟨_, hx, rfl⟩
 have f1 := jF
 have f3 := PySem.F.slot_tuple_getattribute.lookup
 have f4 := PySem.F.slot_tuple_getattribute.bind (.ref a)
 have f5 := am_tuple_getattr_none
 unfold getAttrBy
 repeat (any_goals (first | assumption | exact hT _ | ((with_reducible show wpAny _ _ (call (Value.builtin "tuple.__getattribute__") _ _) _ _ _); refine call_meets PySem.F.slot_tuple_getattribute (hT _) am_entry_tuple_getattribute (PySem.F.args_tuple_getattribute_2 _ _) (meets_getattribute_miss_tuple a xs k sl "keys" _ no_keysT (by decide) (by decide)) ⟨hx, hA, fun h' tk' e hx' => ?_⟩) | wp_step))
 obtain ⟨t', u', he⟩ := hx'.there
 show wpAny _ _ (getattributeRaised _ _ _ _ _ _ _) _ _ _
 unfold getattributeRaised
 repeat (any_goals (first | assumption | wp_step))
 exact h _ _ _ hx'.of
theorem ye {prog : Program} {w : World} {A : Around} {E : Value -> Shared -> Prop} {s : Shared} {a : Addr} {o : Obj} {xs : Array Value} {k : Nat} {Q : Option Value -> Shared -> Prop}
  (hx : s.heap.get? a = some o) (hc : o.cls = .type "tuple") (hdat : o.data = .seq xs k) (hd : o.dict = none) (hA : A.handled = none)
  (h : ∀ h' tk, (∀ b ob, s.heap.get? b = some ob -> h'.get? b = some ob) -> Q none { s with heap := h', toks := tk }) :
  wpAny (model prog w) A (getAttr? (.ref a) "keys") Q E s := by
 unfold getAttr? getAttrBy?
 refine wpAny_bind (wpAny_mkText (wpAny_bind (wpAny_attempt (keys_byT (s := { s with toks := s.toks + 1 }) hx hc hdat hd hA fun h' tk e ne => ?_))))
 obtain ⟨kp, nw, ob, vs, he, h1, h2⟩ := ne
 refine wpAny_bind (wpAny_isInstance (T := "AttributeError") (b := true) ⟨ob, he, h1⟩ jF ?_)
 exact wpAny_pure (h h' tk kp)
section
variable {prog : Program} {w : World} {A : Around} {R : Result -> Shared -> Prop}
theorem Ys (hh : A.handled = none) (D L it : Addr) (items : Array Value) (hDL : D ≠ L) (hDi : D ≠ it) (hLi : L ≠ it) (ps : List (Key × Value)) (hlen : ps.length = items.size) (hsz : ps.length <= sizeLine) :
  ∀ (n i : Nat) (s : Shared) (acc : List (Key × Value)), n + i = items.size -> acc.length <= i -> s.heap.IsTupleIter it L i -> s.heap.IsTuple L items -> s.heap.DictOf (zw prog w) D acc ->
  (∀ (j : Nat) (p : Key × Value) (v : Value), ps[j]? = some p -> items[j]? = some v -> Zl prog w s.heap v p.1 p.2) ->
  (∀ h' tk, h'.DictOf (zw prog w) D ((ps.drop i).foldl (fun (acc : List (Key × Value)) (p : Key × Value) => stored acc p.1 p.2) acc) -> (∀ b o, b ≠ D -> b ≠ it -> s.heap.get? b = some o -> h'.get? b = some o) -> R (.ok (.ret .none)) { s with heap := h', toks := tk }) ->
  codeAny (model prog w) A (.builtin "dict.update.loop" ⟨[.ref D, .ref it, rawInt i, .none], []⟩) R s := by
 intro n
 induction n with
 | zero =>
  intro i s acc hn hacc hit hl hd hp hR
  refine codeAny_builtin qw ?_
  rw [Around.under_plainId zD _]
  show wpAny _ A.in1 (pyNext (.ref it) >>= _) _ _ s
  refine wpAny_bind (wpAny_pyNext_tuple_end (show A.in1.handled = none from hh) hit hl (by simp; omega) fun h' eb => ?_)
  show wpAny _ _ (Builtin.Dict.addKeywords D [] >>= _) _ _ _
  refine wpAny_bind (wpAny_pure (wpAny_pure (hR h' s.toks ?_ fun b o _ h2 e => eb b o h2 e)))
  rw [List.drop_eq_nil_of_le (by omega)]
  exact hd.extBut eb hDi
 | succ n ih =>
  intro i s acc hn hacc hit hl hd hp hR
  have hi : i < items.size := by omega
  obtain ⟨v, hv⟩ : ∃ v, items[i]? = some v := ⟨items[i], by simp [hi]⟩
  obtain ⟨p, hpi⟩ : ∃ p, ps[i]? = some p := ⟨ps[i]'(by omega), by rw [List.getElem?_eq_getElem (by omega)]⟩
  refine codeAny_builtin qw ?_
  rw [Around.under_plainId zD _]
  show wpAny _ A.in1 (pyNext (.ref it) >>= _) _ _ s
  refine wpAny_bind (wpAny_pyNext_tuple_item hit hl hv fun h1 hit1 hs1 => ?_)
  obtain ⟨oi, hoi, hci, _⟩ := hit
  have hp1 : ∀ (j : Nat) (p : Key × Value) (v : Value), ps[j]? = some p -> items[j]? = some v -> Zl prog w h1 v p.1 p.2 := fun j p v a b => (hp j p v a b).keep (b0 := it) (fun b o hb e => hs1.extBut b o hb e) fun o e => by
   rw [hoi] at e; cases e; rw [hci]; decide
  obtain ⟨b, key, rfl, hb, hk⟩ := hp1 i p v hpi hv
  obtain ⟨ot, e1, e2, nt, e3⟩ := id hb
  have hd1 := hd.extBut hs1.extBut hDi
  refine wpAny_bind (wpAny_holding (wpAny_bind (wpAny_tryCatch ?_)))
  unfold Builtin.Dict.pairItems
  refine wpAny_bind (wpAny_typeOf (T := "tuple") ⟨ot, e1, e2⟩ ?_)
  rw [if_pos (by decide)]
  refine wpAny_bind (wpAny_seqItems e1 e3 (wpAny_pure ?_))
  show wpAny _ _ (holding [key, p.2] (dictSet D key p.2)) _ _ _
  refine wpAny_holding (wpAny_dictSet_pairs (hsz := by omega) hk hd1 fun h2 hd2 hs2 => ?_)
  refine wpAny_pure ⟨plainId_quiet zD _, ?_⟩
  have hl1 : h1.IsTuple L items := hl.extBut hs1.extBut hLi
  have hle : (stored acc p.1 p.2).length <= i + 1 := by
   unfold stored
   split
   ·rw [List.length_map]; omega
   ·rw [List.length_append]; simp; omega
  obtain ⟨oD, _, _, hoD, hcD, _⟩ := hd1
  have := ih (i + 1) { s with heap := h2, toks := s.toks + 1 } (stored acc p.1 p.2) (by omega) hle (hit1.extBut hs2.extBut (Ne.symm hDi)) (hl1.extBut hs2.extBut (Ne.symm hDL)) hd2 (fun j p v a b => (hp1 j p v a b).keep (b0 := D) (fun b o hb e => hs2.extBut b o hb e) fun o e => by
    rw [hoD] at e; cases e; rw [hcD.1]; decide) fun h' tk hd' hk' => ?_
  ·simpa using this
  ·refine hR h' tk ?_ fun b o h1 h2 e => hk' b o h1 h2 (hs2.extBut b o h1 (hs1.extBut b o h2 e))
   have e4 : ps.drop i = p :: ps.drop (i + 1) := by
    rw [List.getElem?_eq_some_iff] at hpi
    obtain ⟨h5, h6⟩ := hpi
    rw [<- h6]
    exact List.drop_eq_getElem_cons h5
   rw [e4, List.foldl_cons]
   exact hd'
theorem ZN {E : Value -> Shared -> Prop} {Q : Value -> Shared -> Prop} {s : Shared} {L : Addr} {o : Obj} {items : Array Value} {k : Nat} {ps : List (Key × Value)} (hh : A.handled = none) (hx : s.heap.get? L = some o) (hc : o.cls = .type "tuple") (hdat : o.data = .seq items k) (hdn : o.dict = none)
  (hlen : ps.length = items.size) (hsz : ps.length <= sizeLine) (hp : ∀ (j : Nat) (p : Key × Value) (v : Value), ps[j]? = some p -> items[j]? = some v -> Zl prog w s.heap v p.1 p.2)
  (h : ∀ h' tk, h'.DictOf (zw prog w) s.heap.objs.size (ps.foldl (fun (acc : List (Key × Value)) (p : Key × Value) => stored acc p.1 p.2) []) -> (∀ b o, s.heap.get? b = some o -> h'.get? b = some o) -> Q (.ref s.heap.objs.size) { s with heap := h', toks := tk }) :
  wpAny (model prog w) A (call (.type "dict") [.ref L]) Q E s := by
 refine callType_codes (Q₁ := fun obj s₁ => obj = .ref s.heap.objs.size /\ s₁ = { s with heap := s.heap.push { cls := .type "dict", data := .dict #[] } }) PySem.F.kt_called_dict (PySem.F.kt_typeCall_dict_1 _) PySem.F.entry_dict_init (kt_code_dict_new _ ⟨rfl, rfl⟩) ?_
 rintro obj s₁ ⟨rfl, rfl⟩
 have hnew : (s.heap.push { cls := .type "dict", data := .dict #[] }).DictOf (zw prog w) s.heap.objs.size [] := Heap.DictOf.new s.heap
 have hx1 := Heap.get?_push_of_some { cls := .type "dict", data := .dict #[] } hx
 have Llt : L < s.heap.objs.size := Heap.lt_size hx
 refine ⟨hnew.typeIs, PySem.F.args_dict_init_2 _ _, ?_⟩
 unfold Builtin.«dict.__init__»
 refine wpAny_bind ?_
 unfold Builtin.Dict.selfAndRest
 refine wpAny_bind (wpAny_notOrdered_dict hnew.typeIs ?_)
 show wpAny _ _ (pure (s.heap.objs.size, [Value.ref L])) _ _ _
 refine wpAny_pure ?_
 show wpAny _ _ (Builtin.Dict.updateFrom "dict.__init__" s.heap.objs.size (.ref L) [] .none) _ _ _
 unfold Builtin.Dict.updateFrom
 refine wpAny_bind (wpAny_typeOf (T := "tuple") ⟨o, hx1, hc⟩ ?_)
 rw [if_pos (by decide)]
 refine wpAny_bind (ye hx1 hc hdat hdn (show A.in1.in1.handled = none from hh) fun h' tk kp => ?_)
 rw [if_pos (by rfl)]
 have hL' : h'.IsTuple L items := ⟨o, kp _ _ hx1, hc, k, hdat⟩
 refine wpAny_bind (wpAny_rule (wpAny_bind (wpAny_pyIter_tuple hL' ?_)))
 have Dget : ∃ od, h'.get? s.heap.objs.size = some od := ⟨_, kp _ _ (Heap.get?_push_size _ rfl)⟩
 have Dlt : s.heap.objs.size < h'.objs.size := let ⟨_, e⟩ := Dget; Heap.lt_size e
 refine wpAny_pure ⟨plainId_quiet zD _, ?_⟩
 have it0 : (h'.push { cls := .type "tuple_iterator", data := .fields #[.ref L, .int 0 0] }).IsTupleIter h'.objs.size L 0 := ⟨_, Heap.get?_push_size _ rfl, rfl, rfl⟩
 have hd' : (h'.push { cls := .type "tuple_iterator", data := .fields #[.ref L, .int 0 0] }).DictOf (zw prog w) s.heap.objs.size [] := by
  obtain ⟨od, es, ep, e, r⟩ := hnew
  exact ⟨od, es, ep, Heap.get?_push_of_some _ (kp _ _ e), r⟩
 refine Ys (A := A.in1) (show A.in1.handled = none from hh) s.heap.objs.size L h'.objs.size items (Nat.ne_of_gt Llt) (Nat.ne_of_lt Dlt) (Nat.ne_of_lt (Nat.lt_trans Llt Dlt)) ps hlen hsz items.size 0 { s with heap := h'.push { cls := .type "tuple_iterator", data := .fields #[.ref L, .int 0 0] }, toks := tk } [] rfl (Nat.le_refl _) it0 ⟨o, Heap.get?_push_of_some _ (kp _ _ hx1), hc, k, hdat⟩ hd' (fun j p v a b => ?_) fun h2 tk2 hd2 hk2 => ?_
 ·obtain ⟨bb, key, e1, ⟨ot, e2, r⟩, e3⟩ := hp j p v a b
  exact ⟨bb, key, e1, ⟨ot, Heap.get?_push_of_some _ (kp _ _ (Heap.get?_push_of_some _ e2)), r⟩, e3⟩
 ·refine ⟨rfl, h h2 tk2 ?_ fun b ob e => hk2 b ob (Nat.ne_of_lt (Heap.lt_size e)) (Nat.ne_of_lt (Nat.lt_trans (Heap.lt_size e) Dlt)) (Heap.get?_push_of_some _ (kp _ _ (Heap.get?_push_of_some _ e)))⟩
  rw [List.drop_zero] at hd2
  exact hd2
end
section
variable {X : Cx}
def tDictTP (K : PySem.W.Frag) (ta : TA) : TE := fun σ H Q => ta σ H fun vs H1 => ∃ p xs ps, vs = [.ref p] /\ H1 p = some (.tup xs) /\ Prs H1 xs ps /\ ∀ D, H1 D = none -> Q (.ref D) (upd H1 D (.dK (putAll [] ps)))
theorem Yt (K : PySem.W.Frag) {a : Expr} {ta : TA} {p pos : Pos} (hg : Gl X "dict") (hm : X.mg "dict" = none) (ha : PA X [a] ta) (hs : starEach [a] X.env = [(false, eval a X.env)] := by rfl) (hc : X.calm = true := by rfl) (hK : X.K = K := by rfl) :
  PE X (.Call (.Name "dict" p) [a] [] pos) (tDictTP K ta) := by
 subst hK
 intro pins s σ H Q I h
 refine Call_ (Zi I hg hm wO (PyProof.Rows.callWith_type1 (thn (ha pos pins s σ H _ I h) fun us s1 ⟨vs, H1, I1, r1, q1⟩ => ?_) hs rfl))
 obtain ⟨p1, xs, ps, e, hq, hps, q⟩ := q1
 subst e
 obtain ⟨u1, rfl, r2⟩ := vals1 r1
 cases r2
 obtain ⟨hz, its, rv, o, eo, c1, ⟨n, c2⟩, c3⟩ := (show qc X.prog X.w H1 s1.heap p1 (.tup xs) from I1.hok p1 _ hq)
 obtain ⟨rs, rk, hpa⟩ := prs_at I1.hok hps rv
 have l1 : rs.length = its.toArray.size := by
  have a1 := rk.length
  have a2 := Paired.length hps
  have a3 := rv.length
  simp; omega
 have l2 : ps.length <= sizeLine := by
  have a2 := Paired.length hps
  omega
 refine ZN (ps := rs) (I1.ok.hd hc) eo c1 c2 c3 l1 (by have := rk.length; omega) (fun j p v a b => hpa j p v a (by simpa using b)) fun h' tk hd' kp => ?_
 have hb : (s1.heap.objs.size == sysModules) = false := beq_eq_false_iff_ne.mpr (Ne.symm (Nat.ne_of_lt I1.big))
 have hl : (putAll [] ps).length <= sizeLine := by
  have := jm ps []
  simp at this; omega
 exact ⟨.ref s1.heap.objs.size, _, I1.laid (a := s1.heap.objs.size) (o := .dK (putAll [] ps)) (t' := tk) kp (Nat.le_refl _) ⟨hl, hb, _, Yi rk .nil, hd'⟩, rfl, q _ (I1.hok.fresh (Nat.le_refl _))⟩
end
end L2
namespace L2
open PySem PySem.Spec PyProof.Rows
theorem kV_rel {P : Program} {w : World} {k : Key} {u : Value} (h : (zw P w).is k u = true) : RelV (kV k) u := by
 rcases qa (show wv k u = true from h) with ⟨i, t, rfl, rfl⟩ | ⟨x, t, rfl, rfl⟩
 ·exact ⟨t, rfl⟩
 ·exact ⟨t, rfl⟩
def Itk (d : Addr) (kvs : List (Key × V)) (o : Obj) : It :=
 ⟨fun i H => H d = some (.frz o (.dK kvs)) /\ i < kvs.length, fun i H x H' => H' = H /\ ∃ p, kvs[i]? = some p /\ x = kV p.1, fun i H => H d = some (.frz o (.dK kvs)) /\ kvs.length <= i⟩
theorem frz_at {P : Program} {w : World} {H : Hp} {h : Heap} {d : Addr} {kvs : List (Key × V)} {o : Obj} {es0 : Array DictEntry} {ep : Nat} (ok : HOk P w H h) (e : H d = some (.frz o (.dK kvs))) (hd : o.data = .dict es0 ep) : ∃ vs, KV kvs vs /\ h.DictAt (zw P w) d vs ep := by
 obtain ⟨e1, _, _, vs, rel, o', es, ep', e2, r1, r2, r3⟩ := (show qc P w H h d (.frz o (.dK kvs)) from ok d _ e)
 rw [e1] at e2
 obtain rfl := Option.some.inj e2
 have r2' := r2
 rw [hd] at r2'
 injection r2' with h1 h2
 subst h1 h2
 exact ⟨vs, rel, o, es0, e1, r1, hd, r3⟩
theorem Yu {P : Program} {w : World} {K : PySem.W.Frag} {tg : Expr} (d it : Addr) (kvs : List (Key × V)) (o : Obj) (es0 : Array DictEntry) (ep : Nat) (hd : o.data = .dict es0 ep) :
  Turn P w K tg (Itk d kvs o) [it] it (fun i h => h.IsKeyIter it d i kvs.length ep) where
 mem := by simp
 obj := fun i h st b hb => by
  have e : b = it := by simpa using hb
  subst e
  obtain ⟨o, e, c, d⟩ := st
  exact ⟨o, e, fun v z => by rw [d] at z; cases z⟩
 keep := fun i h h' st k => st.at fun o e => k it (by simp) o e
 item := by
  intro X hP hw hK hc i pins s σ H E I hf st hg
  subst hP hw hK
  obtain ⟨hq, hi⟩ := hg
  obtain ⟨vs, rel, da⟩ := frz_at I.hok hq hd
  have hl := rel.length
  obtain ⟨f0, f1, f2, f3, f4, f5⟩ := hf it (by simp)
  have hx : kvs[i]? = some kvs[i] := List.getElem?_eq_getElem hi
  have hv : vs[i]? = some vs[i] := List.getElem?_eq_getElem (by omega)
  have hkk : kvs[i].1 = (vs[i]'(by omega)).1 := by
   have hks := rel.keys
   have h1 := congrArg (fun l => l[i]?) hks
   simp only [List.getElem?_map, hx, hv] at h1
   exact Option.some.inj h1
  rw [hl] at st
  refine wpAny_pyNext_dict_item st da hv fun key h' hkey st' sb => ?_
  have I1 : Inv X pins σ H { s with heap := h' } := I.turned (t' := s.toks) (fun b o hb e => (sb.2 b hb).trans e) f0 f1 f3 f4 f5
  rw [<- hl] at st'
  obtain ⟨o2, e, c, d2⟩ := id st'
  refine ⟨key, rfl, yG (s := { s with heap := h' }) e c d2 (by decide) ⟨kV kvs[i].1, H, I1, ?_, ⟨rfl, _, hx, rfl⟩, st', fun b hb => (hf b hb).1⟩⟩
  rw [hkk]
  exact kV_rel hkey
 done := by
  intro X hP hw hK hc i pins s σ H E I hf st hg
  subst hP hw hK
  obtain ⟨hq, hi⟩ := hg
  obtain ⟨vs, rel, da⟩ := frz_at I.hok hq hd
  have hl := rel.length
  obtain ⟨f0, f1, f2, f3, f4, f5⟩ := hf it (by simp)
  rw [hl] at st
  exact wpAny_pyNext_dict_end (I.ok.hd hc) st da (by simp; omega) fun h' eb => ⟨rfl, I.turned (t' := s.toks) (fun b o hb e => eb b o hb e) f0 f1 f3 f4 f5⟩
 self := fun _ _ _ _ _ st h => wpAny_pyIter_keyiter st h
section
variable {X : Cx}
def iKeys (te : TE) : TI := fun σ H R => te σ H fun x H1 => ∃ d kvs, x = .ref d /\ H1 d = some (.dK kvs) /\ ∀ o, R (Itk d kvs o) (upd H1 d (.frz o (.dK kvs)))
theorem pi_keys {tg l : Expr} {tl : TE} (hl : PE X l tl) : PI X tg l (iKeys tl) := by
 intro pins s σ H R I h
 refine thn (hl pins s σ H _ I h) fun v s1 ⟨x, H1, I1, rx, d, kvs, ex, hd, q⟩ => ?_
 subst ex
 obtain rfl : v = Value.ref d := rx
 obtain ⟨z, hb, vs, rel, dd⟩ := dk_of I1.hok hd
 obtain ⟨o, es, ep, e1, r1, r2, r3⟩ := id dd
 have da : s1.heap.DictAt (zw X.prog X.w) d vs ep := ⟨o, es, e1, r1, r2, r3⟩
 refine wpAny_pyIter_dict hb da ?_
 have hl2 := rel.length
 have I2 : Inv X pins σ (upd H1 d (.frz o (.dK kvs))) { s1 with heap := s1.heap, toks := s1.toks } := I1.write (x := d) (e := d) (t' := s1.toks) (o := .frz o (.dK kvs)) (by rw [hd]; exact True.intro) (.inl rfl) (fun b u _ e => e) ⟨o, e1⟩ ⟨e1, z, hb, vs, rel, o, es, ep, e1, r1, r2, r3⟩
 have I3 : Inv X pins σ (upd H1 d (.frz o (.dK kvs))) { s1 with heap := s1.heap.push { cls := .type "dict_keyiterator", data := .fields #[.ref d, .int 0 0, .int vs.length 0, .int ep 0] } } := I2.kept (t' := s1.toks) fun _ _ e => Heap.get?_push_of_some _ e
 have hn : (upd H1 d (.frz o (.dK kvs))) s1.heap.objs.size = none := I2.hok.fresh (Nat.le_refl _)
 refine ⟨s1.heap.objs.size, [s1.heap.objs.size], _, Itk d kvs o, _, rfl, I3, Yu d s1.heap.objs.size kvs o es ep r2, ⟨_, Heap.get?_push_size _ rfl, rfl, by rw [hl2]; rfl⟩, fun b hb => ?_, q o⟩
 have eb : b = s1.heap.objs.size := by simpa using hb
 subst eb
 exact I1.fpOk (Nat.le_refl _) hn
theorem Yv {d : Addr} {kvs : List (Key × V)} {ob : Obj} {t : Nat} {tt : TT} {te : TE} {σ0 : St} {H1 : Hp} {Q : VK} {D : Addr} (P : Nat -> List V -> Hp -> Prop) (h0 : P 0 [] (upd H1 D (.lst []))) (hl : ∀ i ys H, P i ys H -> H D = some (.lst ys) -> H d = some (.frz ob (.dK kvs)))
  (hs : ∀ i ys H p, kvs[i]? = some p -> P i ys H -> H D = some (.lst ys) -> tt (σ0.set t (some (kV p.1))) H fun b H4 => if b = true then te (σ0.set t (some (kV p.1))) H4 (cYes (JN t σ0) P kvs.length D (σ0.set t (some (kV p.1))) i) else cNo (JN t σ0) P kvs.length D (σ0.set t (some (kV p.1))) i H4)
  (hd : ∀ ys H, P kvs.length ys H -> H D = some (.lst ys) -> Q (.ref D) H) :
  jC (Itk d kvs ob) (jJ t) tt te σ0 H1 Q D := by
 have get : ∀ i, i < kvs.length -> kvs[i]? = some (kvs.getD i (Sum.inl 0, .non)) := fun i hi => by simp [List.getD, hi]
 refine jN (xv := fun i => kV (kvs.getD i (Sum.inl 0, .non)).1) (st := fun i => σ0.set t (some (kV (kvs.getD i (Sum.inl 0, .non)).1))) (JN t σ0) P y2 h0 (fun i ys H hi p hD => ⟨⟨hl i ys H p hD, hi⟩, fun x H2 y => ⟨y.1, ?_⟩⟩) (fun ys H p hD => ⟨hl _ ys H p hD, Nat.le_refl _⟩)
  (fun i _ σ' H K _ r _ k => by show K (σ'.set t (some _)) H; rw [r]; exact k) (fun i ys H hi p hD => hs i ys H _ (get i hi) p hD) hd
 obtain ⟨_, p, e1, e2⟩ := y
 rw [get i hi] at e1
 rw [e2, <- Option.some.inj e1]
end
section
variable {prog : Program} {w : World} {A : Around} {E : Value -> Shared -> Prop} {s : Shared}
theorem Yw {d : Addr} {kvs : List (Key × Value)} {Q : Bool -> Shared -> Prop} (hm : s.heap.DictOf (zw prog w) d kvs) (h : Q false s) : wpAny (model prog w) A (Builtin.List.listLengthHint (.ref d)) Q E s := by
 unfold Builtin.List.listLengthHint
 refine wpAny_bind (wpAny_specialOf (name := Str.ofString "__len__") hm.typeIs PySem.F.slot_dict_len.lookup ?_)
 generalize hid : ("dict.__len__" : String) = id0
 wp_delta
 rw [show splitId id0 = some ("dict", "__len__") from by subst hid; decide +kernel]
 subst hid
 refine wpAny_bind (wpAny_isInstance (T := "dict") (b := true) hm.typeIs isSubtype_dict_dict ?_)
 refine wpAny_ite_split (fun hab => absurd hab (by decide)) (fun _ => ?_)
 refine wpAny_ite_split (fun _ => ?_) (fun hn => absurd (by decide +kernel) hn)
 refine wpAny_bind (wpAny_typeOf hm.typeIs ?_)
 exact wpAny_pure h
theorem wU {R : Result -> Shared -> Prop} {d S : Addr} {kvs : List (Key × Value)} {ep : Nat} (hh : A.handled = none) (hb : (d == sysModules) = false) (hm : s.heap.DictAt (zw prog w) d kvs ep) (hz : kvs.length <= 1000) (res : Value) (c₀ : Nat) (hS : s.heap.get? S = some { cls := .type "list", data := .seq #[] c₀ }) (hSd : S ≠ d)
  (hR : ∀ h' tk acc' c', (∀ b o, b ≠ S -> s.heap.get? b = some o -> h'.get? b = some o) -> h'.get? S = some { cls := .type "list", dict := none, data := .seq acc' c', slots := #[] } ->
   ItemsOf (fun i v => ∃ k x, kvs[i]? = some (k, x) /\ (zw prog w).is k v = true) acc' kvs.length -> R (.ok (.ret res)) { s with heap := h', toks := tk }) :
  wpAny (model prog w) A.in1 (Builtin.List.listExtendWith (.ref S) (.ref d) res)
   (fun fin s' => match fin with | .done f => R (.ok f) s' | .again c' => c'.quiet = true /\ codeAny (model prog w) A c' R s') (fun e s' => R (.error e) s') s := by
 have dlt : d < s.heap.objs.size := hm.lt_size
 have Slt : S < s.heap.objs.size := Heap.lt_size hS
 have hSf : S ∉ [s.heap.objs.size, d] := fun hmm => by
  rcases List.mem_cons.mp hmm with h | h
  ·exact absurd h (Nat.ne_of_lt Slt)
  ·exact hSd (List.mem_singleton.mp h)
 have W := (Walks.dictKeys (prog := prog) (w := w) (knd := zw prog w) (A := A.in1) hh s.heap.objs.size d (Nat.ne_of_lt dlt) kvs ep).toS
 have key : ∀ (h : Heap) (c₁ tk : Nat), h.IsKeyIter s.heap.objs.size d 0 kvs.length ep -> h.DictAt (zw prog w) d kvs ep -> (∀ b o, b ≠ S -> s.heap.get? b = some o -> h.get? b = some o) ->
   h.get? S = some { cls := .type "list", data := .seq #[] c₁ } -> codeAny (model prog w) A (.builtin "list.extend.loop" ⟨[.ref S, .ref s.heap.objs.size, res], []⟩) R { s with heap := h, toks := tk } := by
  intro h c₁ tk hit' hm' hk hS₁
  refine codeAny_extend_loopS W (by rw [sizeLine_eq]; omega) S hSf res kvs.length 0 _ #[] c₁ rfl (Nat.zero_le _) ⟨hit', hm'⟩ hS₁ (ItemsOf.nil _) fun s' acc' c' hm hS' hacc => ?_
  rw [Moved.eq_with hm]
  refine hR s'.heap s'.toks acc' c' (fun b o hb e => hm.heap b o (fun hmem => ?_) (hk b o hb e)) hS' hacc
  rcases List.mem_cons.mp hmem with e' | hmem
  ·exact hb e'
  ·exact absurd (Heap.lt_size e) (by rw [List.mem_singleton.mp hmem]; exact Nat.lt_irrefl _)
 unfold Builtin.List.listExtendWith
 refine wpAny_bind (wpAny_typeOf (T := "dict") hm.dictOf.typeIs ?_)
 have h1 : Builtin.List.listSameRef (.ref S) (.ref d) = false := by simp [Builtin.List.listSameRef, hSd]
 have h2 : (Value.type "dict" == Value.type "list") = false := by decide
 have h3 : (Value.type "dict" == Value.type "tuple") = false := by decide
 simp only [h1, h2, h3, Bool.or_false, Bool.false_eq_true, if_false]
 refine wpAny_bind (wpAny_pyIter_dict hb hm ?_)
 have up : ∀ b o, s.heap.get? b = some o -> (s.heap.push { cls := .type "dict_keyiterator", data := .fields #[.ref d, .int 0 0, .int kvs.length 0, .int ep 0] }).get? b = some o := fun b o e => Heap.get?_push_of_some _ e
 have hit : (s.heap.push { cls := .type "dict_keyiterator", data := .fields #[.ref d, .int 0 0, .int kvs.length 0, .int ep 0] }).IsKeyIter s.heap.objs.size d 0 kvs.length ep := ⟨_, Heap.get?_push_size _ rfl, rfl, rfl⟩
 have hm1 := hm.keep up
 have hS1 := up _ _ hS
 refine wpAny_bind (wpAny_holding (Yw hm1.dictOf ?_))
 refine wpAny_ite_split (fun _ => ?_) (fun _ => wpAny_pure ⟨plainId_quiet PySem.F.plain_extend_loop _, key _ c₀ _ hit hm1 (fun b o _ e => up b o e) hS1⟩)
 refine wpAny_bind (wpAny_rule ?_)
 refine wpAny_bind ?_
 show wpAny _ _ (updateSeq S (·.push .none) >>= fun _ => updateSeq S (·.pop)) _ _ _
 refine wpAny_bind (wpAny_updateSeq hS1 rfl ?_)
 have hS₂ := Heap.get?_update_self (Obj.mapSeq (·.push Value.none)) hS1 rfl
 refine wpAny_updateSeq (hz := by seq_fits) hS₂ rfl ?_
 have hS₃ := Heap.get?_update_self (Obj.mapSeq (·.pop)) hS₂ rfl
 generalize s.heap.push { cls := .type "dict_keyiterator", data := .fields #[.ref d, .int 0 0, .int kvs.length 0, .int ep 0] } = h0 at *
 have oth : ∀ b o, b ≠ S -> h0.get? b = some o -> ((h0.update S (Obj.mapSeq (·.push Value.none))).update S (Obj.mapSeq (·.pop))).get? b = some o := fun b o hb e => (Heap.get?_update_other _ _ (Ne.symm hb)).trans ((Heap.get?_update_other _ _ (Ne.symm hb)).trans e)
 refine wpAny_pure ⟨plainId_quiet PySem.F.plain_extend_loop _, key _ _ _ (hit.at fun o e => oth _ o (Nat.ne_of_gt Slt) e) (hm1.at' fun o e => oth d o (Ne.symm hSd) e) (fun b o hb e => oth b o hb (up b o e)) hS₃⟩
theorem Qy {Q : Value -> Shared -> Prop} {d : Addr} {kvs : List (Key × Value)} {ep : Nat} (hh : A.handled = none) (hb : (d == sysModules) = false) (hm : s.heap.DictAt (zw prog w) d kvs ep) (hz : kvs.length <= 1000)
  (hQ : ∀ h' tk acc' c', (∀ b o, s.heap.get? b = some o -> h'.get? b = some o) ->
   h'.get? s.heap.objs.size = some { cls := .type "list", dict := none, data := .seq acc' c', slots := #[] } -> ItemsOf (fun i v => ∃ k x, kvs[i]? = some (k, x) /\ (zw prog w).is k v = true) acc' kvs.length -> Q (.ref s.heap.objs.size) { s with heap := h', toks := tk }) :
  wpAny (model prog w) A (call (.type "list") [.ref d]) Q E s := by
 refine callType_codes (Q₁ := fun obj s₁ => obj = .ref s.heap.objs.size /\ s₁ = { s with heap := s.heap.push { cls := .type "list", data := .seq #[] } }) PySem.F.called_list (PySem.F.typeCall_list_1 _) PySem.F.entry_list_init
  (code_list_new _ ⟨rfl, rfl⟩) fun obj s₁ h₁ => ?_
 obtain ⟨rfl, rfl⟩ := h₁
 have hS : (s.heap.push { cls := .type "list", data := .seq #[] }).get? s.heap.objs.size = some { cls := .type "list", data := .seq #[] } := Heap.get?_push_size _ rfl
 have dlt : d < s.heap.objs.size := hm.lt_size
 have hm1 := hm.keep (h' := s.heap.push { cls := .type "list", data := .seq #[] }) fun b o e => Heap.get?_push_of_some _ e
 refine ⟨⟨_, hS, rfl⟩, PySem.F.args_list_init_2 _ _, ?_⟩
 have oth0 : ∀ b o, s.heap.get? b = some o -> (s.heap.push { cls := .type "list", data := .seq #[] }).get? b = some o := fun b o e => Heap.get?_push_of_some _ e
 have nb : ∀ b o, s.heap.get? b = some o -> b ≠ s.heap.objs.size := fun b o e => Nat.ne_of_lt (Heap.lt_size e)
 generalize s.heap.push { cls := .type "list", data := .seq #[] } = h0 at *
 show wpAny _ _ (do let old <- Builtin.List.listItems (.ref s.heap.objs.size); Builtin.List.listUpdate (.ref s.heap.objs.size) (fun _ => #[]); letGo old.toList.reverse; Builtin.List.listExtendWith (.ref s.heap.objs.size) (.ref d) .none) _ _ _
 refine wpAny_bind ?_
 unfold Builtin.List.listItems
 refine wpAny_bind (wpAny_seqItems hS rfl (wpAny_pure ?_))
 show wpAny _ _ (updateSeq s.heap.objs.size (fun _ => #[]) >>= fun _ => letGo (#[] : Array Value).toList.reverse >>= fun _ => Builtin.List.listExtendWith (.ref s.heap.objs.size) (.ref d) .none) _ _ _
 refine wpAny_bind (wpAny_updateSeq hS rfl ?_)
 have hS₂ := Heap.get?_update_self (Obj.mapSeq (fun _ => (#[] : Array Value))) hS rfl
 have oth : ∀ b o, b ≠ s.heap.objs.size -> h0.get? b = some o -> (h0.update s.heap.objs.size (Obj.mapSeq (fun _ => (#[] : Array Value)))).get? b = some o :=
  fun b o hb e => (Heap.get?_update_other _ _ (Ne.symm hb)).trans e
 refine wpAny_bind (wpAny_letGo ?_)
 refine wU (A := A.in1) hh hb (hm1.at' fun o e => oth d o (Nat.ne_of_lt dlt) e) hz .none _ hS₂ (Nat.ne_of_gt dlt) fun h' tk acc' c' hk hS' hacc => ?_
 exact ⟨rfl, hQ h' tk acc' c' (fun b o e => hk b o (nb b o e) (oth b o (nb b o e) (oth0 b o e))) hS' hacc⟩
end
theorem QV {α β : Type} {R : α -> β -> Prop} : ∀ {as : List α} {bs : List β}, as.length = bs.length -> (∀ (i : Nat) (a : α) (b : β), as[i]? = some a -> bs[i]? = some b -> R a b) -> Paired R as bs
 | [], [], _, _ => .nil
 | a :: as, b :: bs, h, k => .cons (k 0 a b rfl rfl) (QV (by simpa using h) fun i x y hx hy => k (i + 1) x y hx hy)
theorem Yx {P : Program} {w : World} {kvs : List (Key × V)} {vs : List (Key × Value)} (rel : KV kvs vs) {acc : Array Value} (h : ItemsOf (fun i v => ∃ k x, vs[i]? = some (k, x) /\ (zw P w).is k v = true) acc vs.length) : qe (kvs.map fun p => kV p.1) acc.toList := by
 have hl := rel.length
 refine QV (by have := h.1; rw [List.length_map]; simp; omega) fun i a b ha hb => ?_
 rw [List.getElem?_map] at ha
 obtain ⟨p, hp, rfl⟩ := Option.map_eq_some_iff.mp ha
 rw [Array.getElem?_toList] at hb
 obtain ⟨k, x, hv, hk⟩ := h.2 i b hb
 have h1 := congrArg (fun l => l[i]?) rel.keys
 simp only [List.getElem?_map, hp, hv] at h1
 have h2 : p.1 = k := Option.some.inj h1
 rw [h2]
 exact kV_rel hk
section
variable {X : Cx}
theorem yf (hc : X.calm = true) : qZ X (.type "list") (fun xs H Q => ∃ a kvs, xs = [.ref a] /\ H a = some (.dK kvs) /\ kvs.length <= 1000 /\ ∀ p, H p = none -> Q (.ref p) (upd H p (.lst (kvs.map fun p => kV p.1)))) := by
 intro pins s σ H xs us Q I rv h
 obtain ⟨a, kvs, rfl, ha, hz, q⟩ := h
 obtain ⟨u1, rfl, r2⟩ := vals1 rv
 cases r2
 obtain ⟨z, hb, vs, rel, dd⟩ := dk_of I.hok ha
 obtain ⟨ep, da⟩ := dd.dictAt
 have hl := rel.length
 refine Qy (I.ok.hd hc) hb da (by omega) fun h' tk acc c kp he hacc => ?_
 exact ⟨.ref s.heap.objs.size, _, I.laid (a := s.heap.objs.size) (o := .lst (kvs.map fun p => kV p.1)) (t' := tk) kp (Nat.le_refl _) ⟨by rw [List.length_map]; exact z, acc.toList, c, Yx rel hacc, by simpa using he⟩, rfl, q _ (I.hok.fresh (Nat.le_refl _))⟩
end
end L2
namespace L2
open PySem PySem.Spec PyProof.Rows
section
variable {X : Cx}
end
end L2
namespace L2
open PySem PySem.Spec PyProof.Rows
section
variable {X : Cx}
end
section
variable {prog : Program} {w : World} {A : Around} {E : Value -> Shared -> Prop} {s : Shared}
end
section
variable {X : Cx}
end
end L2
namespace L2
open PySem PySem.Spec PyProof.Rows
section
variable {X : Cx} {pins : List (Addr × Obj)} {σ : List (Option V)} {H : Hp} {s : Shared}
end
section
variable {X : Cx}
end
end L2
namespace L2
open PySem PySem.Spec PyProof.Rows
end L2
namespace L2
open PySem PySem.Spec PyProof.Rows
theorem Yy {K : PySem.W.Frag} {p q : Addr} {xs ys : List V} {n : Nat} {tt : TT} {te : TE} {H1 : Hp} {Q : VK} {D : Addr} {more : St} (P : Nat -> List V -> Hp -> Prop) (hn : n = min xs.length ys.length) (h0 : P 0 [] (upd H1 D (.lst [])))
  (hp : ∀ i zs H, P i zs H -> H D = some (.lst zs) -> SqL K H p xs /\ SqT K H q ys)
  (hs : ∀ i zs H T x y, xs[i]? = some x -> ys[i]? = some y -> i < n -> P i zs H -> H D = some (.lst zs) -> H T = none -> tt (some x :: some y :: more) (upd H T (.tup [x, y])) fun b H4 => if b = true then te (some x :: some y :: more) H4 (cYes (fun σ => ∃ x y, σ = x :: y :: more) P n D (some x :: some y :: more) i) else cNo (fun σ => ∃ x y, σ = x :: y :: more) P n D (some x :: some y :: more) i H4)
  (hd : ∀ zs H, P n zs H -> H D = some (.lst zs) -> Q (.ref D) H) :
  jC (ItzM K p q) (gTup K 2 (JB (jJ 0) (JB (jJ 1) gNil))) tt te (none :: none :: more) H1 Q D := by
 refine ⟨cW (fun σ => ∃ x y, σ = x :: y :: more) P n D, ⟨n, (Nat.sub_zero _).symm, Nat.zero_le _, ⟨_, _, rfl⟩, _, h0, zd⟩, ?_⟩
 rintro i m σ' H' ⟨rfl, hi, ⟨s1, s2, rfl⟩, zs, pp, hD⟩
 obtain ⟨q1, q2⟩ := hp i zs H' pp hD
 by_cases hlt : i < n
 ·have k1 : xs[i]? = some (xs.getD i .non) := by simp [List.getD, show i < xs.length by omega]
  have k2 : ys[i]? = some (ys.getD i .non) := by simp [List.getD, show i < ys.length by omega]
  refine .inr ⟨⟨xs, ys, _, _, q1, q2, k1, k2⟩, ?_⟩
  rintro v H2 ⟨T, x, y, hT, rfl, rfl, hall⟩
  obtain ⟨e1, e2⟩ := hall xs ys q1 q2
  exact ⟨T, _, rfl, SqT.of zd, rfl, _, _, rfl, _, _, rfl, rfl, hs i zs H' T x y e1 e2 hlt pp hD hT⟩
 ·have e : i = n := by omega
  subst e
  exact .inl ⟨⟨xs, ys, q1, q2, by omega⟩, hd zs H' pp hD⟩
end L2
namespace L2
open PySem PySem.Spec PyProof.Rows PySem.W
section
variable {α β : Type} {a : Nat -> Nat -> Bool} {n : Nat}
def wK (a : Nat -> Nat -> Bool) (n : Nat) : KasT α -> (α -> Prop) -> Prop
 | .ret x, P => P x
 | .ask i j k, P => i < n /\ j < n /\ wK a n (k (a i j)) P
theorem ZI : ∀ (t : KasT α) (f : α -> KasT β) (P : β -> Prop), wK a n t (fun x => wK a n (f x) P) -> wK a n (t.bind f) P
 | .ret _, _, _, h => h
 | .ask _ _ k, f, P, h => ⟨h.1, h.2.1, ZI (k _) f P h.2.2⟩
theorem wK_wp {cmp : Nat -> Nat -> (Bool -> Shared -> Prop) -> Shared -> Prop} {s : Shared} {G : α -> Shared -> Prop} (hc : ∀ i j C, i < n -> j < n -> C (a i j) s -> cmp i j C s) : ∀ (t : KasT α), wK a n t (fun x => G x s) -> t.kasWp cmp G s
 | .ret _, h => h
 | .ask i j k, h => hc i j _ h.1 h.2.1 (wK_wp hc (k _) h.2.2)
end
structure OrdK (a : Nat -> Nat -> Bool) (n : Nat) : Prop where
 asym : ∀ i j, i < n -> j < n -> a i j = true -> a j i = false
 tot : ∀ i j, i < n -> j < n -> i ≠ j -> a i j = false -> a j i = true
 tr : ∀ i j k, i < n -> j < n -> k < n -> a i j = true -> a j k = true -> a i k = true
section
variable {a : Nat -> Nat -> Bool} {n : Nat}
def Qu (n : Nat) (p : Array Nat) : Prop := p.toList.Perm (List.range n)
theorem Qu.size {p : Array Nat} (h : Qu n p) : p.size = n := by
 have := h.length_eq
 rw [List.length_range, Array.length_toList] at this
 exact this
theorem Qu.get {p : Array Nat} (h : Qu n p) {k : Nat} (hk : k < n) : p[k]? = some (p.getD k 0) /\ p.getD k 0 < n := by
 have hs := h.size
 have e : p[k]? = some (p[k]'(by omega)) := Array.getElem?_eq_getElem (by omega)
 have g : p.getD k 0 = p[k]'(by omega) := by
  rw [Array.getD_eq_getD_getElem?, e]
  rfl
 refine ⟨by rw [g]; exact e, ?_⟩
 rw [g]
 have : p[k]'(by omega) ∈ p.toList := by
  rw [<- Array.getElem_toList]
  exact List.getElem_mem _
 exact List.mem_range.mp (h.mem_iff.mp this)
theorem Qu.inj {p : Array Nat} (h : Qu n p) {i j : Nat} (hi : i < n) (hj : j < n) (e : p.getD i 0 = p.getD j 0) : i = j := by
 have hs := h.size
 have nd : p.toList.Nodup := h.nodup_iff.mpr List.nodup_range
 have gi := (h.get hi).1
 have gj := (h.get hj).1
 rw [<- Array.getElem?_toList] at gi gj
 rw [e] at gi
 exact (List.getElem?_inj (by rw [Array.length_toList]; omega) nd).mp (gi.trans gj.symm)
def yg (a : Nat -> Nat -> Bool) (p : Array Nat) (m : Nat) : Prop := ∀ i j, i < j -> j < m -> a (p.getD i 0) (p.getD j 0) = true
def DesK (a : Nat -> Nat -> Bool) (p : Array Nat) (m : Nat) : Prop := ∀ i j, i < j -> j < m -> a (p.getD j 0) (p.getD i 0) = true
theorem yg.snoc {p : Array Nat} {k : Nat} (O : OrdK a n) (hp : Qu n p) (h : yg a p k) (k1 : 1 <= k) (kn : k < n) (q : a (p.getD (k - 1) 0) (p.getD k 0) = true) : yg a p (k + 1) := fun i j hij hj => by
 by_cases e : j = k
 ·subst e
  by_cases e2 : i = j - 1
  ·rw [e2]; exact q
  ·exact O.tr _ _ _ (hp.get (by omega)).2 (hp.get (by omega)).2 (hp.get kn).2 (h i (j - 1) (by omega) (by omega)) q
 ·exact h i j hij (by omega)
theorem DesK.snoc {p : Array Nat} {k : Nat} (O : OrdK a n) (hp : Qu n p) (h : DesK a p k) (k1 : 1 <= k) (kn : k < n) (q : a (p.getD k 0) (p.getD (k - 1) 0) = true) : DesK a p (k + 1) := fun i j hij hj => by
 by_cases e : j = k
 ·subst e
  by_cases e2 : i = j - 1
  ·rw [e2]; exact q
  ·exact O.tr _ _ _ (hp.get kn).2 (hp.get (by omega)).2 (hp.get (by omega)).2 q (h i (j - 1) (by omega) (by omega))
 ·exact h i j hij (by omega)
theorem Yz {p : Array Nat} (O : OrdK a n) (hp : Qu n p) {P : Nat -> Prop} : ∀ (f k : Nat), 1 <= k -> k + f <= n -> yg a p k -> (∀ m, k <= m -> m <= k + f -> yg a p m -> (m < k + f -> a (p.getD m 0) (p.getD (m - 1) 0) = true) -> P m) -> wK a n (kas_asc p f k) P
 | 0, k, _, _, h, q => q k (Nat.le_refl _) (Nat.le_refl _) h (fun z => absurd z (by omega))
 | f + 1, k, k1, kn, h, q => by
  show p.getD k 0 < n /\ p.getD (k - 1) 0 < n /\ wK a n (if a (p.getD k 0) (p.getD (k - 1) 0) = true then .ret k else kas_asc p f (k + 1)) P
  refine ⟨(hp.get (by omega)).2, (hp.get (by omega)).2, ?_⟩
  cases e : a (p.getD k 0) (p.getD (k - 1) 0) with
  | true => exact q k (Nat.le_refl _) (by omega) h (fun _ => e)
  | false =>
   have := O.tot _ _ (hp.get (by omega)).2 (hp.get (by omega)).2 (fun z => by have := hp.inj (by omega) (by omega) z; omega) e
   exact Yz O hp f (k + 1) (by omega) (by omega) (h.snoc O hp k1 (by omega) this) fun m h1 h2 h3 h4 => q m (by omega) (by omega) h3 (fun z => h4 (by omega))
theorem des_ok {p : Array Nat} (O : OrdK a n) (hp : Qu n p) {P : Array Nat × Nat × Nat -> Prop} : ∀ (f k : Nat), 1 <= k -> k + f <= n -> DesK a p k -> (∀ m, k <= m -> m <= k + f -> DesK a p m -> P (p, m, 0)) -> wK a n (kas_desc f p k 0) P
 | 0, k, _, _, h, q => q k (Nat.le_refl _) (Nat.le_refl _) h
 | f + 1, k, k1, kn, h, q => by
  show p.getD k 0 < n /\ p.getD (k - 1) 0 < n /\ wK a n (if a (p.getD k 0) (p.getD (k - 1) 0) = true then (if 0 > 0 then kas_desc f (kas_rev p (k - (0 + 1)) k) (k + 1) 0 else kas_desc f p (k + 1) 0)
   else .ask (p.getD (k - 1) 0) (p.getD k 0) fun d => if d = true then .ret (p, k, 0) else kas_desc f p (k + 1) (0 + 1)) P
  refine ⟨(hp.get (by omega)).2, (hp.get (by omega)).2, ?_⟩
  cases e : a (p.getD k 0) (p.getD (k - 1) 0) with
  | true => exact des_ok O hp f (k + 1) (by omega) (by omega) (h.snoc O hp k1 (by omega) e) fun m h1 h2 h3 => q m (by omega) (by omega) h3
  | false =>
   have := O.tot _ _ (hp.get (by omega)).2 (hp.get (by omega)).2 (fun z => by have := hp.inj (by omega) (by omega) z; omega) e
   refine ⟨(hp.get (by omega)).2, (hp.get (by omega)).2, ?_⟩
   rw [this]
   exact q k (Nat.le_refl _) (by omega) h
theorem rev_per {p : Array Nat} (hp : Qu n p) (i j : Nat) : Qu n (kas_rev p i j) := (Array.Perm.toList (mirror_perm p i j _)).trans hp
theorem rev_at {p : Array Nat} (hp : Qu n p) {m k : Nat} (hm : m <= n) (hk : k < m) : (kas_rev p 0 m).getD k 0 = p.getD (m - 1 - k) 0 := by
 rw [Array.getD_eq_getD_getElem?, Array.getD_eq_getD_getElem?]
 show ((mirror p 0 m ((m - 0) / 2))[k]?).getD 0 = _
 rw [getElem?_mirror_all (by rw [hp.size]; exact hm), if_pos ⟨Nat.zero_le _, hk⟩, Nat.zero_add]
theorem count_ok {p : Array Nat} (O : OrdK a n) (hp : Qu n p) (n2 : 2 <= n) {P : Nat × Array Nat -> Prop} (q : ∀ m p', 1 <= m -> m <= n -> Qu n p' -> yg a p' m -> P (m, p')) : wK a n (kas_count n p) P := by
 unfold kas_count
 refine ZI _ _ _ (Yz O hp (n - 1) 1 (Nat.le_refl _) (by omega) (fun i j h1 h2 => by omega) fun m h1 h2 h3 h4 => ?_)
 by_cases e : m = n
 ·rw [if_pos (by simp [e])]
  exact q m p h1 (by omega) hp h3
 ·rw [if_neg (by simp [e])]
  by_cases e1 : m > 1
  ·rw [if_pos e1]
   refine ⟨(hp.get (by omega)).2, (hp.get (by omega)).2, ?_⟩
   rw [h3 0 (m - 1) (by omega) (by omega)]
   exact q m p h1 (by omega) hp h3
  ·rw [if_neg e1]
   obtain rfl : m = 1 := by omega
   unfold kas_descPart
   have d2 : DesK a p 2 := fun i j hij hj => by
    obtain rfl : j = 1 := by omega
    obtain rfl : i = 0 := by omega
    exact h4 (by omega)
   refine ZI _ _ _ (des_ok O hp (n - (1 + 1)) (1 + 1) (by omega) (by omega) d2 fun m g1 g2 g3 => ?_)
   rw [if_neg (by show ¬ (0 : Nat) > 0; omega)]
   unfold kas_tail3
   have hr := rev_per hp 0 m
   have as : yg a (kas_rev p 0 m) m := fun i j hij hj => by
    rw [rev_at hp (by omega) (by omega), rev_at hp (by omega) hj]
    exact g3 _ _ (by omega) (by omega)
   refine ZI _ _ _ (Yz O hr (n - m) m (by omega) (by omega) as fun m' k1 k2 k3 _ => ?_)
   exact q m' _ (by omega) (by omega) hr k3
theorem Jg {p : Array Nat} (O : OrdK a n) (hp : Qu n p) {k : Nat} (kn : k < n) {P : Nat -> Prop} : ∀ (f l r : Nat), r - l <= f -> l <= r -> r <= k -> (∀ i, i < l -> a (p.getD i 0) (p.getD k 0) = true) -> (∀ i, r <= i -> i < k -> a (p.getD k 0) (p.getD i 0) = true) -> yg a p k ->
  (∀ m, m <= k -> (∀ i, i < m -> a (p.getD i 0) (p.getD k 0) = true) -> (∀ i, m <= i -> i < k -> a (p.getD k 0) (p.getD i 0) = true) -> P m) -> wK a n (kas_place p k f l r) P
 | 0, l, r, hf, lr, rk, h1, h2, _, q => q l (by omega) h1 fun i hi hk => h2 i (by omega) hk
 | f + 1, l, r, hf, lr, rk, h1, h2, as, q => by
  rw [kas_place.eq_def]
  show wK a n (if l ≥ r then .ret l else .ask (p.getD k 0) (p.getD ((l + r) / 2) 0) fun c => if c = true then kas_place p k f l ((l + r) / 2) else kas_place p k f ((l + r) / 2 + 1) r) P
  by_cases e : l ≥ r
  ·rw [if_pos e]
   exact q l (by omega) h1 fun i hi hk => h2 i (by omega) hk
  ·rw [if_neg e]
   have m1 : l <= (l + r) / 2 := by omega
   have m2 : (l + r) / 2 < r := by omega
   generalize (l + r) / 2 = m at m1 m2
   have gm := (hp.get (k := m) (by omega)).2
   have gk := (hp.get kn).2
   refine ⟨gk, gm, ?_⟩
   cases ea : a (p.getD k 0) (p.getD m 0) with
   | true =>
    refine Jg O hp kn f l m (by omega) m1 (by omega) h1 (fun i hi hk => ?_) as q
    by_cases e2 : i = m
    ·rw [e2]; exact ea
    ·exact O.tr _ _ _ gk gm (hp.get (by omega)).2 ea (as m i (by omega) hk)
   | false =>
    have := O.tot _ _ gk gm (fun z => by have := hp.inj kn (by omega) z; omega) ea
    refine Jg O hp kn f (m + 1) r (by omega) (by omega) rk (fun i hi => ?_) h2 as q
    by_cases e2 : i = m
    ·rw [e2]; exact this
    ·exact O.tr _ _ _ (hp.get (by omega)).2 gm gk (as i m (by omega) (by omega)) this
theorem bub_at {p : Array Nat} (hp : Qu n p) {k l i : Nat} (kn : k < n) (lk : l <= k) : (bubble p k (k - l)).getD i 0 = if i = l then p.getD k 0 else if l < i /\ i <= k then p.getD (i - 1) 0 else p.getD i 0 := by
 rw [Array.getD_eq_getD_getElem?, getElem?_bubble (by rw [hp.size]; exact kn) _ (by omega), show k - (k - l) = l by omega]
 split
 ·rw [Array.getD_eq_getD_getElem?]
 ·split
  ·rw [Array.getD_eq_getD_getElem?]
  ·rw [Array.getD_eq_getD_getElem?]
theorem bin_ok (O : OrdK a n) {P : Array Nat -> Prop} (q : ∀ p, Qu n p -> yg a p n -> P p) : ∀ (f k : Nat) (p : Array Nat), Qu n p -> k + f = n -> yg a p k -> wK a n (kas_bin f p k) P
 | 0, k, p, hp, hk, h => q p hp (by rw [<- hk]; exact h)
 | f + 1, k, p, hp, hk, h => by
  show wK a n ((kas_place p k k 0 k).bind fun l => kas_bin f (bubble p k (k - l)) (k + 1)) P
  refine ZI _ _ _ (Jg O hp (by omega) k 0 k (by omega) (by omega) (by omega) (fun i hi => absurd hi (by omega)) (fun i h1 h2 => absurd h1 (by omega)) h fun m mk h1 h2 => ?_)
  refine bin_ok O q f (k + 1) _ ((Array.Perm.toList (bubble_perm p k _)).trans hp) (by omega) fun i j hij hj => ?_
  rw [bub_at hp (by omega) mk, bub_at hp (by omega) mk]
  by_cases ei : i = m
  ·rw [if_pos ei, if_neg (by omega), if_pos (by omega)]
   exact h2 (j - 1) (by omega) (by omega)
  ·rw [if_neg ei]
   by_cases ej : j = m
   ·rw [if_pos ej, if_neg (by omega)]
    exact h1 i (by omega)
   ·rw [if_neg ej]
    by_cases gi : m < i /\ i <= k
    ·rw [if_pos gi, if_pos (by omega)]
     exact h _ _ (by omega) (by omega)
    ·rw [if_neg gi]
     by_cases gj : m < j /\ j <= k
     ·rw [if_pos gj]
      exact h _ _ (by omega) (by omega)
     ·rw [if_neg gj]
      exact h _ _ hij (by omega)
theorem sort_ok (O : OrdK a n) (n2 : 2 <= n) {P : Array Nat -> Prop} (q : ∀ p, Qu n p -> yg a p n -> P p) : wK a n (kas_sort n) P := by
 unfold kas_sort
 refine ZI _ _ _ (count_ok O (p := (List.range n).toArray) (List.Perm.refl _) n2 fun m p' m1 mn hp h => ?_)
 show wK a n (if m < n then kas_bin (n - max m 1) p' (max m 1) else .ret p') P
 rw [show max m 1 = m by omega]
 by_cases e : m < n
 ·rw [if_pos e]
  exact bin_ok O q (n - m) m p' hp (by omega) h
 ·rw [if_neg e]
  exact q p' hp (by rw [show n = m by omega]; exact h)
end
def ZF : List Nat -> List Nat -> Bool
 | x :: xs, y :: ys => if x = y then ZF xs ys else decide (x < y)
 | _, _ => false
theorem ZU : ∀ (xs ys : List Nat), ZF xs ys = true -> ZF ys xs = false
 | [], [], h => by cases h
 | [], _ :: _, h => by cases h
 | _ :: _, [], h => by cases h
 | x :: xs, y :: ys, h => by
  unfold ZF at h ⊢
  by_cases e : x = y
  ·rw [if_pos e] at h
   rw [if_pos e.symm]
   exact ZU xs ys h
  ·rw [if_neg e, decide_eq_true_eq] at h
   rw [if_neg (fun z => e z.symm), decide_eq_false_iff_not]
   omega
theorem YA : ∀ (xs ys : List Nat), xs.length = ys.length -> xs ≠ ys -> ZF xs ys = false -> ZF ys xs = true
 | [], [], _, n, _ => absurd rfl n
 | [], _ :: _, h, _, _ => by cases h
 | _ :: _, [], h, _, _ => by cases h
 | x :: xs, y :: ys, hl, n, h => by
  unfold ZF at h ⊢
  by_cases e : x = y
  ·rw [if_pos e] at h
   rw [if_pos e.symm]
   exact YA xs ys (by simpa using hl) (fun z => n (by rw [e, z])) h
  ·rw [if_neg e, decide_eq_false_iff_not] at h
   rw [if_neg (fun z => e z.symm), decide_eq_true_eq]
   omega
theorem lex_tr : ∀ (xs ys zs : List Nat), ZF xs ys = true -> ZF ys zs = true -> ZF xs zs = true
 | [], [], _, h, _ => by cases h
 | [], _ :: _, _, h, _ => by cases h
 | _ :: _, [], _, h, _ => by cases h
 | _ :: _, _ :: _, [], _, h => by cases h
 | x :: xs, y :: ys, z :: zs, h1, h2 => by
  unfold ZF at h1 h2 ⊢
  by_cases e : x = y
  ·rw [if_pos e] at h1
   subst e
   by_cases e2 : x = z
   ·rw [if_pos e2] at h2 ⊢
    exact lex_tr xs ys zs h1 h2
   ·rw [if_neg e2] at h2 ⊢
    exact h2
  ·rw [if_neg e, decide_eq_true_eq] at h1
   by_cases e2 : y = z
   ·subst e2
    rw [if_neg e, decide_eq_true_eq]
    exact h1
   ·rw [if_neg e2, decide_eq_true_eq] at h2
    rw [if_neg (by omega), decide_eq_true_eq]
    omega
def Tl (h : Heap) (k : List Nat) (v : Value) : Prop := ∃ b o its n, v = .ref b /\ h.get? b = some o /\ o.cls = .type "tuple" /\ o.data = .seq its n /\ Paired (fun (x : Nat) (u : Value) => ∃ t, u = .int (x : Int) t) k its.toList
theorem Tl.keep {h h' : Heap} {k : List Nat} {v : Value} (x : Tl h k v) (e : ∀ b o, h.get? b = some o -> o.cls = .type "tuple" -> h'.get? b = some o) : Tl h' k v := by
 obtain ⟨b, o, its, n, e1, e2, e3, e4, e5⟩ := x
 exact ⟨b, o, its, n, e1, e b o e2 e3, e3, e4, e5⟩
section
variable {prog : Program} {w : World} {A : Around} {E : Value -> Shared -> Prop} {s : Shared}
theorem lex_run {Q : Bool -> Shared -> Prop} : ∀ {k l : List Nat} {xs ys : List Value} (i : Nat), Paired (fun (x : Nat) (u : Value) => ∃ t, u = .int (x : Int) t) k xs -> Paired (fun (x : Nat) (u : Value) => ∃ t, u = .int (x : Int) t) l ys -> k.length = l.length -> Q (ZF k l) s -> KatLex prog w A true false Q (xs.zip ys) i s := by
 intro k
 induction k with
 | nil =>
  intro l xs ys i h1 h2 hl q
  cases h1
  cases l with
  | nil => exact kat_nil q
  | cons y l => cases hl
 | cons x k ih =>
  intro l xs ys i h1 h2 hl q
  cases l with
  | nil => cases hl
  | cons y l =>
   cases h1 with
   | cons r1 h1 =>
    cases h2 with
    | cons r2 h2 =>
     obtain ⟨t, rfl⟩ := r1
     obtain ⟨u, rfl⟩ := r2
     show KatLex prog w A true false Q ((_, _) :: List.zip _ _) i s
     refine kat_cons (wpAny_eqBool_int ?_)
     unfold ZF at q
     by_cases e : x = y
     ·subst e
      rw [if_pos rfl] at q
      rw [show ((x : Int) == (x : Int)) = true by simp]
      exact kat_yes (ih (i + 1) h1 h2 (by simpa using hl) q)
     ·rw [if_neg e] at q
      rw [show ((x : Int) == (y : Int)) = false by simp; omega]
      have ed : decide ((x : Int) < (y : Int)) = decide (x < y) := by simp
      refine kat_no ?_
      cases hb : (true && i == 0) with
      | true =>
       refine oneLt_int ?_
       rw [ed]
       exact q
      | false =>
       refine kat_one _ _ (lt_int ?_)
       rw [ed]
       exact q
theorem tl_lt {k l : List Nat} {v u : Value} {Q : Bool -> Shared -> Prop} (hv : Tl s.heap k v) (hu : Tl s.heap l u) (hl : k.length = l.length) (q : Q (ZF k l) s) : wpAny (model prog w) A (keyLt' (tuples' true) v u) Q E s := by
 obtain ⟨b, o, its, n, rfl, e2, e3, e4, e5⟩ := hv
 obtain ⟨b', o', its', n', rfl, f2, f3, f4, f5⟩ := hu
 have l1 : k.length = its.size := (Paired.length e5).trans Array.length_toList
 have l2 : l.length = its'.size := (Paired.length f5).trans Array.length_toList
 refine kat_lt e2 e4 f2 f4 ?_
 rw [show decide (its.size < its'.size) = false from decide_eq_false (by omega)]
 exact lex_run 0 e5 f5 hl q
theorem YB {h : Heap} {L : Nat} {ks : List (List Nat)} {vs : List Value} (hp : Paired (Tl h) ks vs) (hL : ∀ k ∈ ks, k.length = L) (L1 : 1 <= L) : ∃ fs, KatTups h vs fs /\ fs.length = vs.length /\ ∀ f ∈ fs, ∃ i t, f = Value.int i t := by
 induction hp with
 | nil => exact ⟨[], .nil, rfl, fun f hf => by cases hf⟩
 | @cons k v ks vs r _ ih =>
  obtain ⟨fs, h1, h2, h3⟩ := ih fun k hk => hL k (List.mem_cons_of_mem _ hk)
  obtain ⟨b, o, its, n, rfl, e2, e3, e4, e5⟩ := r
  have kl := hL k List.mem_cons_self
  cases k with
  | nil => simp at kl; omega
  | cons x k =>
   obtain ⟨u, rest, eu⟩ : ∃ u rest, its.toList = u :: rest /\ ∃ t, u = .int (x : Int) t := by
    generalize its.toList = l at e5
    cases e5 with
    | cons r5 _ => exact ⟨_, _, rfl, r5⟩
   obtain ⟨eu, t, rfl⟩ := eu
   refine ⟨.int x t :: fs, .cons e2 e3 e4 (by rw [<- Array.getElem?_toList, eu]; rfl) h1, by rw [List.length_cons, List.length_cons, h2], fun f hf => ?_⟩
   rcases List.mem_cons.mp hf with rfl | hf
   ·exact ⟨_, _, rfl⟩
   ·exact h3 f hf
theorem Jh {a : Addr} {vs : List Value} {n L : Nat} {ks : List (List Nat)} {P : PySem.Fin -> Shared -> Prop} (ho : s.heap.get? a = some (seqObj "list" vs.toArray n)) (hp : Paired (Tl s.heap) ks vs) (hL : ∀ k ∈ ks, k.length = L) (L1 : 1 <= L) (nd : ks.Nodup) (hl : vs.length < 64)
  (h : ∀ ids : List Nat, ids.Perm (List.range vs.length) -> (ids.map fun i => ks.getD i []).Pairwise (fun x y => ZF x y = true) -> P (.done (.ret .none)) { s with heap := sortedHeap s.heap a vs (ids.map fun i => vs.getD i .none).toArray }) : wpAny (model prog w) A (Builtin.«list.sort» ⟨[.ref a], []⟩) P E s := by
 rw [list_sort_plain]
 have ha : a < s.heap.objs.size := Heap.lt_size ho
 refine wpAny_bind (listItems_at ho rfl ?_)
 refine wpAny_bind (listUpdate_at ho rfl ?_ (by rw [List.size_toArray, sizeLine_eq]; omega) (Nat.zero_le _))
 obtain ⟨e1, ho1⟩ : ∃ e1, (s.heap.update a (Obj.mapSeq fun _ => #[])).get? a = some (seqObj "list" #[] e1) := ⟨_, get?_update_seq ho (fun _ => #[])⟩
 refine wpAny_bind (seqEpoch_at ho1 rfl ?_)
 refine wpAny_bind (wpAny_newTuple ?_ (by show vs.length <= _; rw [sizeLine_eq]; omega))
 refine wpAny_bind (wpAny_newList ?_ (Nat.zero_le _))
 refine wpAny_holding ?_
 have ho6 : (((s.heap.update a (Obj.mapSeq fun _ => #[])).push (seqObj "tuple" vs.toArray 0)).push (seqObj "list" #[] 0)).get? a = some (seqObj "list" #[] e1) := by
  rw [Heap.get?_push_ne _ _ _ (by rw [size_push', Heap.size_update]; exact Nat.ne_of_lt (Nat.lt_succ_of_lt ha)), Heap.get?_push_ne _ _ _ (by rw [Heap.size_update]; exact Nat.ne_of_lt ha)]
  exact ho1
 have hp6 : Paired (Tl (((s.heap.update a (Obj.mapSeq fun _ => #[])).push (seqObj "tuple" vs.toArray 0)).push (seqObj "list" #[] 0))) ks vs := Paired.imp' (fun k v z => z.keep fun b o e c => by
  refine Heap.get?_push_of_some _ (Heap.get?_push_of_some _ ?_)
  have ne : a ≠ b := fun z => by
   subst z
   rw [ho] at e
   cases e
   exact absurd (show Value.type "list" = Value.type "tuple" from c) (by intro z; injection z with z; revert z; decide)
  exact (Heap.get?_update_other _ _ ne).trans e) hp
 show wpAny (model prog w) A _ P E { s with heap := ((s.heap.update a (Obj.mapSeq fun _ => #[])).push (seqObj "tuple" vs.toArray 0)).push (seqObj "list" #[] 0) }
 dsimp only
 have hsz : vs.toArray.size = vs.length := by simp
 have kl := Paired.length hp6
 by_cases h2 : vs.toArray.size < 2
 ·rw [if_pos h2, if_pos h2]
  refine wpAny_bind (wpAny_pure ?_)
  rw [StateT.run_pure]
  refine wpAny_bind (wpAny_pure ?_)
  dsimp only
  refine wpAny_bind (seqEpoch_at ho6 rfl ?_)
  have e0 : ((vs.toArray.zip vs.toArray).map (·.2)) = vs.toArray := by
   apply Array.toList_inj.mp
   rw [Array.toList_map, Array.toList_zip]
   simp [List.map_snd_zip]
  have em : (List.range vs.length).map (fun i => vs.getD i .none) = vs := by
   refine List.ext_getElem? fun i => ?_
   rw [List.getElem?_map]
   by_cases hi : i < vs.length
   ·rw [List.getElem?_range hi, List.getElem?_eq_getElem hi]
    show some (vs.getD i .none) = _
    rw [List.getD_eq_getElem?_getD, List.getElem?_eq_getElem hi]
    rfl
   ·rw [List.getElem?_eq_none (by rw [List.length_range]; omega), List.getElem?_eq_none (by omega)]
    rfl
  refine wpAny_bind (listUpdate_at ho6 rfl ?_ (hsz2 := by show ((vs.toArray.zip vs.toArray).map (·.2)).size <= _; rw [e0, hsz, sizeLine_eq]; omega))
  simp only [bne_self_eq_false, Bool.false_eq_true, if_false]
  have q := h (List.range vs.length) (List.Perm.refl _) (by
   rw [hsz] at h2
   have : vs.length = 0 \/ vs.length = 1 := by omega
   rcases this with e | e <;> rw [e] <;> simp [List.range_succ])
  rw [em, <- e0] at q
  exact wpAny_pure q
 ·rw [if_neg h2, if_neg h2]
  rw [hsz] at h2
  obtain ⟨fs, t1, t2, t3⟩ := YB hp6 hL L1
  refine wpAny_bind (kat_kind (T := .type "int") t1 (by omega) (fun f hf => by
   obtain ⟨i, t, rfl⟩ := t3 f hf
   exact .now) (by decide) ?_)
  rw [show (Value.type "int" != Value.type "tuple") = true by decide]
  have kg : ∀ i, i < vs.length -> ks[i]? = some (ks.getD i []) /\ vs[i]? = some (vs.getD i .none) := fun i hi => by
   rw [List.getD_eq_getElem?_getD, List.getD_eq_getElem?_getD, List.getElem?_eq_getElem hi, List.getElem?_eq_getElem (show i < ks.length by omega)]
   exact ⟨rfl, rfl⟩
  have O : OrdK (fun i j => ZF (ks.getD i []) (ks.getD j [])) vs.length := ⟨fun i j _ _ h => ZU _ _ h, fun i j hi hj n h => YA _ _ (by rw [hL _ (List.mem_of_getElem? (kg i hi).1), hL _ (List.mem_of_getElem? (kg j hj).1)]) (fun z => n ((List.getElem?_inj (by omega) nd).mp (by rw [(kg i hi).1, (kg j hj).1, z]))) h, fun i j k _ _ _ h1 h2 => lex_tr _ _ _ h1 h2⟩
  refine wpAny_bind (wpAny_mono (kat_run (κ := tuples' true) (ks := vs) (vs := vs) (Q := fun st' s' => s' = { s with heap := ((s.heap.update a (Obj.mapSeq fun _ => #[])).push (seqObj "tuple" vs.toArray 0)).push (seqObj "list" #[] 0) } /\ failedOf st' = none /\ ∃ p : Array Nat, arrOf st' = p.map (kas_item (vs.toArray.zip vs.toArray)) /\ Qu vs.length p /\ yg (fun i j => ZF (ks.getD i []) (ks.getD j [])) p vs.length)
   (G := fun p s' => s' = { s with heap := ((s.heap.update a (Obj.mapSeq fun _ => #[])).push (seqObj "tuple" vs.toArray 0)).push (seqObj "list" #[] 0) } /\ Qu vs.length p /\ yg (fun i j => ZF (ks.getD i []) (ks.getD j [])) p vs.length) rfl (by omega) hl (fun p st' s' hz hA hf g => ⟨g.1, hf, p, hA, g.2⟩) ?_) ?_ fun _ _ e => e)
  ·refine wK_wp (a := fun i j => ZF (ks.getD i []) (ks.getD j [])) (n := vs.length) (fun i j C hi hj c => ?_) _ (sort_ok O (by omega) fun p hp has => ⟨rfl, hp, has⟩)
   refine tl_lt (Paired.at hp6 i _ _ (kg i hi).1 (kg i hi).2) (Paired.at hp6 j _ _ (kg j hj).1 (kg j hj).2) ?_ c
   rw [hL _ (List.mem_of_getElem? (kg i hi).1), hL _ (List.mem_of_getElem? (kg j hj).1)]
  rintro ⟨⟨⟩, st'⟩ s' ⟨rfl, hf, p, hA, per, asc⟩
  dsimp only at hA hf ⊢
  have eo : (arrOf st').map (·.2) = (p.toList.map fun i => vs.getD i .none).toArray := by
   rw [hA, Array.map_map]
   apply Array.toList_inj.mp
   rw [Array.toList_map]
   refine List.map_congr_left fun i hi => ?_
   have hi' : i < vs.length := List.mem_range.mp (per.mem_iff.mp hi)
   show (Array.getD (vs.toArray.zip vs.toArray) i (Value.none, Value.none)).2 = _
   rw [Array.getD_eq_getD_getElem?, <- Array.getElem?_toList, Array.toList_zip]
   have : (List.zip vs vs)[i]? = some (vs.getD i .none, vs.getD i .none) := List.getElem?_zip_eq_some.mpr ⟨(kg i hi').2, (kg i hi').2⟩
   rw [this]
   rfl
  have pl : p.toList.length = vs.length := by rw [Array.length_toList]; exact per.size
  have q := h p.toList per (by
   rw [List.pairwise_map, List.pairwise_iff_getElem]
   intro i j hi hj hij
   have := asc i j hij (by omega)
   have gi := per.get (k := i) (by omega)
   have gj := per.get (k := j) (by omega)
   rw [<- Array.getElem?_toList, List.getElem?_eq_getElem hi] at gi
   rw [<- Array.getElem?_toList, List.getElem?_eq_getElem hj] at gj
   rw [Option.some.inj gi.1, Option.some.inj gj.1]
   exact this)
  refine wpAny_bind (seqEpoch_at ho6 rfl ?_)
  refine wpAny_bind (listUpdate_at ho6 rfl ?_ (hsz2 := by show ((arrOf st').map (·.2)).size <= _; rw [eo, List.size_toArray, List.length_map, pl, sizeLine_eq]; omega))
  rw [hf]
  simp only [bne_self_eq_false, Bool.false_eq_true, if_false]
  rw [<- eo] at q
  exact wpAny_pure q
end
end L2
namespace L2
open PySem PySem.Spec PyProof.Rows PySem.W L4
section
variable {prog : Program} {w : World} {A : Around} {E : Value -> Shared -> Prop} {s : Shared}
theorem yh {d : Addr} {vs : List Value} {ks : List (List Nat)} {L : Nat} {Q : Value -> Shared -> Prop} (hcol : ∀ R : List Value -> Shared -> Prop, (∀ h' tk, (∀ b o, s.heap.get? b = some o -> h'.get? b = some o) -> R vs { s with heap := h', toks := tk }) -> wpAny (model prog w) A.in1 (collect (.ref d)) R E s)
  (hp : Paired (Tl s.heap) ks vs) (hL : ∀ k ∈ ks, k.length = L) (L1 : 1 <= L) (nd : ks.Nodup) (hl : vs.length < 64)
  (h : ∀ (h1 h' : Heap) (tk e : Nat) (ids : List Nat), (∀ b o, s.heap.get? b = some o -> h1.get? b = some o) -> (∀ b o, h1.get? b = some o -> h'.get? b = some o) -> h'.get? h1.objs.size = some (seqObj "list" (ids.map fun i => vs.getD i .none).toArray e) -> ids.Perm (List.range vs.length) -> (ids.map fun i => ks.getD i []).Pairwise (fun x y => ZF x y = true) -> Q (.ref h1.objs.size) { s with heap := h', toks := tk }) :
  wpAny (model prog w) A (call (.builtin "sorted") [.ref d]) Q E s := by
 refine Calls.call_function_entry kind_sorted plain_sorted entry_sorted (args_sorted1 _) ?_
 unfold Builtin.«sorted»
 refine wpAny_bind (m := checkCount "sorted" 1 1 _) (wpAny_pure ?_)
 refine wpAny_bind (hcol _ fun h' tk hk => ?_)
 refine wpAny_bind (wpAny_newList ?_ (by rw [sizeLine_eq]; omega))
 have hoL : (h'.push (seqObj "list" vs.toArray 0)).get? h'.objs.size = some (seqObj "list" vs.toArray 0) := Heap.get?_push_size _ rfl
 have hpp : Paired (Tl (h'.push (seqObj "list" vs.toArray 0))) ks vs := Paired.imp' (fun k v z => z.keep fun b o e _ => Heap.get?_push_of_some _ (hk b o e)) hp
 show wpAny _ _ _ _ _ { s with heap := h'.push (seqObj "list" vs.toArray 0), toks := tk }
 refine wpAny_bind (wpAny_holding (wpAny_call_entry slot_list_sort ⟨_, hoL, rfl⟩ entry_list_sort (Jh hoL hpp hL L1 nd hl fun ids per asc => ⟨_, rfl, ?_⟩) (args_list_sort _)))
 obtain ⟨e, he⟩ := sortedHeap_at (vs := vs) (out := (ids.map fun i => vs.getD i .none).toArray) hoL
 exact wpAny_pure ⟨_, rfl, h h' _ tk e ids hk (fun b o q1 => by
  have hb := Heap.lt_size q1
  rw [sortedHeap_old (Nat.ne_of_lt hb) (by rw [Heap.size_push]; exact Nat.lt_succ_of_lt hb)]
  exact Heap.get?_push_of_some _ q1) he per asc⟩
end
abbrev yw (H : Hp) : List Nat -> V -> Prop := fun col v => ∃ t, v = .ref t /\ H t = some (.tup (col.map nV))
theorem col_tl {P : Program} {w : World} {H : Hp} {h : Heap} (ok : HOk P w H h) {col : List Nat} {b : Addr} (e : H b = some (.tup (col.map nV))) : Tl h col (.ref b) := by
 obtain ⟨hz, its, rv, o, g1, g2, ⟨n, g3⟩, _⟩ := (show qc P w H h b (.tup (col.map nV)) from ok _ _ e)
 refine ⟨b, o, _, n, rfl, g1, g2, g3, ?_⟩
 clear g1 g2 g3 e hz
 rw [List.toList_toArray]
 generalize hc : col.map nV = xs at rv
 induction rv generalizing col with
 | nil =>
  cases col with
  | nil => exact .nil
  | cons x col => cases hc
 | cons r _ ih =>
  cases col with
  | nil => cases hc
  | cons x col =>
   obtain ⟨e1, e2⟩ := List.cons.inj hc
   subst e1
   exact .cons r (ih e2)
theorem Qg {α β : Type} {F : α -> β -> Prop} {as : List α} {bs : List β} (h : Paired F as bs) (a0 : α) (b0 : β) {ids : List Nat} (hi : ∀ i ∈ ids, i < bs.length) : Paired F (ids.map fun i => as.getD i a0) (ids.map fun i => bs.getD i b0) := by
 induction ids with
 | nil => exact .nil
 | cons i ids ih =>
  have hl := Paired.length h
  have hib := hi i List.mem_cons_self
  refine .cons ?_ (ih fun j hj => hi j (List.mem_cons_of_mem _ hj))
  show F (as.getD i a0) (bs.getD i b0)
  rw [List.getD_eq_getElem?_getD, List.getD_eq_getElem?_getD, List.getElem?_eq_getElem hib, List.getElem?_eq_getElem (show i < as.length by omega)]
  exact Paired.at h i _ _ (List.getElem?_eq_getElem _) (List.getElem?_eq_getElem _)
theorem yi {α : Type} (as : List α) (a0 : α) {ids : List Nat} (h : ids.Perm (List.range as.length)) : (ids.map fun i => as.getD i a0).Perm as := by
 refine (h.map _).trans ?_
 have : (List.range as.length).map (fun i => as.getD i a0) = as := by
  refine List.ext_getElem? fun i => ?_
  rw [List.getElem?_map]
  by_cases hi : i < as.length
  ·rw [List.getElem?_range hi, List.getElem?_eq_getElem hi]
   show some (as.getD i a0) = _
   rw [List.getD_eq_getElem?_getD, List.getElem?_eq_getElem hi]
   rfl
  ·rw [List.getElem?_eq_none (by rw [List.length_range]; omega), List.getElem?_eq_none (by omega)]
   rfl
 rw [this]
section
variable {X : Cx}
def Qz (col : List Nat) : List Key := col.map fun (n : Nat) => (Sum.inl (n : Int) : Key)
theorem WH (col : List Nat) : (Qz col).map kV = col.map nV := by
 unfold Qz
 rw [List.map_map]
 rfl
theorem YC {P : Program} {w : World} {H : Hp} {kvs : List (List Key × V)} : ∀ {ks : List (List Nat)} {kvs : List (List Key × V)} {xs : List (List Key × Addr × Value)}, kvs.map Prod.fst = ks.map Qz -> Paired (fun (p : List Key × V) (q : List Key × Addr × Value) => p.1 = q.1 /\ H q.2.1 = some (.tup (p.1.map kV)) /\ RelV p.2 q.2.2) kvs xs ->
  Paired (yw H) ks (xs.map fun x => V.ref x.2.1) := by
 intro ks
 induction ks with
 | nil =>
  intro kvs xs e rp
  cases kvs with
  | nil => cases rp; exact .nil
  | cons p kvs => cases e
 | cons k ks ih =>
  intro kvs xs e rp
  cases kvs with
  | nil => cases e
  | cons p kvs =>
   cases rp with
   | cons hq t =>
    obtain ⟨e1, e2⟩ := List.cons.inj e
    refine .cons ⟨_, rfl, ?_⟩ (ih e2 t)
    rw [hq.2.1, e1, WH]
theorem wV (P : Program) (w : World) : ∀ (xs : List (List Key × Addr × Value)), (xs.map (entryOfKey (tupleKind (zw P w)))).map (·.key) = xs.map fun x => Value.ref x.2.1
 | [] => rfl
 | x :: xs => by
  rw [List.map_cons, List.map_cons, List.map_cons, wV P w xs]
  rfl
theorem QA (hc : X.calm = true) : qZ X (.builtin "sorted") (fun xs H Q => ∃ (a : Addr) (kvs : List (List Key × V)) (ks : List (List Nat)) (L : Nat), xs = [.ref a] /\ H a = some (.dT kvs) /\ kvs.map Prod.fst = ks.map Qz /\ (∀ k ∈ ks, k.length = L) /\ 1 <= L /\ ks.Nodup /\ ks.length < 64 /\
  ∀ (l : Addr) (bs : List V) (ks' : List (List Nat)), H l = none -> Paired (yw H) ks' bs -> ks'.Perm ks -> ks'.Pairwise (fun x y => ZF x y = true) -> Q (.ref l) (upd H l (.lst bs))) := by
 intro pins s σ H xs us Q I r h
 obtain ⟨a, kvs, ks, L, rfl, ha, ek, hL, L1, nd, h64, q⟩ := h
 obtain ⟨u, rfl, rx⟩ := vals1 r
 cases rx
 obtain ⟨z, lo, xs, rp, o, es, ep, h1, h2, h3, h4, h5⟩ := (show qc X.prog X.w H s.heap a (.dT kvs) from I.hok a _ ha)
 have hp := YC (P := X.prog) (w := X.w) (kvs := kvs) ek rp
 have pl := Paired.length hp
 have hpt : Paired (Tl s.heap) ks (xs.map fun x => Value.ref x.2.1) := by
  clear hL nd h64 q pl h4 h5 ek rp
  induction xs generalizing ks with
  | nil => cases hp; exact .nil
  | cons x xs ih =>
   cases hp with
   | cons c hp =>
    obtain ⟨t, e, ht⟩ := c
    cases e
    exact .cons (col_tl I.hok ht) (ih _ hp)
 have esz : es.size = xs.length := by rw [<- Array.length_toList, h4, List.length_map]
 have xl : xs.length = ks.length := by rw [pl, List.length_map]
 have el : (xs.map fun x => Value.ref x.2.1).length = xs.length := by rw [List.length_map]
 refine yh (d := a) (vs := xs.map fun x => Value.ref x.2.1) (ks := ks) (L := L) (fun R hR => kdu_collect (A := X.A.in1) (kdl_e (d := a) (es := es) (ep := ep) lo) (I.ok.hd hc) ⟨o, h1, h2, h3⟩ (by rw [esz, sizeLine_eq]; omega) fun h' tk acc hk hacc => ?_) hpt hL L1 nd (by omega) fun g1 g2 tk e ids k1 k2 he per asc => ?_
 ·have ev : acc.toList = es.toList.map (·.key) := by
   refine List.ext_getElem? fun i => ?_
   rw [List.getElem?_map, Array.getElem?_toList, Array.getElem?_toList]
   by_cases hi : i < es.size
   ·have g : acc[i]? = some (acc[i]'(by rw [hacc.1]; exact hi)) := Array.getElem?_eq_getElem _
    obtain ⟨e, he, ee⟩ := hacc.2 i _ g
    rw [g, he, ee]
    rfl
   ·rw [Array.getElem?_eq_none (by rw [hacc.1]; omega), Array.getElem?_eq_none (by omega)]
    rfl
  rw [ev, h4, wV]
  exact hR h' tk hk
 have I1 : Inv X pins σ H { s with heap := g1, toks := tk } := I.un (Un.kept k1) (I.hok.kept k1)
 have idl : ids.length = xs.length := by rw [per.length_eq, List.length_range, el]
 have vl : (xs.map fun x => V.ref x.2.1).length = xs.length := by rw [List.length_map]
 refine ⟨.ref g1.objs.size, _, I1.laid (t' := tk) (o := .lst (ids.map fun i => (xs.map fun x => V.ref x.2.1).getD i .non)) k2 (Nat.le_refl _) ?_, rfl, q _ _ (ids.map fun i => ks.getD i []) (I1.hok.fresh (Nat.le_refl _)) (Qg hp _ _ (fun i hi => by have := List.mem_range.mp (per.mem_iff.mp hi); omega)) (yi _ _ (by rw [<- xl, <- el]; exact per)) asc⟩
 refine ⟨by rw [List.length_map, idl, sizeLine_eq]; omega, ids.map fun i => (xs.map fun x => Value.ref x.2.1).getD i .none, e, ?_, by simpa [seqObj] using he⟩
 refine Qg (as := xs.map fun x => V.ref x.2.1) (bs := xs.map fun x => Value.ref x.2.1) ?_ _ _ (fun i hi => List.mem_range.mp (per.mem_iff.mp hi))
 clear hpt hp pl h4 h5 rp he per asc idl vl el xl esz
 induction xs with
 | nil => exact .nil
 | cons x xs ih => exact .cons rfl ih
theorem wW {d : Addr} (lo : (d == sysModules) = false) : Meets (Builtin.«dict.__len__» ⟨[.ref d], []⟩) (fun _ R s => ∃ es ep, EAt s.heap d es ep /\ R (.ok (.ret (.int es.size s.toks))) { s with toks := s.toks + 1 }) := by
 intro prog w A R s ⟨es, ep, hm, hR⟩
 have hT := hm.ty
 obtain ⟨o, ho, hc, hdat⟩ := id hm
 unfold Builtin.«dict.__len__»
 refine wpAny_bind ?_
 unfold Builtin.Dict.dictSlotNone
 refine wpAny_bind (wpAny_notOrdered_dict hT (wpAny_pure ?_))
 show wpAny _ _ (pure d >>= _) _ _ s
 refine wpAny_bind (wpAny_pure ?_)
 unfold dictSize
 refine wpAny_bind (wpAny_bind (wpAny_dictEntries ho hdat (wpAny_pure ?_)))
 refine wpAny_bind (wpAny_pendingCount_other lo ?_)
 unfold retInt
 refine wpAny_bind (wpAny_mkInt ?_)
 exact wpAny_pure (by simpa using hR)
theorem QW : qZ X (.builtin "len") (fun xs H Q => ∃ a kvs, xs = [.ref a] /\ H a = some (.dT kvs) /\ Q (.int (kvs.length : Nat)) H) := by
 intro pins s σ H xs us Q I r h
 obtain ⟨a, kvs, rfl, ha, q⟩ := h
 obtain ⟨u, rfl, rx⟩ := vals1 r
 cases rx
 obtain ⟨z, lo, xs, rp, o, es, ep, h1, h2, h3, h4, h5⟩ := (show qc X.prog X.w H s.heap a (.dT kvs) from I.hok a _ ha)
 have hT : s.TypeIs (.ref a) "dict" := ⟨o, h1, h2.1⟩
 have esz : es.size = kvs.length := by rw [<- Array.length_toList, h4, List.length_map, Paired.length rp]
 rw [sizeLine_eq] at z
 refine call_len_meets (n := es.size) hT F.slot_dict_len F.entry_dict_len (F.args_dict_len_1 _) (wW lo) (by omega) (by omega) (fun Q' hq => ⟨es, ep, ⟨o, h1, h2, h3⟩, hq⟩) ?_
 refine ⟨.int _, H, I.tok _, ⟨_, rfl⟩, ?_⟩
 rw [esz]
 exact q
theorem Qh (hc : X.calm = true) : qZ X (.type "list") (fun xs H Q => ∃ a kvs, ∃ ks : List (List Nat), xs = [.ref a] /\ H a = some (.dT kvs) /\ kvs.map Prod.fst = ks.map Qz /\ ∀ p bs, H p = none -> Paired (yw H) ks bs -> Q (.ref p) (upd H p (.lst bs))) := by
 intro pins s σ H xs us Q I rv h
 obtain ⟨a, kvs, ks, rfl, ha, ek, q⟩ := h
 obtain ⟨u1, rfl, r2⟩ := vals1 rv
 cases r2
 obtain ⟨z, lo, xs, rp, o, es, ep, h1, h2, h3, h4, h5⟩ := (show qc X.prog X.w H s.heap a (.dT kvs) from I.hok a _ ha)
 have hp := YC (P := X.prog) (w := X.w) (kvs := kvs) ek rp
 have esz : es.size = xs.length := by rw [<- Array.length_toList, h4, List.length_map]
 have xl := Paired.length rp
 refine kdl_call (kdl_e (d := a) (es := es) (ep := ep) lo) (I.ok.hd hc) ⟨o, h1, h2, h3⟩ (by omega) fun h' tk acc c kp he hacc => ?_
 have ev : acc.toList = xs.map fun x => Value.ref x.2.1 := by
  rw [<- wV X.prog X.w, <- h4]
  refine List.ext_getElem? fun i => ?_
  rw [List.getElem?_map, Array.getElem?_toList, Array.getElem?_toList]
  by_cases hi : i < es.size
  ·have g : acc[i]? = some (acc[i]'(by rw [hacc.1]; exact hi)) := Array.getElem?_eq_getElem _
   obtain ⟨e, he, ee⟩ := hacc.2 i _ g
   rw [g, he, ee]
   rfl
  ·rw [Array.getElem?_eq_none (by rw [hacc.1]; omega), Array.getElem?_eq_none (by omega)]
   rfl
 refine ⟨.ref s.heap.objs.size, _, I.laid (a := s.heap.objs.size) (o := .lst (xs.map fun x => V.ref x.2.1)) (t' := tk) kp (Nat.le_refl _) ⟨by rw [List.length_map]; omega, acc.toList, c, ?_, by simpa using he⟩, rfl, q _ _ (I.hok.fresh (Nat.le_refl _)) hp⟩
 rw [ev]
 clear hp h4 h5 rp he ev esz xl
 induction xs with
 | nil => exact .nil
 | cons x xs ih => exact .cons rfl ih
end
end L2
namespace L2
open PySem PySem.Spec PyProof.Rows PySem.W
section
variable {prog : Program} {w : World} {A : Around} {E : Value -> Shared -> Prop} {s : Shared} {d it : Addr} {es : Array DictEntry} {ep i : Nat}
theorem iter_v {r : Addr} {Q : Value -> Shared -> Prop} (hv : s.heap.IsValuesView r d) (hm : EAt s.heap d es ep)
  (hQ : Q (.ref s.heap.objs.size) { s with heap := s.heap.push { cls := .type "dict_valueiterator", data := .fields #[.ref d, .int 0 0, .int es.size 0, .int ep 0] } }) :
  wpAny (model prog w) A (pyIter (.ref r)) Q E s := by
 obtain ⟨ov, hov, hcv, hdv⟩ := id hv
 obtain ⟨o, ho, hc, hdat⟩ := id hm
 have hT : s.TypeIs (.ref r) "dict_values" := ⟨ov, hov, hcv⟩
 refine wpAny_pyIter_slot hT F.slot_dict_values_iter (wpAny_call_entry F.slot_dict_values_iter hT F.entry_dict_values_iter ?_ (F.args_dict_values_iter_1 _))
 unfold Builtin.«dict_values.__iter__»
 refine wpAny_bind (wpAny_pure ?_)
 unfold Builtin.Dict_items.dictOf
 refine wpAny_bind (wpAny_bind (wpAny_field hov hdv (by rfl) ?_))
 refine wpAny_pure ?_
 unfold Builtin.Dict_items.newIterator
 refine wpAny_bind (wpAny_bind (wpAny_dictEntries ho hdat (wpAny_bind (wpAny_dictEpoch ho hdat ?_))))
 dsimp only
 rw [if_neg (by decide), if_neg (by decide)]
 exact wpAny_newObj_type (wpAny_pure ⟨_, rfl, "dict_valueiterator", _, ⟨_, Heap.get?_push_size _ rfl, rfl⟩, F.slot_dict_valueiterator_next.lookup, hQ⟩)
theorem next_v {Q : Option Value -> Shared -> Prop} (hit : s.heap.IsValIter it d i es.size ep) (hm : EAt s.heap d es ep) (hi : i < es.size)
  (hQ : ∀ h', h'.IsValIter it d (i + 1) es.size ep -> Heap.SameBut it s.heap h' -> Q (some es[i].val) { s with heap := h' }) :
  wpAny (model prog w) A (pyNext (.ref it)) Q E s := by
 obtain ⟨o, ho, hc, hd⟩ := id hit
 obtain ⟨od, hod, hcd, hdd⟩ := id hm
 unfold pyNext
 refine wpAny_bind (wpAny_attempt (wpAny_callSpecial?_slot (name := Str.ofString "__next__") hit.typeIs F.slot_dict_valueiterator_next
  (wpAny_call_entry F.slot_dict_valueiterator_next hit.typeIs F.entry_dict_valueiterator_next ?_ (F.args_dict_valueiterator_next_1 _))))
 refine wpAny_bind (wpAny_pure (wpAny_bind (wpAny_bind ?_)))
 first | refine wpAny_bind (wpAny_typeNameOfWhole_valiter hit.typeIs (wpAny_pure ?_)) | refine wpAny_bind (wpAny_typeNameOf_valiter hit.typeIs (wpAny_pure ?_))
 refine wpAny_bind (wpAny_fieldsOf ho hd ?_)
 simp only [show Builtin.Dict_items.ownsTuple "dict_valueiterator" = false by decide, Bool.false_eq_true, if_false]
 show wpAny _ _ (if (Value.ref d == Value.none) = true then _ else _) _ _ s
 rw [if_neg (show ¬ ((Value.ref d == Value.none) = true) from Bool.false_ne_true)]
 refine wpAny_bind (wpAny_pure (wpAny_bind (wpAny_dictEntries hod hdd ?_)))
 rw [if_neg (by simp)]
 refine wpAny_bind (wpAny_pure (wpAny_bind (wpAny_dictEpoch hod hdd ?_)))
 rw [if_neg (by simp)]
 refine wpAny_pure ?_
 simp only [show ¬ ((i : Int) < 0) from by omega, if_false, Int.toNat_natCast, Array.getElem?_eq_getElem hi]
 refine wpAny_bind ?_
 first | refine wpAny_bind (wpAny_typeNameOfWhole_valiter hit.typeIs (wpAny_pure ?_)) | refine wpAny_bind (wpAny_typeNameOf_valiter hit.typeIs (wpAny_pure ?_))
 refine wpAny_bind (wpAny_isOneOf_valiter hit.typeIs ?_)
 show wpAny _ _ (setField (.ref it) 1 (rawInt ((i : Int) + 1)) >>= _) _ _ s
 refine wpAny_bind (wpAny_setField ho hd (by simp) ?_)
 have hit' : (s.heap.update it (Obj.mapFields (·.setIfInBounds 1 (rawInt ((i : Int) + 1))))).IsValIter it d (i + 1) es.size ep :=
  ⟨_, Heap.get?_update_self _ ho (Obj.isFreed_of_fields (Obj.data_mapFields hd _)), (Obj.cls_mapFields ..).trans hc, by rw [Obj.data_mapFields hd]; simp [rawInt]⟩
 refine wpAny_bind (wpAny_holding ?_)
 refine wpAny_bind (wpAny_isOneOf_valiter (s := { s with heap := s.heap.update it (Obj.mapFields (·.setIfInBounds 1 (rawInt ((i : Int) + 1)))) }) hit'.typeIs ?_)
 rw [if_neg (by decide)]
 refine wpAny_bind (wpAny_isOneOf_valiter (s := { s with heap := s.heap.update it (Obj.mapFields (·.setIfInBounds 1 (rawInt ((i : Int) + 1)))) }) hit'.typeIs ?_)
 rw [if_pos (by decide)]
 exact wpAny_pure (wpAny_pure ⟨_, rfl, wpAny_pure (hQ _ hit' (Heap.SameBut.update ..))⟩)
theorem last_v {Q : Option Value -> Shared -> Prop} (hh : A.handled = none) (hit : s.heap.IsValIter it d es.size es.size ep) (hm : EAt s.heap d es ep)
  (hQ : ∀ h', Heap.ExtBut it s.heap h' -> Q none { s with heap := h' }) : wpAny (model prog w) A (pyNext (.ref it)) Q E s := by
 obtain ⟨o, ho, hc, hd⟩ := id hit
 obtain ⟨od, hod, hcd, hdd⟩ := id hm
 unfold pyNext
 refine wpAny_bind (wpAny_attempt (wpAny_callSpecial?_slot (name := Str.ofString "__next__") hit.typeIs F.slot_dict_valueiterator_next
  (wpAny_call_entry F.slot_dict_valueiterator_next hit.typeIs F.entry_dict_valueiterator_next ?_ (F.args_dict_valueiterator_next_1 _))))
 refine wpAny_bind (wpAny_pure (wpAny_bind (wpAny_bind ?_)))
 first | refine wpAny_bind (wpAny_typeNameOfWhole_valiter hit.typeIs (wpAny_pure ?_)) | refine wpAny_bind (wpAny_typeNameOf_valiter hit.typeIs (wpAny_pure ?_))
 refine wpAny_bind (wpAny_fieldsOf ho hd ?_)
 simp only [show Builtin.Dict_items.ownsTuple "dict_valueiterator" = false by decide, Bool.false_eq_true, if_false]
 show wpAny _ _ (if (Value.ref d == Value.none) = true then _ else _) _ _ s
 rw [if_neg (show ¬ ((Value.ref d == Value.none) = true) from Bool.false_ne_true)]
 refine wpAny_bind (wpAny_pure (wpAny_bind (wpAny_dictEntries hod hdd ?_)))
 rw [if_neg (by simp)]
 refine wpAny_bind (wpAny_pure (wpAny_bind (wpAny_dictEpoch hod hdd ?_)))
 rw [if_neg (by simp)]
 refine wpAny_pure ?_
 simp only [show ¬ ((es.size : Int) < 0) from by omega, if_false, Int.toNat_natCast, Array.getElem?_eq_none (Nat.le_refl es.size)]
 refine wpAny_bind ?_
 first | refine wpAny_bind (wpAny_typeNameOfWhole_valiter hit.typeIs (wpAny_pure ?_)) | refine wpAny_bind (wpAny_typeNameOf_valiter hit.typeIs (wpAny_pure ?_))
 show wpAny _ _ (setField (.ref it) 0 .none >>= _) _ _ s
 refine wpAny_bind (wpAny_setField ho hd (by simp) ?_)
 show wpAny _ _ (newExc (.type "StopIteration") [] >>= _) _ _ _
 refine wpAny_bind ?_
 simp only [newExc, newTuple]
 refine wpAny_bind (wpAny_newObj_type ?_ (by size_fits))
 refine wpAny_bind (m := firstArgMember _ _) (wpAny_of_eq (a := Value.none) (by first | rfl | (simp only [firstArgMember]; rfl)) ?_)
 refine wpAny_newObj_type ?_ (by size_fits)
 simp only [raiseNew]
 refine wpAny_bind (wpAny_handled ?_)
 rw [show A.in1.handled = none from hh]
 refine wpAny_bind (wpAny_pure (wpAny_throw ?_))
 refine wpAny_bind (wpAny_isInstance (T := "StopIteration") (b := true) ⟨_, Heap.get?_push_size _ rfl, rfl⟩ isSubtype_stop ?_)
 exact wpAny_pure (hQ _ (((Heap.SameBut.update ..).extBut.push _).push _))
theorem walks_v (hh : A.handled = none) (I : Addr) (hne : d ≠ I) : Walks prog w A I [I, d] [I] es.size (fun i v => ∃ e, es[i]? = some e /\ v = e.val) (fun i h => h.IsValIter I d i es.size ep /\ EAt h d es ep) where
 sub := fun b hb => by simp at hb; simp [hb]
 frame := fun _ _ _ st hk => ⟨st.1.at fun o e => hk I (by simp) o e, st.2.keep fun o e => hk d (by simp) o e⟩
 item := fun i s Q E hi st hQ => next_v st.1 st.2 hi fun h' hit' hs' => hQ _ h' s.toks ⟨_, Array.getElem?_eq_getElem hi, rfl⟩ ⟨hit', st.2.keep fun o e => hs'.extBut d o hne e⟩ fun b o hb e => hs'.extBut b o (fun h => hb (by simp [h])) e
 done := fun s Q E st hQ => last_v hh st.1 st.2 fun h' he' => hQ h' s.toks fun b o hb e => he' b o (fun h => hb (by simp [h])) e
 self := fun _ _ _ _ st hQ => wpAny_pyIter_valiter st.1 hQ
theorem kdl_v {r : Addr} (hr : r ≠ d) : KdlSrc prog w "dict_values" r d es.size (fun i v => ∃ e, es[i]? = some e /\ v = e.val) (fun h => h.IsValuesView r d /\ EAt h d es ep) where
 type := fun s hm => by
  obtain ⟨o, h1, h2, _⟩ := hm.1
  exact ⟨o, h1, h2⟩
 there := fun _ hm => by
  obtain ⟨o, h1, _⟩ := hm.1
  exact ⟨Heap.lt_size h1, hm.2.lt⟩
 keep := fun _ _ hm hk => ⟨by obtain ⟨o, h1, h2, h3⟩ := hm.1; exact ⟨o, hk r (.inl rfl) o h1, h2, h3⟩, hm.2.keep fun o e => hk d (.inr rfl) o e⟩
 notList := by decide
 notTuple := by decide
 hint := fun _ _ _ _ hm hq => by
  obtain ⟨o, h1, h2, _⟩ := hm.1
  exact kdl_hint_values ⟨o, h1, h2⟩ hq
 iter := fun _ _ hh hm => ⟨_, _, (fun _ _ hq => iter_v hm.1 hm.2 hq), walks_v hh _ (Nat.ne_of_lt hm.2.lt), ⟨⟨_, Heap.get?_push_size _ rfl, rfl, rfl⟩, hm.2.keep fun o e => Heap.get?_push_of_some _ e⟩⟩
theorem QB (lo : (d == sysModules) = false) : Meets (Builtin.«dict.values» ⟨[.ref d], []⟩) (fun _ R s => EAt s.heap d es ep /\ R (.ok (.ret (.ref s.heap.objs.size))) { s with heap := s.heap.push { cls := .type "dict_values", data := .fields #[.ref d] } }) := by
 intro prog w A R s ⟨hm, hR⟩
 have hT := hm.ty
 unfold Builtin.«dict.values»
 show wpAny _ _ (Builtin.Dict.noArgs "values" ⟨[.ref d], []⟩ >>= fun d => Builtin.Dict.showsAll d >>= fun _ => newFields "dict_values" [Value.ref d] >>= fun x => ret x) _ _ _
 refine wpAny_bind ?_
 unfold Builtin.Dict.noArgs
 refine wpAny_bind (wpAny_notOrdered_dict hT ?_)
 unfold Builtin.Dict.nameIsSure
 show wpAny _ _ (pure () >>= fun _ => pure (Value.ref d) >>= fun x => Builtin.Dict.addrOf x) _ _ _
 refine wpAny_bind (wpAny_pure (wpAny_bind (wpAny_pure (wpAny_pure ?_))))
 unfold Builtin.Dict.showsAll
 rw [if_neg (by rw [lo]; exact Bool.false_ne_true)]
 exact wpAny_bind (wpAny_pure (wpAny_bind (wpAny_newObj_type (wpAny_pure hR))))
end
section
variable {X : Cx}
def ViewO (r d : Addr) : HO := .ext fun h => h.IsValuesView r d
def tDVals (te : TE) : TE := fun σ H Q => te σ H fun x H1 => ∃ d kvs, x = .ref d /\ H1 d = some (.dT kvs) /\ ∀ r, H1 r = none -> Q (.ref r) (upd H1 r (ViewO r d))
theorem pe_dvals {o : Expr} {apos cpos : Pos} {to : TE} (ho : PE X o to) (hbase : attributeBase o "values" X.env (eval o X.env) = eval o X.env := by rfl) (hline : (apos.endLine == cpos.line) = true := by rfl) :
  PE X (.Call (.Attribute o "values" apos) [] [] cpos) (tDVals to) := by
 intro pins s σ H Q I h
 refine wpAny_Call_method0_late hbase hline (thn (ho pins s σ H _ I h) fun v s1 ⟨x, H1, I1, rx, d, kvs, ex, hd, q⟩ => ?_)
 subst ex
 obtain ⟨h1, h2⟩ := yV I1 rx (show tyV X.K "dict" (.ref d) H1 from .inr (.inr (.inl ⟨rfl, .inr ⟨kvs, hd⟩⟩)))
 obtain rfl : v = Value.ref d := rx
 obtain ⟨z, lo, xs, rp, ob, es, ep, e1, e2, e3, e4, e5⟩ := (show qc X.prog X.w H1 s1.heap d (.dT kvs) from I1.hok d _ hd)
 refine ⟨"dict", "dict.values", PySem.F.plainAttrs_dict, PySem.F.slot_dict_values, PySem.F.type_dict_values, h1, h2, Calls.callWith_builtin rfl (PySem.evalArgs_none ?_)⟩
 refine call_meets PySem.F.slot_dict_values ⟨ob, e1, e2.1⟩ PySem.F.entry_dict_values (PySem.F.args_dict_values_1 _) (QB (es := es) (ep := ep) lo) ⟨⟨ob, e1, e2, e3⟩, ?_⟩
 have hv : (s1.heap.push { cls := .type "dict_values", data := .fields #[.ref d] }).IsValuesView s1.heap.objs.size d := ⟨_, Heap.get?_push_size _ rfl, rfl, rfl⟩
 refine ⟨.ref s1.heap.objs.size, _, I1.laid (a := s1.heap.objs.size) (o := ViewO s1.heap.objs.size d) (t' := s1.toks) (fun _ _ e => Heap.get?_push_of_some _ e) (Nat.le_refl _) ⟨hv, ⟨_, Heap.get?_push_size _ rfl⟩, fun h1 h2 hp k => ?_⟩, rfl, q _ (I1.hok.fresh (Nat.le_refl _))⟩
 obtain ⟨o, g1, g2, g3⟩ := hp
 exact ⟨o, k o g1, g2, g3⟩
theorem yj (hc : X.calm = true) : qZ X (.type "list") (fun xs H Q => ∃ r a kvs, xs = [.ref r] /\ H r = some (ViewO r a) /\ r ≠ a /\ H a = some (.dT kvs) /\ ∀ p, H p = none -> Q (.ref p) (upd H p (.lst (kvs.map Prod.snd)))) := by
 intro pins s σ H xs us Q I rv h
 obtain ⟨r, a, kvs, rfl, hr, ra, ha, q⟩ := h
 obtain ⟨u1, rfl, r2⟩ := vals1 rv
 cases r2
 obtain ⟨z, lo, xs, rp, o, es, ep, h1, h2, h3, h4, h5⟩ := (show qc X.prog X.w H s.heap a (.dT kvs) from I.hok a _ ha)
 have hv : s.heap.IsValuesView r a := (I.hok r _ hr).1
 have esz : es.size = xs.length := by rw [<- Array.length_toList, h4, List.length_map]
 have xl := Paired.length rp
 refine kdl_call (kdl_v (d := a) (r := r) (es := es) (ep := ep) ra) (I.ok.hd hc) ⟨hv, o, h1, h2, h3⟩ (by omega) fun h' tk acc c kp he hacc => ?_
 have ev : acc.toList = xs.map fun x => x.2.2 := by
  have e0 : es.toList.map (·.val) = xs.map fun x => x.2.2 := by
   rw [h4, List.map_map]
   rfl
  rw [<- e0]
  refine List.ext_getElem? fun i => ?_
  rw [List.getElem?_map, Array.getElem?_toList, Array.getElem?_toList]
  by_cases hi : i < es.size
  ·have g : acc[i]? = some (acc[i]'(by rw [hacc.1]; exact hi)) := Array.getElem?_eq_getElem _
   obtain ⟨e, he, ee⟩ := hacc.2 i _ g
   rw [g, he, ee]
   rfl
  ·rw [Array.getElem?_eq_none (by rw [hacc.1]; omega), Array.getElem?_eq_none (by omega)]
   rfl
 refine ⟨.ref s.heap.objs.size, _, I.laid (a := s.heap.objs.size) (o := .lst (kvs.map Prod.snd)) (t' := tk) kp (Nat.le_refl _) ⟨by rw [List.length_map]; omega, acc.toList, c, ?_, by simpa using he⟩, rfl, q _ (I.hok.fresh (Nat.le_refl _))⟩
 rw [ev]
 clear h4 h5 he ev esz xl ha z q
 induction rp with
 | nil => exact .nil
 | cons hq _ ih => exact .cons hq.2.2 ih
end
end L2
namespace L2
open PySem PySem.Spec PyProof.Rows L4
section
variable {X : Cx}
def tpAt (H : Hp) (ys : List V) : Value -> Bool
 | .ref a => match H a with
  | some (.tup zs) => Qv zs ys
  | _ => false
 | _ => false
theorem Za : ∀ (k l : List Nat), k.length = l.length -> Qv (k.map nV) (l.map nV) = decide (k = l)
 | [], [], _ => rfl
 | [], _ :: _, h => by cases h
 | _ :: _, [], h => by cases h
 | x :: k, y :: l, h => by
  have ih := Za k l (by simpa using h)
  unfold Qv at ih ⊢
  rw [List.map_cons, List.map_cons, List.zip_cons_cons, List.all_cons]
  have e1 : eqV (nV x) (nV y) = decide (x = y) := by
   show decide ((x : Int) = (y : Int)) = _
   by_cases q : x = y
   ·rw [q]; simp
   ·rw [decide_eq_false q]; exact decide_eq_false fun z => q (Int.ofNat_inj.mp z)
  have e2 : (((nV x :: k.map nV).length == (nV y :: l.map nV).length)) = ((k.map nV).length == (l.map nV).length) := by simp
  rw [e2, Bool.and_assoc, ih]
  show (eqV (nV x) (nV y) && decide (k = l)) = _
  rw [e1]
  by_cases a : x = y <;> by_cases b : k = l <;> simp [a, b]
def rIndexC : V -> List V -> Hp -> VK -> Prop := fun x vs H Q => ∃ (p b : Addr) (xs : List V) (ks : List (List Nat)) (col : List Nat) (j : Nat), x = .ref p /\ vs = [.ref b] /\ H p = some (.lst xs) /\ Paired (yw H) ks xs /\ (∀ k ∈ ks, k.length = col.length) /\ H b = some (.tup (col.map nV)) /\ ks[j]? = some col /\ (∀ m, m < j -> ks[m]? ≠ some col) /\ Q (nV j) H
theorem YD {k : Nat} (hr : Zj k X.A) : MtR X "list.index" rIndexC := by
 intro pins s σ H x vs v us Q I rx rv h
 obtain ⟨p, b, xs, ks, col, j, rfl, rfl, hq, hL, hf, hb, hj, hno, q⟩ := h
 cases rx
 obtain ⟨u, rfl, ru⟩ := vals1 rv
 cases ru
 obtain ⟨z, its, n, r, hlen, e⟩ := I.lstM hq
 obtain ⟨itb, rb, pb, _⟩ := I.tuple (SqT.of (K := X.K) hb)
 have hu : X.A.units + 64 < cLine := hr.units
 have hxl := Paired.length hL
 have fl : ∀ c : List Nat, (c.map nV).all Zh = true := fun c => by
  rw [List.all_eq_true]
  intro v hv
  obtain ⟨m, _, rfl⟩ := List.mem_map.mp hv
  rfl
 have at_ : ∀ m (hm : m < its.toArray.size), ∃ a c, its.toArray[m] = .ref a /\ H a = some (.tup (c.map nV)) /\ ks[m]? = some c := fun m hm => by
  have hm' : m < xs.length := by
   rw [hlen]
   simpa using hm
  have k1 : xs[m]? = some xs[m] := List.getElem?_eq_getElem hm'
  obtain ⟨w, e1, r1⟩ := r.get k1
  have w1 : its.toArray[m] = w := by
   have g1 : m < its.length := by simpa using hm
   rw [List.getElem?_eq_getElem g1] at e1
   simpa using Option.some.inj e1
  have k2 : ks[m]? = some (ks[m]'(by omega)) := List.getElem?_eq_getElem (by omega)
  obtain ⟨v', k3, a, ea, ha⟩ := yc hL k2
  rw [k1] at k3
  cases k3
  rw [ea] at r1
  cases r1
  exact ⟨a, _, w1, ha, k2⟩
 have te : ∀ m (hm : m < its.toArray.size) c, ks[m]? = some c -> tpAt H (col.map nV) its.toArray[m] = decide (c = col) := fun m hm c hc => by
  obtain ⟨a, c', e1, e2, e3⟩ := at_ m hm
  rw [hc] at e3
  cases e3
  rw [e1]
  show (match H a with | some (.tup zs) => Qv zs (col.map nV) | _ => false) = _
  rw [e2]
  exact Za _ _ (hf c (List.mem_of_getElem? hc))
 have hjy := (List.getElem?_eq_some_iff.mp hj).1
 have hjl : j < its.toArray.size := by
  simp
  omega
 have hjs : (j : Int) < 2 ^ 63 - 1 := by
  have : (sizeLine : Nat) <= 2 ^ 60 := by decide
  have h2 : j < 2 ^ 60 := by omega
  omega
 refine call_meets F.slot_list_index ⟨_, e, rfl⟩ F.entry_list_index (F.args_list_index_2 _ _) (SeqAt.list_indexAt p its.toArray n none #[] (.ref b) (tpAt H (col.map nV)) j hjl hjs ?_ ?_) ⟨e, fun w hw => ?_, ⟨.int _, H, I.tok _, ⟨_, rfl⟩, q⟩⟩
 ·rw [te j hjl col hj]
  exact decide_eq_true rfl
 ·intro m hm hmj
  obtain ⟨a, c, _, _, e3⟩ := at_ m hm
  rw [te m hm c e3]
  exact decide_eq_false fun z => hno m hmj (by rw [e3, z])
 ·obtain ⟨m, hm, rfl⟩ := Array.mem_iff_getElem.mp hw
  obtain ⟨a, c, e1, e2, e3⟩ := at_ m hm
  have f2 := hf c (List.mem_of_getElem? e3)
  rw [te m hm c e3, e1]
  by_cases hab : a = b
  ·subst hab
   rw [hb] at e2
   have : c = col := by
    have h1 := HO.tup.inj (Option.some.inj e2)
    have h2 := congrArg (fun l => Qv l (c.map nV)) h1
    rw [Za _ _ f2.symm, Za _ _ rfl] at h2
    exact (of_decide_eq_true (h2.trans (decide_eq_true rfl))).symm
   rw [decide_eq_true this]
   exact SeqAt.EqAt.same _
  ·obtain ⟨ita, ra, pa, _⟩ := I.tuple (SqT.of (K := X.K) e2)
   have m1 := ra.length
   have m2 := rb.length
   rw [List.length_map] at m1 m2
   have z := SeqAt.RcAt.tuples (A := X.A.in1.in1) (s := s) pa pb (by show X.A.units + 1 + 1 < cLine; omega) (Q5 ra rb (fl c) (fl col))
   have z1 : ita.toArray.size = c.length := by rw [List.size_toArray]; exact m1.symm
   have z2 : itb.toArray.size = col.length := by rw [List.size_toArray]; exact m2.symm
   have e5 : min ita.toArray.size itb.toArray.size = (c.map nV).length := by rw [z1, z2, f2, Nat.min_self, List.length_map, f2]
   rw [e5, ZA _ _ (by rw [List.length_map, List.length_map, f2]), z1, z2] at z
   have e6 : ((((c.map nV).zip (col.map nV)).all fun p => eqV p.1 p.2) && c.length == col.length) = decide (c = col) := by
    rw [<- Za _ _ f2]
    unfold Qv
    rw [List.length_map, List.length_map]
   rw [e6] at z
   exact SeqAt.EqAt.of_in1 (SeqAt.EqAt.of_refs hab z)
end
end L2
namespace L2
open PySem PySem.Spec PyProof.Rows
open Builtin
section
variable {X : Cx}
end
end L2
namespace L2
open PySem PySem.Spec PyProof.Rows
section
variable {X : Cx}
theorem pex_nox {e : Expr} {t : TE} (he : PE X.nox e t) : PEx X e (fun σ H Q _ => t σ H Q) := by
 intro E pins s σ H Q R I h hE
 exact wpAny_mono (he pins s σ H Q (I.wish _) h) (fun v s1 ⟨x, H1, I1, r, q⟩ => ⟨x, H1, I1.unwish, r, q⟩) fun _ _ z => False.elim z
section
variable {pins : List (Addr × Obj)} {σ : St} {H : Hp} {s : Shared} {a : Addr} {xs : List V}
theorem WI (I : Inv X pins σ H s) {t : Addr} {c : List V} (ht : SqT X.K H t c) : isIn X.K H xs (.ref t) = Qv c xs := by
 classical
 unfold isIn
 cases hc : Qv c xs with
 | true => exact decide_eq_true ⟨t, c, rfl, ht, hc⟩
 | false =>
  refine decide_eq_false ?_
  rintro ⟨t', c', e, ht', hc'⟩
  cases e
  rw [I.tuple_inj ht' ht, hc] at hc'
  cases hc'
theorem WJ (I : Inv X pins σ H s) {j : Nat} (hr : Zj j X.A) (ha : SqT X.K H a xs) (fx : xs.all Zh = true) {cs : List (List V)} {ys : List V} (tk : wR X.K H xs.length cs ys) {us : List Value} (rv : qe ys us) : ∀ w ∈ us, SeqAt.EqAt X.A.in1 s w (.ref a) (isIn X.K H xs w) := by
 have hu : X.A.units + 64 < cLine := hr.units
 obtain ⟨xu, xr, xp, _⟩ := I.tuple ha
 unfold wR at tk
 induction tk generalizing us with
 | nil =>
  intro w hw
  cases rv
  cases hw
 | @cons c v cs ys hc t ih =>
  intro w hw
  cases rv with
  | @cons _ u1 _ us1 hu1 rv =>
   rcases List.mem_cons.mp hw with rfl | hw
   ·obtain ⟨t1, rfl, ht1, n1, f1⟩ := hc
    cases hu1
    rw [WI I ht1]
    by_cases tt : t1 = a
    ·subst tt
     rw [I.tuple_inj ht1 ha, Yb fx]
     exact SeqAt.EqAt.same _
    ·obtain ⟨us', v1, p1, _⟩ := I.tuple ht1
     have m1 := v1.length
     have m2 := xr.length
     have z := SeqAt.RcAt.tuples (A := X.A.in1) (s := s) p1 xp (by show X.A.units + 1 < cLine; omega) (Q5 v1 xr f1 fx)
     have e : ((List.range (min us'.toArray.size xu.toArray.size)).all (fun j' => eqV (c.getD j' .non) (xs.getD j' .non)) && us'.toArray.size == xu.toArray.size) = Qv c xs := by
      have z1 : us'.toArray.size = c.length := by rw [List.size_toArray]; exact m1.symm
      have z2 : xu.toArray.size = xs.length := by rw [List.size_toArray]; exact m2.symm
      have e5 : min us'.toArray.size xu.toArray.size = c.length := by rw [z1, z2, n1, Nat.min_self]
      rw [e5, ZA _ _ n1, z1, z2]
      rfl
     rw [e] at z
     exact SeqAt.EqAt.of_refs tt z
   ·exact ih rv w hw
theorem WK (I : Inv X pins σ H s) {cs : List (List V)} {ys : List V} (tk : wR X.K H xs.length cs ys) {us : List Value} (rv : qe ys us) : us.toArray.any (isIn X.K H xs) = cs.any fun c => Qv c xs := by
 rw [show us.toArray.any (isIn X.K H xs) = us.any (isIn X.K H xs) by simp]
 unfold wR at tk
 induction tk generalizing us with
 | nil =>
  cases rv
  rfl
 | @cons c v cs ys hc t ih =>
  cases rv with
  | @cons _ u1 _ us1 hu1 rv =>
   obtain ⟨t1, rfl, ht1, n1, f1⟩ := hc
   cases hu1
   rw [List.any_cons, List.any_cons, WI I ht1, ih rv]
end
def rInT2 (K : PySem.W.Frag) (ng : Bool) : R2 := fun x y H Q => ∃ a b xs ys cs, x = .ref a /\ y = .ref b /\ SqT K H a xs /\ xs.all Zh = true /\ SqT K H b ys /\ wR K H xs.length cs ys /\ Q (.bl ((cs.any fun c => Qv c xs) != ng)) H
theorem YE (K : PySem.W.Frag) {k : Nat} (hr : Zj k X.A) (hK : X.K = K := by rfl) : OpR X (compareOp .In) (rInT2 K false) := by
 subst hK
 intro pins s σ H x y v u Q I rx ry h
 obtain ⟨a, b, xs, ys, cs, rfl, rfl, ha, fx, hb, tk, q⟩ := h
 cases rx
 cases ry
 obtain ⟨its, r, pl, hz⟩ := I.tuple hb
 refine SeqAt.in_tupleAt (isIn X.K H xs) pl (fun w hw => WJ I hr ha fx tk r w (by simpa using hw)) ⟨.bl _, H, I, rfl, ?_⟩
 rw [WK I tk r]
 rw [Bool.bne_false] at q
 exact q
theorem yk (K : PySem.W.Frag) {k : Nat} (hr : Zj k X.A) (hK : X.K = K := by rfl) : OpR X (compareOp .NotIn) (rInT2 K true) := by
 subst hK
 intro pins s σ H x y v u Q I rx ry h
 obtain ⟨a, b, xs, ys, cs, rfl, rfl, ha, fx, hb, tk, q⟩ := h
 cases rx
 cases ry
 obtain ⟨its, r, pl, hz⟩ := I.tuple hb
 refine SeqAt.notIn_tupleAt (isIn X.K H xs) pl (fun w hw => WJ I hr ha fx tk r w (by simpa using hw)) ⟨.bl _, H, I, rfl, ?_⟩
 rw [WK I tk r]
 rw [Bool.bne_true] at q
 exact q
end
end L2
namespace K27
open PySem L2 L4
local macro_rules | `(tactic| walk_at "hp") => `(tactic| first | assumption | exact zd | (rw [zE (by first | assumption | exact Ne.symm (by assumption) | exact zF (by assumption) (by assumption) | exact Ne.symm (zF (by assumption) (by assumption)))]; walk_at "hp"))
local macro_rules | `(tactic| walk_at "r1") => `(tactic| first | refine ⟨_, rfl, ?_⟩ | refine .inl ⟨_, _, _, _, rfl, rfl, SqL.of (by walk_at "hp"), rfl, ?_⟩ | refine .inr (.inl ⟨_, _, _, _, rfl, rfl, SqT.of (by walk_at "hp"), rfl, ?_⟩) | refine ⟨_, _, rfl, rfl, ?_⟩ | refine ⟨(show CMul _ _ from .inr ⟨by omega, by omega⟩), ?_⟩ | refine ⟨(show CMul _ _ from .inl ⟨by omega, by omega⟩), ?_⟩ | refine ⟨(show CDiv _ _ from ⟨by omega, by omega⟩), ?_⟩ | refine ⟨(show CPow _ _ from ⟨by decide, by decide, by decide⟩), ?_⟩ | refine ⟨(show (0 : Int) < _ by omega), ?_⟩ | refine ⟨_, _, _, _, rfl, rfl, (by walk_at "hp"), rfl, ?_⟩)
local macro_rules | `(tactic| walk_at "rd") => `(tactic| repeat walk_at "r1")
local macro_rules | `(tactic| walk_at "dc") => `(tactic| first | refine yv ?_ | refine Wz ?_ | refine iteDT (by decide +kernel) ?_ | refine iteDF (by decide +kernel) ?_ | refine ⟨_, rfl, rfl, _, rfl, ?_⟩)
local macro_rules | `(tactic| walk_at "ds") => `(tactic| repeat walk_at "dc")
local macro_rules | `(tactic| walk_at "v") => `(tactic| first | exact Or.inl rfl | exact Or.inr (Or.inl rfl) | exact Or.inr (Or.inr rfl))
local macro_rules | `(tactic| walk_at "f") => `(tactic| first | exact .inl rfl | exact .inr rfl | assumption)
structure Cn where
 nm : Str
 pl : Nat
 cs : List Nat
structure Tb where
 m : Nat
 ws : List Nat
 cs : List Cn
def Cns (H : Hp) : List Cn -> List V -> Prop := Paired fun c v => ∃ t u, v = .ref t /\ H t = some (.tup [.str c.nm, nV c.pl, .ref u]) /\ H u = some (.tup (c.cs.map nV))
theorem Cns.same {H H' : Hp} (s : zR H H') {cs : List Cn} {vs : List V} (h : Cns H cs vs) : Cns H' cs vs := by
 unfold Cns at h ⊢
 induction h with
 | nil => exact .nil
 | cons r _ ih =>
  obtain ⟨t, u, e, h1, h2⟩ := r
  exact .cons ⟨t, u, e, s _ _ h1, s _ _ h2⟩ ih
theorem Cns.snoc {H : Hp} {cs : List Cn} {vs : List V} {c : Cn} {t u : Addr} (h : Cns H cs vs) (h1 : H t = some (.tup [.str c.nm, nV c.pl, .ref u])) (h2 : H u = some (.tup (c.cs.map nV))) : Cns H (cs ++ [c]) (vs ++ [.ref t]) := by
 unfold Cns at h ⊢
 induction h with
 | nil => exact .cons ⟨t, u, rfl, h1, h2⟩ .nil
 | cons r _ ih => exact .cons r ih
theorem Cns.len {H : Hp} {cs : List Cn} {vs : List V} (h : Cns H cs vs) : cs.length = vs.length := Paired.length h
theorem Cns.get {H : Hp} {cs : List Cn} {vs : List V} (h : Cns H cs vs) {i : Nat} {c : Cn} (hc : cs[i]? = some c) : ∃ t u, vs[i]? = some (.ref t) /\ H t = some (.tup [.str c.nm, nV c.pl, .ref u]) /\ H u = some (.tup (c.cs.map nV)) := by
 have hi : i < vs.length := by
  rw [<- h.len]
  exact (List.getElem?_eq_some_iff.mp hc).1
 have e : vs[i]? = some vs[i] := List.getElem?_eq_getElem hi
 obtain ⟨t, u, e1, h1, h2⟩ := Paired.at h i c _ hc e
 exact ⟨t, u, by rw [e, e1], h1, h2⟩
def J4 (H : Hp) (v : V) (T : Tb) : Prop := ∃ a w c vs, v = .ref a /\ H a = some (.tup [nV T.m, .ref w, .ref c]) /\ H w = some (.tup (T.ws.map nV)) /\ H c = some (.tup vs) /\ Cns H T.cs vs
theorem J4.same {H H' : Hp} (s : zR H H') {v : V} {T : Tb} (h : J4 H v T) : J4 H' v T := by
 obtain ⟨a, w, c, vs, e, h1, h2, h3, h4⟩ := h
 exact ⟨a, w, c, vs, e, s _ _ h1, s _ _ h2, s _ _ h3, h4.same s⟩
structure jU (T : Tb) : Prop where
 m1 : 1 <= T.m
 m9 : T.m <= 9
 ris : T.ws.Pairwise (· < ·)
 wlt : ∀ x ∈ T.ws, x < T.m
 cl : T.cs.length <= 16
 cn : ∀ c ∈ T.cs, c.nm.length <= 100 /\ c.pl <= 2 /\ Tn.Cs T.m c.pl c.cs
theorem YF {m k : Nat} (h9 : m <= 9) (k2 : k <= 2) : m ^ k <= 81 := by
 have h1 : m ^ k <= 9 ^ k := Nat.pow_le_pow_left h9 k
 have h2 : (9 : Nat) ^ k <= 9 ^ 2 := Nat.pow_le_pow_right (by decide) k2
 exact Nat.le_trans h1 h2
theorem Cns.tk {H H' : Hp} (s : Tk H H') {cs : List Cn} {vs : List V} (h : Cns H cs vs) : Cns H' cs vs := by
 unfold Cns at h ⊢
 induction h with
 | nil => exact .nil
 | cons r _ ih =>
  obtain ⟨t, u, e, h1, h2⟩ := r
  exact .cons ⟨t, u, e, s _ _ h1, s _ _ h2⟩ ih
theorem J4.tk {H H' : Hp} (s : Tk H H') {v : V} {T : Tb} (h : J4 H v T) : J4 H' v T := by
 obtain ⟨a, w, c, vs, e, h1, h2, h3, h4⟩ := h
 exact ⟨a, w, c, vs, e, s _ _ h1, s _ _ h2, s _ _ h3, h4.tk s⟩
theorem cut_ints (ns : List Int) (lo hi : Option Int) : ∃ ms : List Int, j5 (ns.map V.int) lo hi = ms.map V.int := by
 unfold j5
 rw [<- List.map_drop, <- List.map_take]
 exact ⟨_, rfl⟩
def wX : Str := "qwertyuiopasdfghjklzxcvbnm"
theorem sign_all : ((List.range 52).all fun k => (atI wX.cps.toList ((k : Int) - 26)).isSome) = true := by decide +kernel
theorem wY {i : Int} (h1 : -26 <= i) (h2 : i < 26) : ∃ c, atI wX.cps.toList i = some c := by
 have h := List.all_eq_true.mp sign_all (i + 26).toNat (List.mem_range.mpr (by omega))
 have e : (((i + 26).toNat : Nat) : Int) - 26 = i := by omega
 rw [e] at h
 exact Option.isSome_iff_exists.mp h
theorem ym {xs : List Nat} {i : Nat} (hi : i < xs.length) : atI (xs.map nV) (i : Int) = some (nV (Tn.at' xs i)) := by
 refine qC ?_
 rw [List.getElem?_map, List.getElem?_eq_getElem hi]
 unfold Tn.at'
 rw [List.getD_eq_getElem?_getD, List.getElem?_eq_getElem hi]
 rfl
theorem jv (ws : List Nat) : (ws.map nV).all Zh = true := by
 rw [List.all_map, List.all_eq_true]
 intro i _
 rfl
def YG (K : PySem.W.Frag) : Sp := fun vs H Q _ => ∃ (a : Addr) (ns : List Int) (pl : Int), vs = [.ref a, .int pl] /\ SqL K H a (ns.map V.int) /\ ns.length <= 63 /\ ∀ p H', H p = none -> zR H H' -> Wel H' p -> Q (.ref p) H'
def wZ : Sp := fun vs H Q _ => ∃ (p : Addr) (k : Nat), vs = [.ref p, .int (k : Int)] /\ Wel H p /\ k <= 8 /\ ∀ l xs H', Off p H H' -> Wel H' p -> H' l = some (.lst xs) -> TL 16 xs -> xs.Nodup -> l ≠ p -> Q (.ref l) H'
def Wa : Sp := fun vs H Q _ => ∃ (p : Addr) (m pl : Nat), vs = [.ref p, nV m, nV pl] /\ Wel H p /\ 1 <= m /\ m <= 9 /\ pl <= 2 /\ ∀ t cs H', Off p H H' -> Wel H' p -> Tn.Cs m pl cs -> H' t = some (.tup (cs.map nV)) -> Q (.ref t) H'
def nmsOf' (T : Tb) : List Str := T.cs.map Cn.nm
def Wb : Sp := fun vs H Q _ => ∃ (p : Addr) (mo so : Nat), vs = [.ref p, nV mo, nV so] /\ Wel H p /\ 1 <= mo /\ mo <= 9 /\ so <= 8 /\ ∀ v T H', Off p H H' -> Wel H' p -> jU T -> T.m <= mo -> (nmsOf' T).Nodup -> J4 H' v T -> Q v H'
def YH : Sp := fun vs H Q _ => ∃ (m k : Nat) (c g : Addr) (cs r : List Nat), vs = [nV m, .ref c, .ref g] /\ m <= 9 /\ k <= 2 /\ H c = some (.tup (cs.map nV)) /\ (H g = some (.lst (r.map nV)) \/ H g = some (.tup (r.map nV))) /\ Tn.Rw m k r /\ cs.length = m ^ k /\ Q (nV (Tn.at' cs (Tn.place m r))) H
def spLaw (K : PySem.W.Frag) : Sp := fun vs H Q _ => ∃ (a : Addr) (ns : List Int), vs = [.ref a] /\ SqL K H a (ns.map V.int) /\ ns.length <= 63 /\ ∀ H', Q (.bl true) H'
theorem nd_cut {xs : List V} (h : xs.Nodup) (lo hi : Option Int) : (j5 xs lo hi).Nodup := by
 unfold j5
 exact h.sublist ((List.take_sublist _ _).trans (List.drop_sublist _ _))
theorem rot8 (f : Nat) : (j5 [.str "and", .str "or", .str "not", .str "then", .str "grades", .str "wished", .str "false", .str "true"] (some ((f : Int) % 8)) none ++ j5 [.str "and", .str "or", .str "not", .str "then", .str "grades", .str "wished", .str "false", .str "true"] none (some ((f : Int) % 8))).Nodup := by
 have all : ∀ r : Nat, r < 8 -> (j5 [.str "and", .str "or", .str "not", .str "then", .str "grades", .str "wished", .str "false", .str "true"] (some (r : Int)) none ++ j5 [.str "and", .str "or", .str "not", .str "then", .str "grades", .str "wished", .str "false", .str "true"] none (some (r : Int))).Nodup := by decide +kernel
 have := all (f % 8) (Nat.mod_lt _ (by decide))
 rw [Int.natCast_emod] at this
 exact this
theorem ZV (c n : Nat) : (Txt.mul (Str.mk #[c]) (n : Int)).length = n := by
 unfold Txt.mul
 split
 ·rename_i h
  show 0 = n
  omega
 ·split
  ·rename_i h1 h2
   have h2 : (n : Int) = 1 := by
    rcases (Bool.or_eq_true _ _).mp h2 with h | h
    ·exact eq_of_beq h
    ·exact absurd h (by show ¬ ((1 : Nat) == 0) = true; decide)
   show 1 = n
   omega
  ·have aux : ∀ (k : Nat) (acc : Array Nat), ((List.replicate k #[c]).foldl (· ++ ·) acc).size = acc.size + k := by
    intro k
    induction k with
    | zero => intro acc; rfl
    | succ k ih =>
     intro acc
     rw [List.replicate_succ, List.foldl_cons, ih, Array.size_append]
     show acc.size + 1 + k = _
     omega
   show ((List.replicate (n : Int).toNat #[c]).foldl (· ++ ·) #[]).size = n
   rw [aux]
   simp
theorem nd_map {α : Type} (f : α -> V) (L : List α) (h : L.Nodup) (inj : ∀ a ∈ L, ∀ b ∈ L, f a = f b -> a = b) : (L.map f).Nodup := by
 unfold List.Nodup
 rw [List.pairwise_map]
 exact List.Pairwise.imp_of_mem (fun {a b} ha hb hab he => hab (inj a ha b hb he)) h
def nm1 (c : Nat) (j : Nat) : V := .str (Txt.mul (Str.mk #[c]) (0 + (j : Int) + 2))
theorem nm1_nd (c n : Nat) : ((List.range n).map (nm1 c)).Nodup := by
 refine nd_map _ _ List.nodup_range fun a _ b _ h => ?_
 have h1 := congrArg Str.length (V.str.inj h)
 rw [show 0 + (a : Int) + 2 = ((a + 2 : Nat) : Int) by omega, show 0 + (b : Int) + 2 = ((b + 2 : Nat) : Int) by omega, ZV, ZV] at h1
 omega
def sgAt (i : Int) : Nat := (atI wX.cps.toList i).getD 0
theorem sg_inj : ∀ a : Nat, a < 26 -> ∀ b : Nat, b < 26 -> sgAt (a : Int) = sgAt (b : Int) -> a = b := by decide +kernel
theorem sg_of {i : Int} {c : Nat} (h : atI wX.cps.toList i = some c) : c = sgAt i := by
 unfold sgAt
 rw [h]
 rfl
def nm2 (f : Nat) (A B : Str) (j : Nat) : V := .str (A ++ Str.mk #[sgAt (((f : Int) + (0 + (j : Int))) % 26)] ++ B)
theorem mid_inj {A B : Str} {c d : Nat} (h : A ++ Str.mk #[c] ++ B = A ++ Str.mk #[d] ++ B) : c = d := by
 have h1 : A.cps ++ #[c] ++ B.cps = A.cps ++ #[d] ++ B.cps := congrArg Str.cps h
 have h2 := congrArg Array.toList h1
 simp only [Array.toList_append] at h2
 have h3 := List.append_cancel_right h2
 have h4 := List.append_cancel_left h3
 simpa using h4
theorem nm2_nd (f n : Nat) (A B : Str) (hn : n <= 8) : ((List.range n).map (nm2 f A B)).Nodup := by
 refine nd_map _ _ List.nodup_range fun a ha b hb h => ?_
 have a8 := List.mem_range.mp ha
 have b8 := List.mem_range.mp hb
 have h1 := mid_inj (V.str.inj h)
 rw [show ((f : Int) + (0 + (a : Int))) % 26 = (((f + a) % 26 : Nat) : Int) by omega, show ((f : Int) + (0 + (b : Int))) % 26 = (((f + b) % 26 : Nat) : Int) by omega] at h1
 have h2 := sg_inj _ (Nat.mod_lt _ (by decide)) _ (Nat.mod_lt _ (by decide)) h1
 omega
theorem YI {ts : List Str} (h : (ts.map V.str).Nodup) : ts.Nodup := by
 unfold List.Nodup at h ⊢
 rw [List.pairwise_map] at h
 exact h.imp fun hab e => hab (by rw [e])
abbrev Ln : Type := Str ⊕ (Str × List Nat)
def jH (T : Tb) : List Str := T.cs.map Cn.nm
def findC (T : Tb) (nm : Str) : Option Cn := T.cs.find? fun c => decide (c.nm = nm)
theorem ZD {T : Tb} (hn : (jH T).Nodup) {c : Cn} (hc : c ∈ T.cs) : findC T c.nm = some c := by
 obtain ⟨m, ws, cs⟩ := T
 unfold findC jH at *
 dsimp only at *
 induction cs with
 | nil => cases hc
 | cons d cs ih =>
  rw [List.map_cons, List.nodup_cons] at hn
  rw [List.find?_cons]
  rcases List.mem_cons.mp hc with rfl | hc
  ·rw [decide_eq_true rfl]
  ·have ne : ¬ d.nm = c.nm := fun e => hn.1 (e ▸ List.mem_map.mpr ⟨c, hc, rfl⟩)
   rw [decide_eq_false ne]
   exact ih hn.2 hc
def cellOf (T : Tb) (nm : Str) (r : List Nat) : Nat := match findC T nm with
 | some c => Tn.at' c.cs (Tn.place T.m r)
 | none => 0
def YJ (T : Tb) (γ : Str -> Nat) (acc : List Nat) : Ln -> Nat
 | .inl x => γ x
 | .inr z => cellOf T z.1 (z.2.map (Tn.at' acc))
def zM (T : Tb) (γ : Str -> Nat) (ls : List Ln) : List Nat := ls.foldl (fun acc l => acc ++ [YJ T γ acc l]) []
theorem Zv (T : Tb) (γ : Str -> Nat) (ls : List Ln) (l : Ln) : zM T γ (ls ++ [l]) = zM T γ ls ++ [YJ T γ (zM T γ ls) l] := by
 unfold zM
 rw [List.foldl_append]
 rfl
def WL (T : Tb) (LT : List Str) (i : Nat) : Ln -> Prop
 | .inl x => x ∈ LT
 | .inr z => (∀ n ∈ z.2, n < i) /\ ∃ c ∈ T.cs, c.nm = z.1 /\ c.pl = z.2.length
def jz (T : Tb) (LT : List Str) (ls : List Ln) : Prop := ∀ (i : Nat) (l : Ln), ls[i]? = some l -> WL T LT i l
theorem Zd (T : Tb) (γ : Str -> Nat) (ls : List Ln) : ∀ i, i <= ls.length -> (zM T γ (ls.take i)).length = i
 | 0, _ => rfl
 | i + 1, h => by
  have hi : ls[i]? = some ls[i] := List.getElem?_eq_getElem (by omega)
  rw [take_snoc hi, Zv, List.length_append, Zd T γ ls i (by omega)]
  rfl
theorem at_left {xs ys : List Nat} {j : Nat} (h : j < xs.length) : Tn.at' (xs ++ ys) j = Tn.at' xs j := by
 unfold Tn.at'
 rw [List.getD_eq_getElem?_getD, List.getD_eq_getElem?_getD, List.getElem?_append_left h]
theorem at_last {xs : List Nat} {y : Nat} : Tn.at' (xs ++ [y]) xs.length = y := by
 unfold Tn.at'
 rw [List.getD_eq_getElem?_getD, List.getElem?_append_right (Nat.le_refl _), Nat.sub_self]
 rfl
theorem qu (T : Tb) (γ : Str -> Nat) (ls : List Ln) {i : Nat} {l : Ln} (h : ls[i]? = some l) : ∀ m, i < m -> m <= ls.length -> Tn.at' (zM T γ (ls.take m)) i = YJ T γ (zM T γ (ls.take i)) l
 | 0, h0, _ => absurd h0 (Nat.not_lt_zero _)
 | m + 1, h0, hm => by
  have hi : ls[m]? = some ls[m] := List.getElem?_eq_getElem (by omega)
  rw [take_snoc hi, Zv]
  have gl := Zd T γ ls m (by omega)
  by_cases e : i = m
  ·subst e
   rw [h] at hi
   rw [<- Option.some.inj hi]
   conv => lhs; arg 2; rw [<- gl]
   exact at_last
  ·rw [at_left (by omega)]
   exact qu T γ ls h m (by omega) (by omega)
theorem jU.cell_lt {T : Tb} (g : jU T) (hn : (jH T).Nodup) {c : Cn} (hc : c ∈ T.cs) {r : List Nat} (hr : Tn.Rw T.m c.pl r) : cellOf T c.nm r < T.m := by
 unfold cellOf
 rw [ZD hn hc]
 exact (g.cn c hc).2.2.at_lt (Tn.place_lt _ _ hr)
theorem line_at (T : Tb) (γ : Str -> Nat) {LT : List Str} {ls : List Ln} (hg : jz T LT ls) {i : Nat} {l : Ln} (h : ls[i]? = some l) : Tn.at' (zM T γ ls) i = YJ T γ (zM T γ ls) l := by
 have hi : i < ls.length := (List.getElem?_eq_some_iff.mp h).1
 have e := qu T γ ls h ls.length hi (Nat.le_refl _)
 rw [List.take_length] at e
 rw [e]
 cases l with
 | inl x => rfl
 | inr z =>
  have hz := (hg i _ h).1
  show cellOf T z.1 _ = cellOf T z.1 _
  congr 1
  refine List.map_congr_left fun n hn => ?_
  have hni := hz n hn
  have hnl : ls[n]? = some ls[n] := List.getElem?_eq_getElem (by omega)
  have e1 := qu T γ ls hnl i hni (by omega)
  have e2 := qu T γ ls hnl ls.length (by omega) (Nat.le_refl _)
  rw [List.take_length] at e2
  rw [e1, e2]
theorem Wc (T : Tb) (γ : Str -> Nat) (ls : List Ln) : (zM T γ ls).length = ls.length := by
 have := Zd T γ ls ls.length (Nat.le_refl _)
 rwa [List.take_length] at this
theorem Ji {T : Tb} (g : jU T) (hn : (jH T).Nodup) {γ : Str -> Nat} {LT : List Str} {ls : List Ln} (hg : jz T LT ls) (hγ : ∀ x ∈ LT, γ x < T.m) : ∀ (b i : Nat), i < b -> i < ls.length -> Tn.at' (zM T γ ls) i < T.m
 | 0, i, h, _ => absurd h (Nat.not_lt_zero _)
 | b + 1, i, hb, hi => by
  have h : ls[i]? = some ls[i] := List.getElem?_eq_getElem hi
  have gl := hg i _ h
  rw [line_at T γ hg h]
  generalize ls[i] = l at *
  cases l with
  | inl x => exact hγ x gl
  | inr z =>
   obtain ⟨hz, c, hc, e1, e2⟩ := gl
   show cellOf T z.1 _ < _
   rw [<- e1]
   exact g.cell_lt hn hc ⟨by rw [List.length_map]; exact e2.symm, fun x hx => by
    obtain ⟨n, hn', rfl⟩ := List.mem_map.mp hx
    have := hz n hn'
    exact Ji g hn hg hγ b n (by omega) (by omega)⟩
def Bd (T : Tb) (LT : List Str) (γ : Str -> Nat) : Prop := ∀ x ∈ LT, γ x < T.m
theorem at0 {x : V} {us : List V} : atI (x :: us) 0 = some x := qC (j := 0) rfl
theorem Zb {xs : List V} (h : 1 <= xs.length) : j5 xs (some 1) none = xs.drop 1 := by
 unfold j5
 rw [show HT.sIx xs.length 0 (some 1) = 1 by rw [show (1 : Int) = ((1 : Nat) : Int) from rfl, HT.sIx_nat]; omega, HT.sIx_none]
 exact List.take_of_length_le (by rw [List.length_drop]; omega)
theorem J5 {K : PySem.W.Frag} {H : Hp} {a : Addr} {xs : List V} {lo hi : Option Int} {Q : VK} (ha : H a = some (.tup xs)) (F : ∀ t H', zR H H' -> H' t = some (.tup (j5 xs lo hi)) -> Q (.ref t) H') : rSlT K (.ref a) lo hi H Q \/ rSlTW K (.ref a) lo hi H Q := by
 by_cases h : HT.sIx xs.length 0 lo = 0 /\ HT.sIx xs.length xs.length hi = xs.length
 ·refine .inr ⟨a, xs, rfl, SqT.of ha, h, F a H (zR.refl H) ?_⟩
  unfold j5
  rw [h.1, h.2, List.drop_zero, Nat.sub_zero, List.take_length]
  exact ha
 ·exact .inl ⟨a, xs, rfl, SqT.of ha, h, fun p hp => F p _ (zf hp _) zd⟩
theorem Wd {K : PySem.W.Frag} {H : Hp} {a b : Addr} {xs ys : List V} {Q : VK} (ha : H a = some (.tup xs)) (hb : H b = some (.tup ys)) (hz : xs.length + ys.length <= 1000) (F : ∀ t H', zR H H' -> H' t = some (.tup (xs ++ ys)) -> Q (.ref t) H') : rCatA K (.ref a) (.ref b) H Q :=
 ⟨a, b, xs, ys, rfl, rfl, SqT.of ha, SqT.of hb, zy hz, fun z => F b H (zR.refl H) (by rw [z]; exact hb), fun _ z => F a H (zR.refl H) (by rw [z, List.append_nil]; exact ha), fun _ _ p hp => F p _ (zf hp _) zd⟩
def Ls (L : List Str) : Prop := ∀ x ∈ L, Ltr x
def We : Sp := fun vs H Q _ => ∃ x : Str, vs = [.str x] /\ Small x /\ x.length <= 8 /\ ∀ H', zR H H' -> Q (.bl true) H'
def IsLn (H : Hp) : Ln -> V -> Prop
 | .inl x, v => v = .str x
 | .inr z, v => ∃ t, v = .ref t /\ H t = some (.tup (.str z.1 :: z.2.map nV))
theorem IsLn.tk {H H' : Hp} (k : Tk H H') {l : Ln} {v : V} (h : IsLn H l v) : IsLn H' l v := by
 cases l with
 | inl x => exact h
 | inr z =>
  obtain ⟨t, e, h⟩ := h
  exact ⟨t, e, k _ _ h⟩
abbrev Lns (H : Hp) : List Ln -> List V -> Prop := Paired (IsLn H)
theorem Lns.tk {H H' : Hp} (k : Tk H H') {ls : List Ln} {us : List V} (h : Lns H ls us) : Lns H' ls us := Paired.imp' (fun _ _ z => z.tk k) h
theorem Lns.snoc {H : Hp} {ls : List Ln} {us : List V} {l : Ln} {u : V} (h : Lns H ls us) (k : IsLn H l u) : Lns H (ls ++ [l]) (us ++ [u]) := by
 induction h with
 | nil => exact .cons k .nil
 | cons r _ ih => exact .cons r ih
theorem Qi {H : Hp} : ∀ LT : List Str, Lns H (LT.map Sum.inl) (LT.map V.str)
 | [] => .nil
 | x :: L => .cons rfl (Qi L)
theorem J6 (T : Tb) (LT : List Str) : jz T LT (LT.map Sum.inl) := fun i l h => by
 rw [List.getElem?_map] at h
 obtain ⟨x, hx, rfl⟩ := Option.map_eq_some_iff.mp h
 exact List.mem_of_getElem? hx
theorem YK {T : Tb} {LT : List Str} {ls : List Ln} {l : Ln} (h : jz T LT ls) (k : WL T LT ls.length l) : jz T LT (ls ++ [l]) := fun i l' hl => by
 by_cases hi : i < ls.length
 ·rw [List.getElem?_append_left hi] at hl
  exact h i l' hl
 ·rw [List.getElem?_append_right (by omega)] at hl
  cases hz : i - ls.length with
  | zero =>
   rw [hz] at hl
   have e : l = l' := by simpa using hl
   rw [<- e, show i = ls.length by omega]
   exact k
  | succ z => rw [hz] at hl; simp at hl
def IsGn (H : Hp) (g : Addr) (γ : Str -> Nat) (L : List Str) : Prop := ∃ kvs : List (Key × V), H g = some (.dK kvs) /\ kvs.length <= L.length /\ ∀ x ∈ L, jb kvs (Sum.inr x) = some (nV (γ x))
theorem IsGn.same {H H' : Hp} {g : Addr} {γ : Str -> Nat} {L : List Str} (h : IsGn H g γ L) (s : zR H H') : IsGn H' g γ L := by
 obtain ⟨kvs, h1, h2⟩ := h
 exact ⟨kvs, s _ _ h1, h2⟩
def Jj : Sp := fun vs H Q _ => ∃ (v : V) (ll g : Addr) (T : Tb) (ls : List Ln) (us : List V) (γ : Str -> Nat) (LT : List Str), vs = [v, .ref ll, .ref g] /\ J4 H v T /\ jU T /\ (jH T).Nodup /\ H ll = some (.lst us) /\ Lns H ls us /\ jz T LT ls /\ ls.length <= 20 /\ IsGn H g γ LT /\ Bd T LT γ /\ ∀ l H', zR H H' -> H' l = some (.lst ((zM T γ ls).map nV)) -> Q (.ref l) H'
def Wf : Sp := fun vs H Q _ => ∃ (p : Addr) (v : V) (T : Tb) (la : Addr) (LT : List Str) (k : Nat), vs = [.ref p, v, .ref la, nV k] /\ Wel H p /\ J4 H v T /\ jU T /\ H la = some (.lst (LT.map V.str)) /\ la ≠ p /\ 1 <= LT.length /\ LT.length <= 2 /\ k <= 10 /\ ∀ l ls us H', Off p H H' -> Wel H' p -> l ≠ p -> H' l = some (.lst us) -> Lns H' ls us -> jz T LT ls -> 1 <= ls.length -> ls.length <= 12 -> Q (.ref l) H'
def d0 : Cn := ⟨"", 0, []⟩
def yn (T : Tb) (au : Nat -> Addr) (n : Nat) : List (Key × V) := (List.range n).map fun i => (Sum.inr (T.cs.getD i d0).nm, .ref (au i))
theorem kn_snoc (T : Tb) (au : Nat -> Addr) (n : Nat) : yn T au (n + 1) = yn T au n ++ [(Sum.inr (T.cs.getD n d0).nm, .ref (au n))] := by
 unfold yn
 rw [List.range_succ, List.map_append]
 rfl
theorem kn_keys (T : Tb) (au : Nat -> Addr) : (yn T au T.cs.length).map Prod.fst = (jH T).map Sum.inr := by
 unfold yn jH
 rw [List.map_map, List.map_map]
 refine List.ext_getElem? fun i => ?_
 rw [List.getElem?_map, List.getElem?_map]
 by_cases hi : i < T.cs.length
 ·rw [List.getElem?_range hi, List.getElem?_eq_getElem hi]
  simp [List.getD, hi]
 ·rw [List.getElem?_eq_none (by rw [List.length_range]; omega), List.getElem?_eq_none (by omega)]
  rfl
theorem kn_nd {T : Tb} {au : Nat -> Addr} (h : (jH T).Nodup) : ((yn T au T.cs.length).map Prod.fst).Nodup := by
 rw [kn_keys]
 unfold List.Nodup
 rw [List.pairwise_map]
 exact h.imp fun hab e => hab (Sum.inr.inj e)
theorem eqVs_nV (xs ys : List Nat) : Qv (xs.map nV) (ys.map nV) = decide (xs = ys) := by
 unfold Qv
 rw [List.length_map, List.length_map]
 induction xs generalizing ys with
 | nil => cases ys <;> simp
 | cons x xs ih =>
  cases ys with
  | nil => simp
  | cons y ys =>
   have := ih ys
   rw [List.map_cons, List.map_cons, List.zip_cons_cons, List.all_cons, List.length_cons, List.length_cons]
   have e1 : eqV (nV x) (nV y) = decide (x = y) := by
    show (((x : Int)) == (y : Int)) = _
    rw [Bool.eq_iff_iff, beq_iff_eq, decide_eq_true_iff]
    omega
   have e2 : (xs.length + 1 == ys.length + 1) = (xs.length == ys.length) := by
    rw [Bool.eq_iff_iff, beq_iff_eq, beq_iff_eq]
    omega
   show ((eqV (nV x) (nV y) && _) && _) = _
   rw [e1, e2, Bool.and_assoc, this, Bool.eq_iff_iff]
   simp
def yx (c : Cn) : List Key := [Sum.inr c.nm, Sum.inl (c.pl : Int)]
def IsCd (H : Hp) (d : Addr) (T : Tb) : Prop := ∃ kvs, H d = some (.dT kvs) /\ ∀ c ∈ T.cs, ∃ u, jb kvs (yx c) = some (.ref u) /\ H u = some (.tup (c.cs.map nV))
theorem IsCd.same {H H' : Hp} {d : Addr} {T : Tb} (h : IsCd H d T) (s : zR H H') : IsCd H' d T := by
 obtain ⟨kvs, h1, h2⟩ := h
 refine ⟨kvs, s _ _ h1, fun c hc => ?_⟩
 obtain ⟨u, e1, e2⟩ := h2 c hc
 exact ⟨u, e1, s _ _ e2⟩
def ctOf (T : Tb) (au : Nat -> Addr) (n : Nat) : List (List Key × V) := (List.range n).map fun i => (yx (T.cs.getD i d0), .ref (au i))
theorem ct_snoc (T : Tb) (au : Nat -> Addr) (n : Nat) : ctOf T au (n + 1) = ctOf T au n ++ [(yx (T.cs.getD n d0), .ref (au n))] := by
 unfold ctOf
 rw [List.range_succ, List.map_append]
 rfl
theorem ct_nd {T : Tb} {au : Nat -> Addr} (h : (jH T).Nodup) : ((ctOf T au T.cs.length).map Prod.fst).Nodup := by
 have h2 := kn_nd (au := au) h
 unfold ctOf
 unfold yn at h2
 rw [List.map_map] at h2 ⊢
 unfold List.Nodup at h2 ⊢
 rw [List.pairwise_map] at h2 ⊢
 exact h2.imp fun hab e => hab (by
  have e' : yx _ = yx _ := e
  unfold yx at e'
  exact (List.cons.inj e').1)
def spCbn : Sp := fun vs H Q _ => ∃ (v : V) (T : Tb), vs = [v] /\ J4 H v T /\ jU T /\ (jH T).Nodup /\ ∀ e H', zR H H' -> IsCd H' e T -> Q (.ref e) H'
theorem cut_mem {xs : List V} {lo hi : Option Int} {v : V} (h : v ∈ j5 xs lo hi) : v ∈ xs := by
 unfold j5 at h
 exact ((List.take_sublist _ _).trans (List.drop_sublist _ _)).subset h
theorem sg_un : ∀ f : Nat, f < 26 -> ¬ Txt.mul (Str.mk #[sgAt (f : Int)]) 2 = Txt.mul (Str.mk #[sgAt ((f : Int) - 1)]) 2 := by decide +kernel
theorem nm1_z {f : Nat} (hf : f < 26) (j : Nat) : ¬ nm1 (sgAt (f : Int)) j = .str (Txt.mul (Str.mk #[sgAt ((f : Int) - 1)]) 2) := fun e => by
 have e0 := V.str.inj e
 have h1 := congrArg Str.length e0
 rw [show 0 + (j : Int) + 2 = ((j + 2 : Nat) : Int) by omega, show (2 : Int) = ((2 : Nat) : Int) from rfl, ZV, ZV] at h1
 have : j = 0 := by omega
 subst this
 exact sg_un f hf e0
def lnL : Ln -> Bool
 | .inl _ => true
 | .inr _ => false
def Qj : Sp := fun vs H Q _ => ∃ (v : V) (l : Ln), vs = [v] /\ IsLn H l v /\ (∀ x, l = .inl x -> Ltr x) /\ ∀ H', zR H H' -> Q (.bl (lnL l)) H'
structure Clos (ls : List Ln) (ns : List Nat) : Prop where
 nd : ns.Nodup
 lt : ∀ n ∈ ns, n < ls.length
 last : ls.length - 1 ∈ ns
 cl : ∀ n ∈ ns, ∀ z, ls[n]? = some (.inr z) -> ∀ m ∈ z.2, m ∈ ns
def nd1 (ns : List Nat) : List (Key × V) := ns.map fun (n : Nat) => ((Sum.inl (n : Int) : Key), V.bl true)
theorem Wg : ∀ (ns : List Nat) (n : Nat), (jb (nd1 ns) (Sum.inl (n : Int))).isSome = decide (n ∈ ns)
 | [], n => by simp [nd1, jb]
 | m :: ns, n => by
  unfold nd1
  rw [List.map_cons]
  by_cases h : m = n
  ·rw [qA (by rw [h])]
   simp [h]
  ·rw [qo (fun e => h (by have := Sum.inl.inj e; omega))]
   have := Wg ns n
   unfold nd1 at this
   rw [this]
   have hn : ¬ n = m := fun e => h e.symm
   simp [hn]
theorem nd1_keys (ns : List Nat) : ((nd1 ns).map fun p => kV p.1) = ns.map nV := by
 unfold nd1
 rw [List.map_map]
 rfl
theorem nd1_put {ns : List Nat} {n : Nat} (h : n ∉ ns) : Zr (nd1 ns) (Sum.inl (n : Int)) (.bl true) = nd1 (ns ++ [n]) := by
 have hv : jb (nd1 ns) (Sum.inl (n : Int)) = none := by
  have := Wg ns n
  rw [decide_eq_false h] at this
  cases e : jb (nd1 ns) (Sum.inl (n : Int)) with
  | none => rfl
  | some x => rw [e] at this; cases this
 rw [Ja _ hv]
 unfold nd1
 rw [List.map_append]
 rfl
def LtrLn (l : Ln) : Prop := ∀ x, l = .inl x -> Ltr x
theorem jz.ltr {T : Tb} {LT : List Str} {ls : List Ln} (h : jz T LT ls) (hL : Ls LT) {i : Nat} {l : Ln} (hi : ls[i]? = some l) : LtrLn l := fun x e => by
 have := h i l hi
 rw [e] at this
 exact hL x this
def SqE (H : Hp) (a : Addr) (us : List V) : Prop := H a = some (.tup us) \/ H a = some (.lst us)
theorem SqE.same {H H' : Hp} {a : Addr} {us : List V} (h : SqE H a us) (s : zR H H') : SqE H' a us := h.imp (s _ _) (s _ _)
theorem SqE.ix {K : PySem.W.Frag} {H : Hp} {a : Addr} {us : List V} {k : Nat} {u : V} {Q : VK} (h : SqE H a us) (e : us[k]? = some u) (q : Q u H) : rIx K (.ref a) (nV k) H Q := by
 rcases h with h | h
 ·exact .inr (.inl ⟨a, _, _, _, rfl, rfl, SqT.of h, qC e, q⟩)
 ·exact .inl ⟨a, _, _, _, rfl, rfl, SqL.of h, qC e, q⟩
theorem SqE.len {K : PySem.W.Frag} {H : Hp} {a : Addr} {us : List V} (h : SqE H a us) : LenV K (.ref a) H us.length := by
 rcases h with h | h
 ·exact .inr ⟨_, SqT.of h, rfl⟩
 ·exact .inl ⟨_, SqL.of h, rfl⟩
def WM : Sp := fun vs H Q _ => ∃ (lt : Addr) (us : List V) (ls : List Ln) (T : Tb) (LT : List Str), vs = [.ref lt] /\ SqE H lt us /\ Lns H ls us /\ jz T LT ls /\ (∀ c ∈ T.cs, c.pl <= 2) /\ Ls LT /\ 1 <= ls.length /\ ls.length <= 28 /\ ∀ l ns H', zR H H' -> H' l = some (.lst (ns.map nV)) -> Clos ls ns -> Q (.ref l) H'
def YL : Sp := fun vs H Q _ => ∃ (e l : Addr) (us : List V) (ss : List Ln) (T : Tb) (LT : List Str), vs = [.ref e, .ref l] /\ IsCd H e T /\ H l = some (.lst us) /\ Lns H ss us /\ (∀ s ∈ ss, ∃ i, WL T LT i s) /\ Ls LT /\ ∀ H', zR H H' -> Q .non H'
def YM : Sp := fun vs H Q _ => ∃ (g l : Addr) (us : List V) (ss : List Ln) (LT : List Str) (kvs : List (Key × V)), vs = [.ref l, .ref g] /\ H g = some (.dK kvs) /\ H l = some (.lst us) /\ Lns H ss us /\ (∀ s ∈ ss, ∀ x, s = .inl x -> x ∈ LT) /\ Ls LT /\ (∀ x ∈ LT, (jb kvs (Sum.inr x)).isSome = true) /\ ∀ H', zR H H' -> Q .non H'
abbrev ZW (H : Hp) : List (List Nat) -> List V -> Prop := Paired fun col v => ∃ t, v = .ref t /\ H t = some (.tup (col.map nV))
theorem ZW.tk {H H' : Hp} (k : Tk H H') {cs : List (List Nat)} {us : List V} (h : ZW H cs us) : ZW H' cs us := Paired.imp' (fun _ _ ⟨t, e, h⟩ => ⟨t, e, k _ _ h⟩) h
theorem ZW.snoc {H : Hp} {cs : List (List Nat)} {us : List V} {c : List Nat} {t : Addr} (h : ZW H cs us) (k : H t = some (.tup (c.map nV))) : ZW H (cs ++ [c]) (us ++ [.ref t]) := by
 induction h with
 | nil => exact .cons ⟨t, rfl, k⟩ .nil
 | cons r _ ih => exact .cons r ih
def qM (m len : Nat) (col : List Nat) : Prop := col.length = len /\ ∀ x ∈ col, x < m
theorem J7 {col : List Nat} {j : Nat} (h : j < col.length) : col[j]? = some (Tn.at' col j) := by
 unfold Tn.at'
 rw [List.getD_eq_getElem?_getD, List.getElem?_eq_getElem h]
 rfl
theorem qM.at {m len : Nat} {col : List Nat} (h : qM m len col) {j : Nat} (hj : j < len) : Tn.at' col j < m := h.2 _ (List.mem_of_getElem? (J7 (by rw [h.1]; exact hj)))
def YN : Sp := fun vs H Q _ => ∃ (cu cl : Addr) (m pl : Nat) (cs : List Nat) (cols : List (List Nat)) (cvs : List V) (len : Nat), vs = [.ref cu, nV m, .ref cl, nV len] /\ H cu = some (.tup (cs.map nV)) /\ Tn.Cs m pl cs /\ H cl = some (.lst cvs) /\ ZW H cols cvs /\ cols.length = pl /\ pl <= 2 /\ (∀ col ∈ cols, qM m len col) /\ 1 <= m /\ m <= 9 /\ len <= 9 /\ ∀ t H', zR H H' -> H' t = some (.tup (((List.range len).map fun k => Tn.at' cs (Tn.place m (cols.map fun col => Tn.at' col k))).map nV)) -> Q (.ref t) H'
def Jk : Sp := fun vs H Q _ => ∃ (v : V) (e al t : Addr) (T : Tb) (z : Str × List Nat) (cols : List (List Nat)) (avs : List V) (len : Nat), vs = [v, .ref e, .ref al, .ref t, nV len] /\ J4 H v T /\ jU T /\ (jH T).Nodup /\ IsCd H e T /\ H al = some (.lst avs) /\ ZW H cols avs /\ (∀ col ∈ cols, qM T.m len col) /\ H t = some (.tup (.str z.1 :: z.2.map nV)) /\ (∀ n ∈ z.2, n < cols.length) /\ (∃ c ∈ T.cs, c.nm = z.1 /\ c.pl = z.2.length) /\ len <= 9 /\ ∀ t' H', zR H H' -> H' t' = some (.tup (((List.range len).map fun k => cellOf T z.1 (z.2.map fun n => Tn.at' (cols.getD n []) k)).map nV)) -> Q (.ref t') H'
def reN (ns : List Nat) : Ln -> Ln
 | .inl x => .inl x
 | .inr z => .inr (z.1, z.2.map fun m => ns.idxOf m)
def ZG (ns : List Nat) : List (Key × V) := ns.zipIdx.map fun p => ((Sum.inl ((p.1 : Nat) : Int) : Key), nV p.2)
theorem Ze (ns : List Nat) : (ZG ns).length = ns.length := by
 unfold ZG
 rw [List.length_map, List.length_zipIdx]
theorem Jl {ns : List Nat} {i : Nat} {p : Key × V} (h : (ZG ns)[i]? = some p) : ∃ n, ns[i]? = some n /\ p = (Sum.inl ((n : Nat) : Int), nV i) := by
 unfold ZG at h
 rw [List.getElem?_map, List.getElem?_zipIdx] at h
 cases e : ns[i]? with
 | none => rw [e] at h; cases h
 | some n =>
  rw [e] at h
  refine ⟨n, rfl, ?_⟩
  have h2 := Option.some.inj h
  rw [<- h2]
  simp
theorem J8 (ns : List Nat) : (ZG ns).map Prod.fst = ns.map fun (n : Nat) => (Sum.inl (n : Int) : Key) := by
 refine List.ext_getElem? fun i => ?_
 rw [List.getElem?_map, List.getElem?_map]
 cases e : (ZG ns)[i]? with
 | none =>
  have := List.getElem?_eq_none_iff.mp e
  rw [Ze] at this
  rw [List.getElem?_eq_none this]
  rfl
 | some p =>
  obtain ⟨n, h1, rfl⟩ := Jl e
  rw [h1]
  rfl
theorem nums_nd {ns : List Nat} (h : ns.Nodup) : ((ZG ns).map Prod.fst).Nodup := by
 rw [J8]
 unfold List.Nodup at h ⊢
 rw [List.pairwise_map]
 exact h.imp fun hab e => hab (by have := Sum.inl.inj e; omega)
theorem WN : ∀ {kvs : List (Key × V)} {p : Key × V}, (kvs.map Prod.fst).Nodup -> p ∈ kvs -> jb kvs p.1 = some p.2
 | [], p, _, h => by cases h
 | q :: kvs, p, nd, h => by
  rw [List.map_cons, List.nodup_cons] at nd
  rcases List.mem_cons.mp h with rfl | h
  ·exact qA rfl
  ·rw [qo (fun e => nd.1 (e ▸ List.mem_map.mpr ⟨p, h, rfl⟩))]
   exact WN nd.2 h
theorem J9 : ∀ {kvs : List (Key × V)} {k : Key}, k ∉ kvs.map Prod.fst -> jb kvs k = none
 | [], k, _ => rfl
 | q :: kvs, k, h => by
  rw [List.map_cons, List.mem_cons, not_or] at h
  rw [qo (fun e => h.1 e.symm)]
  exact J9 h.2
theorem nums_val {ns : List Nat} (nd : ns.Nodup) {n : Nat} (h : n ∈ ns) : jb (ZG ns) (Sum.inl (n : Int)) = some (nV (ns.idxOf n)) := by
 have hlt := List.idxOf_lt_length_of_mem h
 have hp : (ZG ns)[ns.idxOf n]? = some (Sum.inl ((n : Nat) : Int), nV (ns.idxOf n)) := by
  have e : (ZG ns)[ns.idxOf n]? = some ((ZG ns)[ns.idxOf n]'(by rw [Ze]; exact hlt)) := List.getElem?_eq_getElem _
  obtain ⟨m, h1, h2⟩ := Jl e
  rw [e, h2]
  rw [List.getElem?_eq_getElem hlt, List.getElem_idxOf] at h1
  rw [Option.some.inj h1]
 exact WN (nums_nd nd) (p := (Sum.inl ((n : Nat) : Int), nV (ns.idxOf n))) (List.mem_of_getElem? hp)
theorem YO (ns : List Nat) (n : Nat) : ZG (ns ++ [n]) = ZG ns ++ [(Sum.inl ((n : Nat) : Int), nV ns.length)] := by
 unfold ZG
 rw [List.zipIdx_append, List.map_append]
 simp
theorem nums_put {ns : List Nat} {i n : Nat} (nd : ns.Nodup) (h : ns[i]? = some n) : Zr (ZG (ns.take i)) (Sum.inl (n : Int)) (.int ((ZG (ns.take i)).length : Nat)) = ZG (ns.take (i + 1)) := by
 have hi := (List.getElem?_eq_some_iff.mp h).1
 have hn : n ∉ ns.take i := fun hm => by
  obtain ⟨j, hj, e⟩ := List.mem_take_iff_getElem.mp hm
  obtain ⟨h1, h2⟩ := List.getElem?_eq_some_iff.mp h
  exact (List.pairwise_iff_getElem.mp nd) j i (by omega) h1 (by omega) (by rw [e, h2])
 have hk : (Sum.inl (n : Int) : Key) ∉ (ZG (ns.take i)).map Prod.fst := by
  rw [J8]
  intro hm
  obtain ⟨m, hm1, e⟩ := List.mem_map.mp hm
  have := Sum.inl.inj e
  exact hn (by rw [show n = m by omega]; exact hm1)
 rw [Ja _ (J9 hk), take_snoc h, YO, Ze]
theorem YQ {ls : List Ln} {ns0 : List Nat} {ms : List Int} (c : Clos ls ns0) (pm : ms.Perm (ns0.map fun (n : Nat) => (n : Int))) (pw : ms.Pairwise (· <= ·)) : ∃ ns : List Nat, ms.map V.int = ns.map nV /\ Clos ls ns /\ ns.Pairwise (· < ·) /\ ns.length = ns0.length := by
 have m0 : ∀ i ∈ ms, ∃ n ∈ ns0, i = ((n : Nat) : Int) := fun i hi => by
  obtain ⟨n, hn, e⟩ := List.mem_map.mp (pm.mem_iff.mp hi)
  exact ⟨n, hn, e.symm⟩
 have mm : ∀ x, x ∈ ms.map Int.toNat ↔ x ∈ ns0 := fun x => by
  constructor
  ·intro hx
   obtain ⟨i, hi, rfl⟩ := List.mem_map.mp hx
   obtain ⟨n, hn, rfl⟩ := m0 i hi
   rw [Int.toNat_natCast]
   exact hn
  ·intro hx
   exact List.mem_map.mpr ⟨((x : Nat) : Int), pm.mem_iff.mpr (List.mem_map.mpr ⟨x, hx, rfl⟩), Int.toNat_natCast _⟩
 have nd0 : (ns0.map fun (n : Nat) => (n : Int)).Nodup := by
  have := c.nd
  unfold List.Nodup at this ⊢
  rw [List.pairwise_map]
  exact this.imp fun hab e => hab (by omega)
 have nd := pm.nodup_iff.mpr nd0
 have ris : (ms.map Int.toNat).Pairwise (· < ·) := by
  rw [List.pairwise_map]
  refine List.Pairwise.imp_of_mem (fun {a b} ha hb hab => ?_) (List.pairwise_and_iff.mpr ⟨pw, nd⟩)
  obtain ⟨n, _, rfl⟩ := m0 a ha
  obtain ⟨k, _, rfl⟩ := m0 b hb
  have h1 := hab.1
  have h2 := hab.2
  omega
 refine ⟨ms.map Int.toNat, ?_, ⟨ris.imp fun h => Nat.ne_of_lt h, fun n hn => c.lt n ((mm n).mp hn), (mm _).mpr c.last, fun n hn z hz m hm => (mm m).mpr (c.cl n ((mm n).mp hn) z hz m hm)⟩, ris, by rw [List.length_map, pm.length_eq, List.length_map]⟩
 rw [List.map_map]
 refine List.map_congr_left fun i hi => ?_
 obtain ⟨n, _, rfl⟩ := m0 i hi
 show V.int _ = V.int _
 rw [Int.toNat_natCast]
theorem Wh {α : Type} {f : Nat -> α} {n j : Nat} {x : α} (h : ((List.range n).map f)[j]? = some x) : j < n /\ x = f j := by
 rw [List.getElem?_map] at h
 by_cases hj : j < n
 ·rw [List.getElem?_range hj] at h
  exact ⟨hj, (Option.some.inj h).symm⟩
 ·rw [List.getElem?_eq_none (by rw [List.length_range]; omega)] at h
  cases h
def lnPs : Ln -> List Nat
 | .inl _ => []
 | .inr z => z.2
def Wi : Sp := fun vs H Q _ => ∃ (v : V) (nd : Addr) (l : Ln) (ns : List Nat) (o : Obj), vs = [v, .ref nd] /\ IsLn H l v /\ LtrLn l /\ H nd = some (.frz o (.dK (ZG ns))) /\ ns.Nodup /\ (∀ m ∈ lnPs l, m ∈ ns) /\ (lnPs l).length <= 2 /\ ns.length <= 28 /\ ∀ w H', zR H H' -> IsLn H' (reN ns l) w -> Q w H'
def Jm : Sp := fun vs H Q _ => ∃ (lt : Addr) (us : List V) (ls : List Ln) (T : Tb) (LT : List Str), vs = [.ref lt] /\ SqE H lt us /\ Lns H ls us /\ jz T LT ls /\ (∀ c ∈ T.cs, c.pl <= 2) /\ Ls LT /\ 1 <= ls.length /\ ls.length <= 28 /\ ∀ t us' ns H', zR H H' -> H' t = some (.tup us') -> Clos ls ns -> ns.Pairwise (· < ·) -> Lns H' (ns.map fun n => reN ns (ls.getD n (.inl ""))) us' -> Q (.ref t) H'
def jZ (T : Tb) (γ : Nat -> Str -> Nat) (ls : List Ln) (len n : Nat) : List Nat := (List.range len).map fun k => Tn.at' (zM T (γ k) ls) n
theorem jK {T : Tb} (γ : Nat -> Str -> Nat) {ls : List Ln} (len : Nat) {n : Nat} {x : Str} (hn : ls[n]? = some (.inl x)) : jZ T γ ls len n = (List.range len).map fun k => γ k x := by
 unfold jZ
 refine List.map_congr_left fun k _ => ?_
 have hi := (List.getElem?_eq_some_iff.mp hn).1
 have e := qu T (γ k) ls hn ls.length hi (Nat.le_refl _)
 rw [List.take_length] at e
 rw [e]
 rfl
theorem ZE {T : Tb} {LT : List Str} (γ : Nat -> Str -> Nat) {ls : List Ln} (hG : jz T LT ls) (len : Nat) {n : Nat} {z : Str × List Nat} (hn : ls[n]? = some (.inr z)) : jZ T γ ls len n = (List.range len).map fun k => cellOf T z.1 (z.2.map fun m => Tn.at' (zM T (γ k) ls) m) := by
 unfold jZ
 refine List.map_congr_left fun k _ => ?_
 have hi := (List.getElem?_eq_some_iff.mp hn).1
 have e := qu T (γ k) ls hn ls.length hi (Nat.le_refl _)
 rw [List.take_length] at e
 rw [e]
 show cellOf T z.1 (z.2.map (Tn.at' (zM T (γ k) (ls.take n)))) = _
 congr 1
 refine List.map_congr_left fun m hm => ?_
 have hmn := (hG n _ hn).1 m hm
 have hml : ls[m]? = some ls[m] := List.getElem?_eq_getElem (by omega)
 have e1 := qu T (γ k) ls hml n hmn (by omega)
 have e2 := qu T (γ k) ls hml ls.length (by omega) (Nat.le_refl _)
 rw [List.take_length] at e2
 rw [e1, e2]
theorem Jn (T : Tb) (γ : Nat -> Str -> Nat) (ls : List Ln) (len n : Nat) : (jZ T γ ls len n).length = len := by
 unfold jZ
 rw [List.length_map, List.length_range]
theorem Qk (T : Tb) (γ : Nat -> Str -> Nat) (ls : List Ln) {len k : Nat} (n : Nat) (hk : k < len) : Tn.at' (jZ T γ ls len n) k = Tn.at' (zM T (γ k) ls) n := by
 have h := J7 (col := jZ T γ ls len n) (j := k) (by rw [Jn]; exact hk)
 unfold jZ at h
 obtain ⟨_, e⟩ := Wh h
 exact e
theorem YR {ns : List Nat} (ris : ns.Pairwise (· < ·)) {i n m : Nat} (hn : ns[i]? = some n) (hm : m ∈ ns) (lt : m < n) : ns.idxOf m < i /\ ns[ns.idxOf m]? = some m := by
 have hj := List.idxOf_lt_length_of_mem hm
 have e : ns[ns.idxOf m]? = some m := by rw [List.getElem?_eq_getElem hj, List.getElem_idxOf]
 refine ⟨?_, e⟩
 obtain ⟨hi, ei⟩ := List.getElem?_eq_some_iff.mp hn
 rcases Nat.lt_or_ge (ns.idxOf m) i with h | h
 ·exact h
 ·exfalso
  rcases Nat.eq_or_lt_of_le h with h | h
  ·rw [<- h, hn] at e
   have := Option.some.inj e
   omega
  ·have h2 := (List.pairwise_iff_getElem.mp ris) i (ns.idxOf m) hi hj h
   rw [ei, List.getElem_idxOf] at h2
   omega
theorem YS {ns : List Nat} {N : Nat} (ris : ns.Pairwise (· < ·)) (lt : ∀ n ∈ ns, n < N) (h : N - 1 ∈ ns) : ∃ ms, ns = ms ++ [N - 1] := by
 rcases List.eq_nil_or_concat ns with rfl | ⟨ms, e, rfl⟩
 ·cases h
 rw [List.concat_eq_append] at *
 refine ⟨ms, ?_⟩
 have he := lt e (by simp)
 rcases List.mem_append.mp h with hm | hm
 ·have := (List.pairwise_append.mp ris).2.2 _ hm e (by simp)
  omega
 ·rw [List.mem_singleton.mp hm]
theorem YT {LT : List Str} {cps : List (Key × V)} (h : cps.length = LT.length) (g : ∀ (i : Nat) (x : Str), LT[i]? = some x -> ∃ v, cps[i]? = some ((Sum.inr x : Key), v)) : cps.map Prod.fst = LT.map Sum.inr := by
 refine List.ext_getElem? fun i => ?_
 rw [List.getElem?_map, List.getElem?_map]
 cases e : LT[i]? with
 | none =>
  have := List.getElem?_eq_none_iff.mp e
  rw [List.getElem?_eq_none (by omega)]
  rfl
 | some x =>
  obtain ⟨v, hv⟩ := g i x e
  rw [hv]
  rfl
theorem YU {H : Hp} {cs : List (List Nat)} {c : List Nat} {vs : List V} (h : ZW H (cs ++ [c]) vs) : ∃ us t, vs = us ++ [.ref t] /\ H t = some (.tup (c.map nV)) := by
 have hl := Paired.length h
 rw [List.length_append] at hl
 rcases List.eq_nil_or_concat vs with rfl | ⟨us, v, rfl⟩
 ·cases hl
 rw [List.concat_eq_append] at *
 rw [List.length_append] at hl
 have hl : cs.length + 1 = us.length + 1 := hl
 obtain ⟨t, e, ht⟩ := Paired.at h cs.length c v (by simp) (by rw [show cs.length = us.length by omega]; simp)
 exact ⟨us, t, by rw [e], ht⟩
def Ql (H : Hp) (ct : Addr) (LT : List Str) (γ : Nat -> Str -> Nat) (len : Nat) (cps : List (Key × V)) (cvs : List V) : Prop := H ct = some (.tup cvs) /\ Prs H cvs cps /\ cps.length = LT.length /\ (∀ (i : Nat) (x : Str), LT[i]? = some x -> ∃ t : Addr, cps[i]? = some ((Sum.inr x : Key), V.ref t) /\ H t = some (.tup (((List.range len).map fun k => γ k x).map nV))) /\ LT.Nodup /\ 1 <= LT.length /\ LT.length <= 3
def Wj : Sp := fun vs H Q _ => ∃ (v : V) (ct lt : Addr) (T : Tb) (LT : List Str) (cps : List (Key × V)) (cvs us : List V) (ls : List Ln) (γ : Nat -> Str -> Nat) (len : Nat), vs = [v, .ref ct, .ref lt] /\ J4 H v T /\ jU T /\ (jH T).Nodup /\ Ql H ct LT γ len cps cvs /\ H lt = some (.tup us) /\ Lns H ls us /\ jz T LT ls /\ Ls LT /\ 1 <= ls.length /\ ls.length <= 28 /\ 1 <= len /\ len <= 9 /\ (∀ k, Bd T LT (γ k)) /\ ∀ t H', zR H H' -> H' t = some (.tup ((jZ T γ ls len (ls.length - 1)).map nV)) -> Q (.ref t) H'
theorem Ql.tk {H H' : Hp} {ct : Addr} {LT : List Str} {γ : Nat -> Str -> Nat} {len : Nat} {cps : List (Key × V)} {cvs : List V} (h : Ql H ct LT γ len cps cvs) (k : Tk H H') : Ql H' ct LT γ len cps cvs := by
 obtain ⟨h1, h2, h3, h4, h5⟩ := h
 refine ⟨k _ _ h1, Prs.tk k h2, h3, fun i x hx => ?_, h5⟩
 obtain ⟨t, e1, e2⟩ := h4 i x hx
 exact ⟨t, e1, k _ _ e2⟩
theorem rng_at (cs : List Nat) : ((List.range cs.length).map fun k => Tn.at' cs k) = cs := by
 refine List.ext_getElem? fun i => ?_
 rw [List.getElem?_map]
 by_cases hi : i < cs.length
 ·rw [List.getElem?_range hi, J7 hi]
  rfl
 ·rw [List.getElem?_eq_none (by rw [List.length_range]; omega), List.getElem?_eq_none (by omega)]
  rfl
theorem at_lt0 {cs : List Nat} {m : Nat} (m1 : 1 <= m) (h : ∀ c ∈ cs, c < m) (k : Nat) : Tn.at' cs k < m := by
 by_cases hk : k < cs.length
 ·exact h _ (List.mem_of_getElem? (J7 hk))
 ·unfold Tn.at'
  rw [List.getD_eq_getElem?_getD, List.getElem?_eq_none (by omega)]
  exact m1
theorem YV {s : Str} {c : Nat} (h : s.cps = #[c]) (h1 : 97 <= c) (h2 : c <= 122) : Ltr s := ⟨by show s.cps.size = 1; rw [h]; rfl, fun x hx => by
 rw [h] at hx
 have : x = c := by simpa using hx
 rw [this]
 exact ⟨h1, h2⟩⟩
theorem Qm {T : Tb} {LT : List Str} {ls : List Ln} (h : jz T LT ls) (N : Nat) : jz T LT (ls.take N) := fun i l hi => by
 have hlt := (List.getElem?_eq_some_iff.mp hi).1
 rw [List.length_take] at hlt
 rw [List.getElem?_take_of_lt (by omega)] at hi
 exact h i l hi
theorem WO {H : Hp} : ∀ {ls : List Ln} {us : List V} (N : Nat), Lns H ls us -> Lns H (ls.take N) (us.take N)
 | _, _, 0, _ => .nil
 | _, _, _ + 1, .nil => .nil
 | _, _, N + 1, .cons r h => .cons r (WO N h)
theorem cut_to {xs : List V} {k : Nat} : j5 xs none (some (k : Int)) = xs.take k := by
 unfold j5 HT.sIx
 simp
 rw [if_neg (by omega)]
 omega
def WP (H : Hp) (du : Addr) (T : Tb) (γ : Nat -> Str -> Nat) (ls : List Ln) : List Nat -> List V -> Prop := Paired fun k v => ∃ t, v = .ref t /\ t ≠ du /\ H t = some (.lst ((zM T (γ k) ls).map nV))
theorem WP.to {H H' : Hp} {du : Addr} {T : Tb} {γ : Nat -> Str -> Nat} {ls : List Ln} (k : ∀ b o, b ≠ du -> H b = some o -> H' b = some o) {ks : List Nat} {vs : List V} (h : WP H du T γ ls ks vs) : WP H' du T γ ls ks vs := Paired.imp' (fun _ _ ⟨t, e, n, h⟩ => ⟨t, e, n, k _ _ n h⟩) h
theorem WP.snoc {H : Hp} {du : Addr} {T : Tb} {γ : Nat -> Str -> Nat} {ls : List Ln} {ks : List Nat} {vs : List V} {k : Nat} {t : Addr} (h : WP H du T γ ls ks vs) (n : t ≠ du) (e : H t = some (.lst ((zM T (γ k) ls).map nV))) : WP H du T γ ls (ks ++ [k]) (vs ++ [.ref t]) := by
 unfold WP at h ⊢
 induction h with
 | nil => exact .cons ⟨t, rfl, n, e⟩ .nil
 | cons r _ ih => exact .cons r ih
theorem YW {T : Tb} (γ : Nat -> Str -> Nat) {ls : List Ln} (len : Nat) {N : Nat} (h1 : 1 <= N) (h2 : N <= ls.length) : jZ T γ (ls.take N) len ((ls.take N).length - 1) = (List.range len).map fun k => Tn.at' (zM T (γ k) ls) (N - 1) := by
 have e : (ls.take N).length = N := by rw [List.length_take]; omega
 rw [e]
 unfold jZ
 refine List.map_congr_left fun k _ => ?_
 have hl : ls[N - 1]? = some ls[N - 1] := List.getElem?_eq_getElem (by omega)
 have e1 := qu T (γ k) ls hl N (by omega) h2
 have e2 := qu T (γ k) ls hl ls.length (by omega) (Nat.le_refl _)
 rw [List.take_length] at e2
 rw [e1, e2]
def Jo : Sp := fun vs H Q _ => ∃ (p : Addr) (m len : Nat) (la : Addr) (LT : List Str), vs = [.ref p, nV m, nV len, .ref la] /\ Wel H p /\ 1 <= m /\ m <= 9 /\ 1 <= len /\ len <= 9 /\ H la = some (.lst (LT.map V.str)) /\ la ≠ p /\ 1 <= LT.length /\ LT.length <= 3 /\ LT.Nodup /\ ∀ ct γ cps cvs H', Off p H H' -> Wel H' p -> (∀ k x, x ∈ LT -> γ k x < m) -> Ql H' ct LT γ len cps cvs -> Q (.ref ct) H'
def jn (T : Tb) (len : Nat) (cols : List (List Nat)) (z : Str × List Nat) : List Nat := (List.range len).map fun k => cellOf T z.1 (z.2.map fun n => Tn.at' (cols.getD n []) k)
def colV (T : Tb) (len : Nat) (nm : Str) (args : List (List Nat)) : List Nat := (List.range len).map fun k => cellOf T nm (args.map fun a => Tn.at' a k)
inductive Sd (T : Tb) (len : Nat) (B : List (List Nat)) : List Nat -> Prop
 | base {col : List Nat} : col ∈ B -> Sd T len B col
 | op {c : Cn} {args : List (List Nat)} : c ∈ T.cs -> args.length = c.pl -> (∀ a ∈ args, Sd T len B a) -> Sd T len B (colV T len c.nm args)
def WQ : Sp := fun vs H Q _ => ∃ (fd c : Addr) (col : List Nat) (kvs : List (List Key × V)) (lv : V), vs = [.ref fd, .ref c, lv] /\ H fd = some (.dT kvs) /\ H c = some (.tup (col.map nV)) /\ kvs.length < 81 /\ ((jb kvs (Qz col)).isSome = true -> Q .non H) /\ (jb kvs (Qz col) = none -> Q .non (upd H fd (.dT (kvs ++ [(Qz col, lv)]))))
theorem iteP {b : Bool} {P Q : Prop} (h : b = true) (p : P) : if b = true then P else Q := by rw [if_pos h]; exact p
theorem iteN {b : Bool} {P Q : Prop} (h : b = false) (q : Q) : if b = true then P else Q := by rw [h]; exact q
def l0 (cs : List Cn) : List (Str × List Nat) := (cs.filter fun c => decide (c.pl = 0)).map fun c => (c.nm, ([] : List Nat))
theorem l0_yes (cs : List Cn) {c : Cn} (h : c.pl = 0) : l0 (cs ++ [c]) = l0 cs ++ [(c.nm, [])] := by
 unfold l0
 rw [List.filter_append, List.map_append, List.filter_cons, if_pos (decide_eq_true h)]
 rfl
theorem l0_no (cs : List Cn) {c : Cn} (h : c.pl ≠ 0) : l0 (cs ++ [c]) = l0 cs := by
 unfold l0
 rw [List.filter_append, List.filter_cons, if_neg (fun z => h (of_decide_eq_true z))]
 simp
theorem Lns.app {H : Hp} {as bs : List Ln} {xs ys : List V} (h : Lns H as xs) (k : Lns H bs ys) : Lns H (as ++ bs) (xs ++ ys) := by
 induction h with
 | nil => exact k
 | cons r _ ih => exact .cons r ih
def lwC (k : Nat) (c : Cn) : List (Str × List Nat) := (if c.pl = 1 then [(c.nm, [k])] else []) ++ (if c.pl = 2 then ((List.range (k + 1)).map fun o => (c.nm, [k, o])) ++ (List.range k).map fun o => (c.nm, [o, k]) else [])
def lw (k : Nat) (cs : List Cn) : List (Str × List Nat) := cs.flatMap (lwC k)
abbrev Lzs (H : Hp) (zs : List (Str × List Nat)) (us : List V) : Prop := Lns H (zs.map Sum.inr) us
theorem Lzs.app {H : Hp} {as bs : List (Str × List Nat)} {xs ys : List V} (h : Lzs H as xs) (k : Lzs H bs ys) : Lzs H (as ++ bs) (xs ++ ys) := by
 unfold Lzs
 rw [List.map_append]
 exact Lns.app h k
theorem lwC_len {k : Nat} (h : k <= 28) (c : Cn) : (lwC k c).length <= 58 := by
 unfold lwC
 rw [List.length_append]
 split
 ·rw [if_neg (by omega)]
  show 1 + 0 <= 58
  omega
 ·split
  ·rw [List.length_append, List.length_map, List.length_map, List.length_range, List.length_range]
   show 0 + _ <= 58
   omega
  ·show 0 + 0 <= 58
   omega
theorem lw_len {k : Nat} (h : k <= 28) : ∀ cs : List Cn, (lw k cs).length <= 58 * cs.length
 | [] => Nat.le_refl _
 | c :: cs => by
  unfold lw
  rw [List.flatMap_cons, List.length_append, List.length_cons]
  have h1 := lwC_len h c
  have h2 := lw_len h cs
  unfold lw at h2
  omega
def Jp : Sp := fun vs H Q _ => ∃ (v : V) (T : Tb), vs = [v] /\ J4 H v T /\ jU T /\ ∀ l us H', zR H H' -> H' l = some (.lst us) -> Lzs H' (l0 T.cs) us -> Q (.ref l) H'
def Jq : Sp := fun vs H Q _ => ∃ (v : V) (T : Tb) (k : Nat), vs = [v, nV k] /\ J4 H v T /\ jU T /\ k <= 28 /\ ∀ l us H', zR H H' -> H' l = some (.lst us) -> Lzs H' (lw k T.cs) us -> Q (.ref l) H'
def yo (m : Nat) : Nat -> List (List Nat)
 | 0 => [[]]
 | k + 1 => (yo m k).flatMap fun r => (List.range m).map fun o => r ++ [o]
theorem wb (m : Nat) : ∀ k, (yo m k).length = m ^ k
 | 0 => rfl
 | k + 1 => by
  have ih := wb m k
  show ((yo m k).flatMap fun r => (List.range m).map fun o => r ++ [o]).length = _
  rw [Nat.pow_succ, <- ih]
  generalize yo m k = rs
  induction rs with
  | nil => simp
  | cons r rs ih2 =>
   rw [List.flatMap_cons, List.length_append, ih2, List.length_map, List.length_range, List.length_cons, Nat.succ_mul]
   omega
theorem Qn {m : Nat} : ∀ {k : Nat} {r : List Nat}, r ∈ yo m k ↔ Tn.Rw m k r
 | 0, r => by
  show r ∈ [[]] ↔ _
  rw [List.mem_singleton]
  constructor
  ·rintro rfl
   exact ⟨rfl, fun x hx => by cases hx⟩
  ·intro h
   exact List.length_eq_zero_iff.mp h.1
 | k + 1, r => by
  show r ∈ (yo m k).flatMap _ ↔ _
  rw [List.mem_flatMap]
  constructor
  ·rintro ⟨r', hr', h⟩
   obtain ⟨o, ho, rfl⟩ := List.mem_map.mp h
   obtain ⟨h1, h2⟩ := Qn.mp hr'
   refine ⟨by rw [List.length_append, h1]; rfl, fun x hx => ?_⟩
   rcases List.mem_append.mp hx with h | h
   ·exact h2 x h
   ·rw [List.mem_singleton.mp h]
    exact List.mem_range.mp ho
  ·rintro ⟨h1, h2⟩
   rcases List.eq_nil_or_concat r with rfl | ⟨r', o, rfl⟩
   ·cases h1
   rw [List.concat_eq_append] at *
   rw [List.length_append] at h1
   have h1 : r'.length + 1 = k + 1 := h1
   exact ⟨r', Qn.mpr ⟨by omega, fun x hx => h2 x (List.mem_append_left _ hx)⟩, List.mem_map.mpr ⟨o, List.mem_range.mpr (h2 o (by simp)), rfl⟩⟩
theorem YX {α : Type} [DecidableEq α] : ∀ (l ns : List α), l.Nodup -> (∀ x ∈ l, x ∈ ns) -> l.length <= ns.length
 | [], ns, _, _ => Nat.zero_le _
 | x :: l, ns, nd, h => by
  obtain ⟨n1, n2⟩ := List.nodup_cons.mp nd
  have hx := h x List.mem_cons_self
  have := YX l (ns.erase x) n2 fun y hy => (List.mem_erase_of_ne (fun (e : y = x) => n1 (e ▸ hy))).mpr (h y (List.mem_cons_of_mem _ hy))
  rw [List.length_erase_of_mem hx] at this
  have hp := List.length_pos_of_mem hx
  rw [List.length_cons]
  omega
theorem WR {m len : Nat} {cols : List (List Nat)} (nd : cols.Nodup) (h : ∀ c ∈ cols, qM m len c) : cols.length <= m ^ len := by
 rw [<- wb]
 exact YX _ _ nd fun c hc => Qn.mpr (h c hc)
theorem WS : ∀ {a b : List Nat}, Qz a = Qz b -> a = b
 | [], [], _ => rfl
 | [], _ :: _, h => by cases h
 | _ :: _, [], h => by cases h
 | x :: a, y :: b, h => by
  obtain ⟨h1, h2⟩ := List.cons.inj (show (Sum.inl ((x : Nat) : Int) : Key) :: Qz a = (Sum.inl ((y : Nat) : Int) : Key) :: Qz b from h)
  rw [WS h2, Int.ofNat_inj.mp (Sum.inl.inj h1)]
theorem ZX {kvs : List (List Key × V)} {cols : List (List Nat)} (e : kvs.map Prod.fst = cols.map Qz) (col : List Nat) : (jb kvs (Qz col)).isSome = true ↔ col ∈ cols := by
 induction kvs generalizing cols with
 | nil =>
  cases cols with
  | nil => exact ⟨(fun h => by cases h), (fun h => by cases h)⟩
  | cons c cols => cases e
 | cons p kvs ih =>
  cases cols with
  | nil => cases e
  | cons c cols =>
   obtain ⟨e1, e2⟩ := List.cons.inj e
   by_cases h : c = col
   ·subst h
    rw [qA e1]
    exact ⟨fun _ => List.mem_cons_self, fun _ => rfl⟩
   ·rw [qo (fun z => h (WS (e1.symm.trans z))), ih e2, List.mem_cons]
    exact ⟨.inr, fun z => z.elim (fun z => absurd z.symm h) id⟩
def FdH (H : Hp) (fd : Addr) (cols : List (List Nat)) (ls : List Ln) : Prop := ∃ kvs, H fd = some (.dT kvs) /\ kvs.map Prod.fst = cols.map Qz /\ Lns H ls (kvs.map Prod.snd)
def LnV (T : Tb) (LT : List Str) (len : Nat) (B cols : List (List Nat)) (col : List Nat) : Ln -> Prop
 | .inl x => (x, col) ∈ LT.zip B
 | .inr z => jn T len cols z = col
structure FdM (T : Tb) (LT : List Str) (len : Nat) (B cols : List (List Nat)) (ls : List Ln) : Prop where
 nd : cols.Nodup
 gc : ∀ c ∈ cols, qM T.m len c
 sd : ∀ c ∈ cols, Sd T len B c
 gl : jz T LT ls
 ll : ls.length = cols.length
 val : ∀ (i : Nat) (l : Ln), ls[i]? = some l -> LnV T LT len B cols (cols.getD i []) l
theorem FdH.same {H H' : Hp} {fd : Addr} {cols : List (List Nat)} {ls : List Ln} (h : FdH H fd cols ls) (s : zR H H') : FdH H' fd cols ls := by
 obtain ⟨kvs, h1, h2, h3⟩ := h
 exact ⟨kvs, s _ _ h1, h2, Lns.tk (Tk.of s) h3⟩
theorem Zf (T : Tb) (len : Nat) (cols : List (List Nat)) (z : Str × List Nat) : jn T len cols z = colV T len z.1 (z.2.map fun n => cols.getD n []) := by
 unfold jn colV
 refine List.map_congr_left fun k _ => ?_
 rw [List.map_map]
 rfl
theorem jV (T : Tb) (len : Nat) {cols : List (List Nat)} (more : List (List Nat)) {z : Str × List Nat} (h : ∀ n ∈ z.2, n < cols.length) : jn T len (cols ++ more) z = jn T len cols z := by
 rw [Zf, Zf]
 congr 1
 refine List.map_congr_left fun n hn => ?_
 rw [List.getD_eq_getElem?_getD, List.getD_eq_getElem?_getD, List.getElem?_append_left (h n hn)]
theorem YY {cols : List (List Nat)} {more : List (List Nat)} {i : Nat} (h : i < cols.length) : (cols ++ more).getD i [] = cols.getD i [] := by
 rw [List.getD_eq_getElem?_getD, List.getD_eq_getElem?_getD, List.getElem?_append_left h]
theorem YZ {cols : List (List Nat)} {c : List Nat} : (cols ++ [c]).getD cols.length [] = c := by
 rw [List.getD_eq_getElem?_getD, List.getElem?_append_right (Nat.le_refl _), Nat.sub_self]
 rfl
theorem Wk {H : Hp} {fd c : Addr} {col : List Nat} {lv : V} {l : Ln} {T : Tb} {LT : List Str} {len : Nat} {B cols : List (List Nat)} {ls : List Ln} (h : FdH H fd cols ls) (m : FdM T LT len B cols ls) (hc : H c = some (.tup (col.map nV))) (g : qM T.m len col) (sd : Sd T len B col) (gl : WL T LT cols.length l) (il : IsLn H l lv) (hv : LnV T LT len B cols col l) (b : cols.length < 81) {Q : VK} {E : XK}
  (q : ∀ H' cols' ls', Off fd H H' -> Tk H H' -> FdH H' fd cols' ls' -> FdM T LT len B cols' ls' -> (∃ more, cols' = cols ++ more) -> col ∈ cols' -> Q .non H') : WQ [.ref fd, .ref c, lv] H Q E := by
 obtain ⟨kvs, h1, h2, h3⟩ := h
 have kl : kvs.length = cols.length := by
  have := congrArg List.length h2
  rw [List.length_map, List.length_map] at this
  exact this
 have tk : ∀ o, Tk H (upd H fd o) := fun o b' xs hb => by
  rw [zE (yA hb h1 (by intro z; cases z))]
  exact hb
 refine ⟨fd, c, col, kvs, lv, rfl, h1, hc, by omega, fun hs => ?_, fun hn => ?_⟩
 ·exact q H cols ls Off.refl Tk.refl ⟨kvs, h1, h2, h3⟩ m ⟨[], (List.append_nil _).symm⟩ ((ZX h2 col).mp hs)
 ·have hcn : col ∉ cols := fun hm => by
   have := (ZX h2 col).mpr hm
   rw [hn] at this
   cases this
  refine q _ (cols ++ [col]) (ls ++ [l]) Off.put (tk _) ⟨_, zd, by rw [List.map_append, List.map_append, h2]; rfl, ?_⟩ ⟨?_, ?_, ?_, ?_, ?_, ?_⟩ ⟨[col], rfl⟩ (by simp)
  ·rw [List.map_append]
   exact Lns.snoc (Lns.tk (tk _) h3) (il.tk (tk _))
  ·rw [List.nodup_append]
   exact ⟨m.nd, by simp, fun a ha b' hb => by rw [List.mem_singleton.mp hb]; exact fun z => hcn (z ▸ ha)⟩
  ·intro x hx
   rcases List.mem_append.mp hx with hx | hx
   ·exact m.gc x hx
   ·rw [List.mem_singleton.mp hx]; exact g
  ·intro x hx
   rcases List.mem_append.mp hx with hx | hx
   ·exact m.sd x hx
   ·rw [List.mem_singleton.mp hx]; exact sd
  ·intro i x hx
   by_cases hi : i < ls.length
   ·rw [List.getElem?_append_left hi] at hx
    exact m.gl i x hx
   ·have hil := (List.getElem?_eq_some_iff.mp hx).1
    rw [List.length_append] at hil
    have hil : i < ls.length + 1 := hil
    have ei : i = ls.length := by omega
    rw [ei, List.getElem?_append_right (Nat.le_refl _), Nat.sub_self] at hx
    obtain rfl : l = x := by simpa using hx
    rw [ei, m.ll]
    exact gl
  ·rw [List.length_append, List.length_append, m.ll]
   rfl
  ·intro i x hx
   by_cases hi : i < ls.length
   ·rw [List.getElem?_append_left hi] at hx
    have hv' := m.val i x hx
    have hg := m.gl i x hx
    rw [YY (by rw [<- m.ll]; exact hi)]
    cases x with
    | inl y => exact hv'
    | inr z =>
     show jn T len (cols ++ [col]) z = _
     rw [jV T len [col] fun n hn => by
      have := hg.1 n hn
      have := m.ll
      omega]
     exact hv'
   ·have hil := (List.getElem?_eq_some_iff.mp hx).1
    rw [List.length_append] at hil
    have hil : i < ls.length + 1 := hil
    have ei : i = ls.length := by omega
    rw [ei, List.getElem?_append_right (Nat.le_refl _), Nat.sub_self] at hx
    obtain rfl : l = x := by simpa using hx
    rw [ei, m.ll, YZ]
    cases l with
    | inl y => exact hv
    | inr z =>
     show jn T len (cols ++ [col]) z = _
     rw [jV T len [col] gl.1]
     exact hv
theorem Qo {H : Hp} {a b : Addr} {o : HO} (h : H b = some o) (n : H a = none) : a ≠ b := fun e => by rw [e, h] at n; cases n
theorem ZY {fd : Addr} {G H H' : Hp} (s : zR G H) (n : G fd = none) (o : Off fd H H') : zR G H' := fun b ob hb => o b ob (zF hb n) (s b ob hb)
theorem lw_mem {k : Nat} {cs : List Cn} {z : Str × List Nat} (h : z ∈ lw k cs) (p2 : ∀ c ∈ cs, c.pl <= 2) : (∀ n ∈ z.2, n <= k) /\ ∃ c ∈ cs, c.nm = z.1 /\ c.pl = z.2.length := by
 obtain ⟨c, hc, h⟩ := List.mem_flatMap.mp h
 unfold lwC at h
 rcases List.mem_append.mp h with h | h
 ·split at h
  ·rw [List.mem_singleton.mp h]
   exact ⟨fun n hn => by rw [List.mem_singleton.mp hn]; exact Nat.le_refl _, c, hc, rfl, by assumption⟩
  ·cases h
 ·split at h
  ·rcases List.mem_append.mp h with h | h
   ·obtain ⟨o, ho, rfl⟩ := List.mem_map.mp h
    have := List.mem_range.mp ho
    refine ⟨fun n hn => ?_, c, hc, rfl, by assumption⟩
    rcases List.mem_cons.mp hn with e | hn
    ·omega
    ·rw [List.mem_singleton.mp hn]
     omega
   ·obtain ⟨o, ho, rfl⟩ := List.mem_map.mp h
    have := List.mem_range.mp ho
    refine ⟨fun n hn => ?_, c, hc, rfl, by assumption⟩
    rcases List.mem_cons.mp hn with e | hn
    ·omega
    ·rw [List.mem_singleton.mp hn]
     omega
  ·cases h
theorem Y0 {cs : List Cn} {z : Str × List Nat} (h : z ∈ l0 cs) : z.2 = [] /\ ∃ c ∈ cs, c.nm = z.1 /\ c.pl = z.2.length := by
 obtain ⟨c, hc, rfl⟩ := List.mem_map.mp h
 obtain ⟨h1, h2⟩ := List.mem_filter.mp hc
 exact ⟨rfl, c, h1, rfl, of_decide_eq_true h2⟩
theorem Y1 {T : Tb} {LT : List Str} {len : Nat} {B cols : List (List Nat)} {ls : List Ln} (m : FdM T LT len B cols ls) {z : Str × List Nat} (hz : ∀ n ∈ z.2, n < cols.length) (hc : ∃ c ∈ T.cs, c.nm = z.1 /\ c.pl = z.2.length) : Sd T len B (jn T len cols z) := by
 obtain ⟨c, hc, e1, e2⟩ := hc
 rw [Zf, <- e1]
 refine .op hc (by rw [List.length_map, e2]) fun a ha => ?_
 obtain ⟨n, hn, rfl⟩ := List.mem_map.mp ha
 rw [List.getD_eq_getElem?_getD, List.getElem?_eq_getElem (hz n hn)]
 exact m.sd _ (List.getElem_mem _)
theorem wc {T : Tb} (g : jU T) (nd : (jH T).Nodup) {len : Nat} {cols : List (List Nat)} (gc : ∀ c ∈ cols, qM T.m len c) {z : Str × List Nat} (hz : ∀ n ∈ z.2, n < cols.length) (hc : ∃ c ∈ T.cs, c.nm = z.1 /\ c.pl = z.2.length) : qM T.m len (jn T len cols z) := by
 obtain ⟨c, hc, e1, e2⟩ := hc
 unfold jn
 refine ⟨by rw [List.length_map, List.length_range], fun x hx => ?_⟩
 obtain ⟨k, hk, rfl⟩ := List.mem_map.mp hx
 have hk := List.mem_range.mp hk
 rw [<- e1]
 refine g.cell_lt nd hc ⟨by rw [List.length_map, e2], fun y hy => ?_⟩
 obtain ⟨n, hn, rfl⟩ := List.mem_map.mp hy
 have hn := hz n hn
 rw [List.getD_eq_getElem?_getD, List.getElem?_eq_getElem hn]
 exact (gc _ (List.getElem_mem hn)).at hk
theorem sd_in {T : Tb} (g : jU T) {len : Nat} {B cols : List (List Nat)} (hB : ∀ b ∈ B, b ∈ cols) (h0 : ∀ z ∈ l0 T.cs, jn T len cols z ∈ cols) (hw : ∀ k, k < cols.length -> ∀ z ∈ lw k T.cs, jn T len cols z ∈ cols) {col : List Nat} (h : Sd T len B col) : col ∈ cols := by
 induction h with
 | base h => exact hB _ h
 | @op c args hc hl _ ih =>
  have p2 := (g.cn c hc).2.1
  have gd : ∀ {i : Nat} {a : List Nat}, cols[i]? = some a -> cols.getD i [] = a := fun {i a} h => by rw [List.getD_eq_getElem?_getD, h]; rfl
  match args, hl, ih with
  | [], hl, _ =>
   have := h0 (c.nm, []) (List.mem_map.mpr ⟨c, List.mem_filter.mpr ⟨hc, decide_eq_true hl.symm⟩, rfl⟩)
   rw [Zf] at this
   exact this
  | [a], hl, ih =>
   obtain ⟨i, hi⟩ := List.mem_iff_getElem?.mp (ih a List.mem_cons_self)
   have := hw i (List.getElem?_eq_some_iff.mp hi).1 (c.nm, [i]) (List.mem_flatMap.mpr ⟨c, hc, List.mem_append_left _ (by rw [if_pos (show c.pl = 1 from hl.symm)]; exact List.mem_singleton.mpr rfl)⟩)
   rw [Zf, show ([i].map fun n => cols.getD n []) = [a] by rw [List.map_singleton, gd hi]] at this
   exact this
  | [a, b], hl, ih =>
   have hl' : c.pl = 2 := hl.symm
   obtain ⟨i, hi⟩ := List.mem_iff_getElem?.mp (ih a List.mem_cons_self)
   obtain ⟨j, hj⟩ := List.mem_iff_getElem?.mp (ih b (by simp))
   have li := (List.getElem?_eq_some_iff.mp hi).1
   have lj := (List.getElem?_eq_some_iff.mp hj).1
   have key : ∃ k, k < cols.length /\ (c.nm, [i, j]) ∈ lw k T.cs := by
    by_cases hij : j <= i
    ·refine ⟨i, li, List.mem_flatMap.mpr ⟨c, hc, List.mem_append_right _ ?_⟩⟩
     rw [if_pos hl']
     exact List.mem_append_left _ (List.mem_map.mpr ⟨j, List.mem_range.mpr (by omega), rfl⟩)
    ·refine ⟨j, lj, List.mem_flatMap.mpr ⟨c, hc, List.mem_append_right _ ?_⟩⟩
     rw [if_pos hl']
     exact List.mem_append_right _ (List.mem_map.mpr ⟨i, List.mem_range.mpr (by omega), rfl⟩)
   obtain ⟨k, hk, hz⟩ := key
   have := hw k hk _ hz
   rw [Zf, show ([i, j].map fun n => cols.getD n []) = [a, b] by rw [List.map_cons, List.map_singleton, gd hi, gd hj]] at this
   exact this
  | _ :: _ :: _ :: _, hl, _ => simp at hl; omega
def PCs (H : Hp) : List (Str × List Nat) -> List V -> Prop := Paired fun p v => ∃ t u, v = .ref t /\ H t = some (.tup [.str p.1, .ref u]) /\ H u = some (.tup (p.2.map nV))
theorem PCs.tk {H H' : Hp} (k : Tk H H') {cs : List (Str × List Nat)} {us : List V} (h : PCs H cs us) : PCs H' cs us := Paired.imp' (fun _ _ ⟨t, u, e, h1, h2⟩ => ⟨t, u, e, k _ _ h1, k _ _ h2⟩) h
theorem PCs.snoc {H : Hp} {cs : List (Str × List Nat)} {us : List V} {p : Str × List Nat} {t u : Addr} (h : PCs H cs us) (h1 : H t = some (.tup [.str p.1, .ref u])) (h2 : H u = some (.tup (p.2.map nV))) : PCs H (cs ++ [p]) (us ++ [.ref t]) := by
 unfold PCs at h ⊢
 induction h with
 | nil => exact .cons ⟨t, u, rfl, h1, h2⟩ .nil
 | cons r _ ih => exact .cons r ih
def Jr : Sp := fun vs H Q _ => ∃ (v : V) (ct : Addr) (T : Tb) (cps : List (Str × List Nat)) (cvs : List V) (len : Nat), vs = [v, .ref ct, nV len] /\ J4 H v T /\ jU T /\ (jH T).Nodup /\ H ct = some (.tup cvs) /\ PCs H cps cvs /\ (∀ p ∈ cps, Ltr p.1 /\ qM T.m len p.2) /\ len <= 9 /\ T.m ^ len <= 27 /\
 ∀ fd cols ls H', zR H H' -> H fd = none -> FdH H' fd cols ls -> FdM T (cps.map Prod.fst) len (cps.map Prod.snd) cols ls -> (∀ col, Sd T len (cps.map Prod.snd) col -> col ∈ cols) -> Q (.ref fd) H'
theorem zip_mem {cps : List (Str × List Nat)} {p : Str × List Nat} (h : p ∈ cps) : (p.1, p.2) ∈ (cps.map Prod.fst).zip (cps.map Prod.snd) := by
 rw [List.zip_map', List.mem_map]
 exact ⟨p, h, rfl⟩
def Told (T : Tb) (len : Nat) (cps : List (Str × List Nat)) (L : List Ln) (wish : List Nat) : Prop := ∀ γ : Nat -> Str -> Nat, (∀ p ∈ cps, p.2 = (List.range len).map fun k => γ k p.1) -> jZ T γ L len (L.length - 1) = wish
theorem col_val {T : Tb} {len : Nat} {cps : List (Str × List Nat)} {cols : List (List Nat)} {ls : List Ln} (m : FdM T (cps.map Prod.fst) len (cps.map Prod.snd) cols ls) {γ : Nat -> Str -> Nat} (hγ : ∀ p ∈ cps, p.2 = (List.range len).map fun k => γ k p.1) : ∀ (i : Nat) (l : Ln), ls[i]? = some l -> jZ T γ ls len i = cols.getD i [] := by
 intro i
 induction i using Nat.strongRecOn with
 | ind i ih =>
  intro l hl
  have hv := m.val i l hl
  have hg := m.gl i l hl
  cases l with
  | inl x =>
   rw [jK γ len hl]
   have hv : (x, cols.getD i []) ∈ (cps.map Prod.fst).zip (cps.map Prod.snd) := hv
   rw [List.zip_map', List.mem_map] at hv
   obtain ⟨p, hp, e⟩ := hv
   have e1 : p.1 = x := congrArg Prod.fst e
   have e2 : p.2 = cols.getD i [] := congrArg Prod.snd e
   rw [<- e2, <- e1]
   exact (hγ p hp).symm
  | inr z =>
   rw [ZE γ m.gl len hl]
   have hv : jn T len cols z = cols.getD i [] := hv
   rw [<- hv]
   unfold jn
   refine List.map_congr_left fun k hk => ?_
   have hk := List.mem_range.mp hk
   congr 1
   refine List.map_congr_left fun n hn => ?_
   have hni := hg.1 n hn
   have hil := (List.getElem?_eq_some_iff.mp hl).1
   have hln : ls[n]? = some ls[n] := List.getElem?_eq_getElem (by omega)
   rw [<- ih n hni _ hln, Qk T γ ls n hk]
theorem Y2 {ls : List Ln} {ns : List Nat} {i n : Nat} (hn : ns[i]? = some n) {l : Ln} (hl : ls[n]? = some l) : (ns.map fun n => reN ns (ls.getD n (.inl "")))[i]? = some (reN ns l) := by
 rw [List.getElem?_map, hn, Option.map_some, List.getD_eq_getElem?_getD, hl]
 rfl
theorem WT {T : Tb} {LT : List Str} {ls : List Ln} {ns : List Nat} (hG : jz T LT ls) (c : Clos ls ns) (ris : ns.Pairwise (· < ·)) : jz T LT (ns.map fun n => reN ns (ls.getD n (.inl ""))) := by
 intro i l hi
 have hil := (List.getElem?_eq_some_iff.mp hi).1
 rw [List.length_map] at hil
 have hn : ns[i]? = some ns[i] := List.getElem?_eq_getElem hil
 generalize ns[i] = n at hn
 have hnm := List.mem_of_getElem? hn
 have hll := c.lt n hnm
 have hl : ls[n]? = some ls[n] := List.getElem?_eq_getElem hll
 generalize ls[n] = l0 at hl
 rw [Y2 hn hl] at hi
 obtain rfl := Option.some.inj hi
 have hg := hG n l0 hl
 cases l0 with
 | inl x => exact hg
 | inr z =>
  refine ⟨fun m hm => ?_, ?_⟩
  ·obtain ⟨m0, hm0, rfl⟩ := List.mem_map.mp hm
   exact (YR ris hn (c.cl n hnm z hl m0 hm0) (hg.1 m0 hm0)).1
  ·obtain ⟨cc, hc, e1, e2⟩ := hg.2
   exact ⟨cc, hc, e1, by rw [e2]; exact (List.length_map _).symm⟩
theorem ren_col {T : Tb} {LT : List Str} {ls : List Ln} {ns : List Nat} (γ : Nat -> Str -> Nat) (len : Nat) (hG : jz T LT ls) (c : Clos ls ns) (ris : ns.Pairwise (· < ·)) : ∀ (i n : Nat), ns[i]? = some n -> jZ T γ (ns.map fun n => reN ns (ls.getD n (.inl ""))) len i = jZ T γ ls len n := by
 have hG' := WT hG c ris
 intro i
 induction i using Nat.strongRecOn with
 | ind i ih =>
  intro n hn
  have hnm := List.mem_of_getElem? hn
  have hll := c.lt n hnm
  have hl : ls[n]? = some ls[n] := List.getElem?_eq_getElem hll
  generalize ls[n] = l0 at hl
  have hi := Y2 hn hl
  have hg := hG n l0 hl
  cases l0 with
  | inl x => rw [jK γ len hi, jK γ len hl]
  | inr z =>
   rw [ZE γ hG' len hi, ZE γ hG len hl]
   refine List.map_congr_left fun k hk => ?_
   have hk := List.mem_range.mp hk
   show cellOf T z.1 ((z.2.map fun m => ns.idxOf m).map _) = _
   rw [List.map_map]
   congr 1
   refine List.map_congr_left fun m hm => ?_
   obtain ⟨j1, j2⟩ := YR ris hn (c.cl n hnm z hl m hm) (hg.1 m hm)
   have e := congrArg (fun l => Tn.at' l k) (ih _ j1 m j2)
   rw [Qk T γ _ _ hk, Qk T γ _ _ hk] at e
   exact e
theorem told_of {T : Tb} {len : Nat} {cps : List (Str × List Nat)} {cols : List (List Nat)} {ls : List Ln} (m : FdM T (cps.map Prod.fst) len (cps.map Prod.snd) cols ls) {j : Nat} {wish : List Nat} (hj : cols[j]? = some wish) {ns : List Nat} (c : Clos (ls.take (j + 1)) ns) (ris : ns.Pairwise (· < ·)) : Told T len cps (ns.map fun n => reN ns ((ls.take (j + 1)).getD n (.inl ""))) wish := by
 intro γ hγ
 have jl := (List.getElem?_eq_some_iff.mp hj).1
 have ll := m.ll
 have tl : (ls.take (j + 1)).length = j + 1 := by rw [List.length_take]; omega
 obtain ⟨ms, e⟩ := YS ris c.lt c.last
 have hn : ns[ns.length - 1]? = some j := by
  have e' : ns = ms ++ [j] := by rw [tl] at e; exact e
  rw [e', List.length_append, List.getElem?_append_right (by show ms.length <= ms.length + 1 - 1; omega)]
  show [j][ms.length + 1 - 1 - ms.length]? = _
  rw [show ms.length + 1 - 1 - ms.length = 0 by omega]
  rfl
 rw [List.length_map, ren_col γ len (Qm m.gl _) c ris _ j hn]
 have hlj : ls[j]? = some ls[j] := List.getElem?_eq_getElem (by omega)
 have h1 := YW (T := T) (ls := ls) γ len (N := j + 1) (by omega) (by omega)
 rw [tl] at h1
 rw [show j + 1 - 1 = j from rfl] at h1
 rw [h1]
 have h2 := col_val m hγ j _ hlj
 unfold jZ at h2
 rw [h2, List.getD_eq_getElem?_getD, hj]
 rfl
def Wl : Sp := fun vs H Q _ => ∃ (v : V) (ct wt : Addr) (T : Tb) (cps : List (Str × List Nat)) (cvs : List V) (wish : List Nat), vs = [v, .ref ct, .ref wt] /\ J4 H v T /\ jU T /\ (jH T).Nodup /\ H ct = some (.tup cvs) /\ PCs H cps cvs /\ (∀ p ∈ cps, Ltr p.1 /\ qM T.m wish.length p.2) /\ H wt = some (.tup (wish.map nV)) /\ 1 <= wish.length /\ wish.length <= 9 /\ T.m ^ wish.length <= 27 /\
 (Sd T wish.length (cps.map Prod.snd) wish -> ∀ t lt us L H', zR H H' -> H' t = some (.tup [.str "said", .ref lt]) -> H' lt = some (.tup us) -> Lns H' L us -> jz T (cps.map Prod.fst) L -> 1 <= L.length -> L.length <= 28 -> Told T wish.length cps L wish -> Q (.ref t) H') /\
 (¬ Sd T wish.length (cps.map Prod.snd) wish -> ∀ t ut bs ks H', zR H H' -> H' t = some (.tup [.str "unsaid", .ref ut]) -> H' ut = some (.tup bs) -> Paired (yw H') ks bs -> ks.Pairwise (fun x y => ZF x y = true) -> (∀ col, col ∈ ks ↔ Sd T wish.length (cps.map Prod.snd) col) -> ks.length <= 27 -> Q (.ref t) H')
theorem ColVs.tk {H H' : Hp} (k : Tk H H') {cs : List (List Nat)} {us : List V} (h : Paired (yw H) cs us) : Paired (yw H') cs us := Paired.imp' (fun _ _ ⟨t, e, h⟩ => ⟨t, e, k _ _ h⟩) h
theorem yp {a b : List (List Nat)} (ha : a.Pairwise (fun x y => ZF x y = true)) (hb : b.Pairwise (fun x y => ZF x y = true)) (h : ∀ x, x ∈ a ↔ x ∈ b) : a = b := by
 have irr : ∀ x : List Nat, ZF x x = true -> False := fun x e => by
  have := ZU x x e
  rw [e] at this
  cases this
 have nd : ∀ {l : List (List Nat)}, l.Pairwise (fun x y => ZF x y = true) -> l.Nodup := fun {l} h => List.Pairwise.imp (fun {x y} (e : ZF x y = true) (z : x = y) => irr y (by rw [z] at e; exact e)) h
 exact List.Perm.eq_of_pairwise (le := fun x y => ZF x y = true) (fun x y _ _ h1 h2 => by rw [ZU _ _ h1] at h2; cases h2) ha hb ((List.perm_ext_iff_of_nodup (nd ha) (nd hb)).mpr h)
theorem yq {H : Hp} {pts : List (List Nat)} : ∀ {xs ys : List V}, Paired (yw H) pts xs -> Paired (yw H) pts ys -> Paired (wJ H 2) xs ys := by
 have flat : ∀ ns : List Nat, Paired (wJ H 1) (ns.map nV) (ns.map nV) := fun ns => by
  induction ns with
  | nil => exact .nil
  | cons n ns ih => exact .cons (.inl ⟨rfl, rfl⟩) ih
 induction pts with
 | nil =>
  intro xs ys h k
  cases h
  cases k
  exact .nil
 | cons p pts ih =>
  intro xs ys h k
  cases h with
  | cons r t =>
   cases k with
   | cons r' t' =>
    obtain ⟨a, rfl, ha⟩ := r
    obtain ⟨b, rfl, hb⟩ := r'
    exact .cons (.inr ⟨a, b, _, _, rfl, rfl, ha, hb, flat p⟩) (ih t t')
theorem sd_good {T : Tb} (g : jU T) (nT : (jH T).Nodup) {len : Nat} {B : List (List Nat)} (gB : ∀ b ∈ B, qM T.m len b) {col : List Nat} (h : Sd T len B col) : qM T.m len col := by
 induction h with
 | base h => exact gB _ h
 | @op c args hc hl _ ih =>
  unfold colV
  refine ⟨by rw [List.length_map, List.length_range], fun x hx => ?_⟩
  obtain ⟨k, hk, rfl⟩ := List.mem_map.mp hx
  have hk := List.mem_range.mp hk
  refine g.cell_lt nT hc ⟨by rw [List.length_map]; exact hl, fun y hy => ?_⟩
  obtain ⟨a, ha, rfl⟩ := List.mem_map.mp hy
  exact (ih a ha).at hk
theorem Y3 {T : Tb} {len : Nat} {B : List (List Nat)} {kept : List Nat} (hk : Sd T len B kept) {col : List Nat} : Sd T len (B ++ [kept]) col ↔ Sd T len B col := by
 constructor
 ·intro h
  induction h with
  | base h =>
   rcases List.mem_append.mp h with h | h
   ·exact .base h
   ·rw [List.mem_singleton.mp h]
    exact hk
  | op hc hl _ ih => exact .op hc hl ih
 ·intro h
  induction h with
  | base h => exact .base (List.mem_append_left _ h)
  | op hc hl _ ih => exact .op hc hl ih
def yr (T : Tb) : Tb := ⟨T.m, T.ws, T.cs.drop 1⟩
theorem Y4 {T : Tb} (g : jU T) : jU (yr T) := ⟨g.m1, g.m9, g.ris, g.wlt, by show (T.cs.drop 1).length <= 16; rw [List.length_drop]; have := g.cl; omega, fun c hc => g.cn c (List.mem_of_mem_drop hc)⟩
theorem Y5 {T : Tb} (nT : (jH T).Nodup) : (jH (yr T)).Nodup := by
 unfold jH yr at *
 rw [List.map_drop]
 exact nT.sublist (List.drop_sublist _ _)
theorem Y6 {T : Tb} (nT : (jH T).Nodup) {len : Nat} {B : List (List Nat)} {col : List Nat} (h : Sd (yr T) len B col) : Sd T len B col := by
 induction h with
 | base h => exact .base h
 | @op c args hc hl _ ih =>
  have hc' : c ∈ T.cs := List.mem_of_mem_drop hc
  have e : colV (yr T) len c.nm args = colV T len c.nm args := by
   unfold colV cellOf
   rw [ZD nT hc', ZD (Y5 nT) hc]
   rfl
  rw [e]
  exact .op hc' hl ih
theorem Js (ks : List (List Nat)) (col : List Nat) : ((ks.map fun k => k.map nV).any fun c => Qv c (col.map nV)) = decide (col ∈ ks) := by
 induction ks with
 | nil => rfl
 | cons k ks ih =>
  rw [List.map_cons, List.any_cons, ih, eqVs_nV]
  by_cases h : k = col
  ·subst h
   simp
  ·have h2 : col ≠ k := fun z => h z.symm
   simp [h, h2]
theorem Qp {K : PySem.W.Frag} {H : Hp} {n : Nat} {ks : List (List Nat)} {bs : List V} (h : Paired (yw H) ks bs) (hn : ∀ k ∈ ks, k.length = n) : wR K H n (ks.map fun k => k.map nV) bs := by
 unfold wR
 induction h with
 | nil => exact .nil
 | @cons k v ks bs r _ ih =>
  obtain ⟨t, e, ht⟩ := r
  exact .cons ⟨t, e, SqT.of ht, by rw [List.length_map]; exact hn k List.mem_cons_self, jv _⟩ (ih fun k hk => hn k (List.mem_cons_of_mem _ hk))
theorem sd_len {T : Tb} {len : Nat} {B : List (List Nat)} (hB : ∀ b ∈ B, b.length = len) {col : List Nat} (h : Sd T len B col) : col.length = len := by
 cases h with
 | base h => exact hB _ h
 | op => unfold colV; rw [List.length_map, List.length_range]
theorem cut1 (xs : List V) : j5 xs (some 1) none = xs.drop 1 := by
 cases xs with
 | nil => rfl
 | cons x xs => exact Zb (by rw [List.length_cons]; omega)
theorem Qq {α β : Type} {F : α -> β -> Prop} : ∀ (n : Nat) {a : List α} {b : List β}, Paired F a b -> Paired F (a.drop n) (b.drop n)
 | 0, _, _, h => h
 | _ + 1, _, _, .nil => .nil
 | n + 1, _, _, .cons _ t => Qq n t
def Jt : Sp := fun vs H Q _ => ∃ (p : Addr) (v : V) (T : Tb) (ct : Addr) (cps : List (Str × List Nat)) (cvs : List V) (len : Nat) (kt : Addr) (kept : List Nat), vs = [.ref p, v, .ref ct, nV len, .ref kt] /\ Wel H p /\ J4 H v T /\ jU T /\ (jH T).Nodup /\ T.m <= 3 /\ H ct = some (.tup cvs) /\ PCs H cps cvs /\ cps.length <= 3 /\ (∀ p ∈ cps, Ltr p.1 /\ qM T.m len p.2) /\ 1 <= len /\ len <= 3 /\ H kt = some (.tup (kept.map nV)) /\ Sd T len (cps.map Prod.snd) kept /\ qM T.m len kept /\ ∀ H', Off p H H' -> Q (.bl true) H'
def colL (γ : Nat -> Str -> Nat) (len : Nat) (x : Str) : List Nat := (List.range len).map fun k => γ k x
theorem WU {H : Hp} {ct : Addr} {LT : List Str} {γ : Nat -> Str -> Nat} {len : Nat} {cps : List (Key × V)} {cvs : List V} (h : Ql H ct LT γ len cps cvs) : PCs H (LT.map fun x => (x, colL γ len x)) cvs := by
 obtain ⟨_, hpr, cpl, hget, _⟩ := h
 have hl := Paired.length hpr
 have go : ∀ (xs : List (Str × List Nat)) (vs : List V), xs.length = vs.length -> (∀ (i : Nat) (x : Str × List Nat) (v : V), xs[i]? = some x -> vs[i]? = some v -> ∃ t u, v = .ref t /\ H t = some (.tup [.str x.1, .ref u]) /\ H u = some (.tup (x.2.map nV))) -> PCs H xs vs := by
  intro xs
  induction xs with
  | nil =>
   intro vs e _
   cases vs with
   | nil => exact .nil
   | cons _ _ => cases e
  | cons x xs ih =>
   intro vs e h
   cases vs with
   | nil => cases e
   | cons v vs => exact .cons (h 0 x v rfl rfl) (ih vs (Nat.succ.inj e) fun i x v h1 h2 => h (i + 1) x v h1 h2)
 refine go _ _ (by rw [List.length_map]; omega) fun i x v h1 h2 => ?_
 rw [List.getElem?_map] at h1
 obtain ⟨y, hy, rfl⟩ := Option.map_eq_some_iff.mp h1
 obtain ⟨u, e1, e2⟩ := hget i y hy
 obtain ⟨b, e3, e4⟩ := Paired.at hpr i _ _ h2 e1
 exact ⟨b, u, e3, e4, e2⟩
theorem Y7 {T : Tb} {LT : List Str} (γ : Nat -> Str -> Nat) {ls : List Ln} (hG : jz T LT ls) (len : Nat) : ∀ (n : Nat) (l : Ln), ls[n]? = some l -> Sd T len (LT.map (colL γ len)) (jZ T γ ls len n) := by
 intro n
 induction n using Nat.strongRecOn with
 | ind n ih =>
  intro l hl
  have hg := hG n l hl
  cases l with
  | inl x =>
   rw [jK γ len hl]
   exact .base (List.mem_map.mpr ⟨x, hg, rfl⟩)
  | inr z =>
   obtain ⟨h1, c, hc, e1, e2⟩ := hg
   have hnl := (List.getElem?_eq_some_iff.mp hl).1
   have e : jZ T γ ls len n = colV T len c.nm (z.2.map fun m => jZ T γ ls len m) := by
    rw [ZE γ hG len hl, e1]
    unfold colV
    refine List.map_congr_left fun k hk => ?_
    have hk := List.mem_range.mp hk
    rw [List.map_map]
    congr 1
    exact List.map_congr_left fun m _ => (Qk T γ ls m hk).symm
   rw [e]
   refine .op hc (by rw [List.length_map, e2]) fun a ha => ?_
   obtain ⟨m, hm, rfl⟩ := List.mem_map.mp ha
   have hmn := h1 m hm
   exact ih m hmn _ (List.getElem?_eq_getElem (by omega))
theorem pq {v : Nat} (h : v < 2) : ∃ LT : List Str, j5 [V.str "p", V.str "q"] none (some (1 + (v : Int))) = LT.map V.str /\ 1 <= LT.length /\ LT.length <= 2 /\ LT.Nodup /\ Ls LT := by
 have lp : Ltr (Str.ofString "p") := YV (c := 112) (by decide +kernel) (by decide) (by decide)
 have lq : Ltr (Str.ofString "q") := YV (c := 113) (by decide +kernel) (by decide) (by decide)
 match v, h with
 | 0, _ => exact ⟨["p"], rfl, by decide, by decide, by decide +kernel, fun x hx => by rw [List.mem_singleton.mp hx]; exact lp⟩
 | 1, _ => exact ⟨["p", "q"], rfl, by decide, by decide, by decide +kernel, fun x hx => by
   rcases List.mem_cons.mp hx with rfl | hx
   ·exact lp
   ·rw [List.mem_singleton.mp hx]; exact lq⟩
theorem at_end {xs : List Nat} (h : 1 <= xs.length) : atI (xs.map nV) (-1) = some (nV (Tn.at' xs (xs.length - 1))) := by
 rcases List.eq_nil_or_concat xs with rfl | ⟨ys, y, rfl⟩
 ·simp at h
 rw [List.concat_eq_append] at *
 rw [List.map_append, show ([y].map nV) = [nV y] from rfl, Wx]
 congr 1
 unfold Tn.at'
 rw [List.getD_eq_getElem?_getD, List.length_append, List.getElem?_append_right (by show ys.length <= ys.length + 1 - 1; omega)]
 show nV y = nV (([y][ys.length + 1 - 1 - ys.length]?).getD 0)
 rw [show ys.length + 1 - 1 - ys.length = 0 by omega]
 rfl
theorem tk_off {kd : Addr} {H H' : Hp} {xs : List V} (h : H kd = some (.lst xs)) (o : Off kd H H') : Tk H H' := fun b ys e => o b _ (yA e h (by intro z; cases z)) e
def Qr : Sp := fun vs H Q _ => ∃ (p : Addr), vs = [.ref p] /\ Wel H p /\ ∀ H', Off p H H' -> Q (.bl true) H'
def top (i : Nat) : Stmt := PySem.Challenge.pw_truthgrades_k27_whole_what_is_said.main.body.getD i (.Pass ⟨0, 0, 0, 0⟩)
structure Gb (mg : Str -> Option Value) : Prop where
 «abs» : mg "abs" = none
 «range» : mg "range" = none
 «tuple» : mg "tuple" = none
 «list» : mg "list" = none
 «isinstance» : mg "isinstance" = none
 «int» : mg "int" = none
 «str» : mg "str" = none
 «len» : mg "len" = none
 «min» : mg "min" = none
 «max» : mg "max" = none
 «all» : mg "all" = none
 «any» : mg "any" = none
 «bool» : mg "bool" = none
 «divmod» : mg "divmod" = none
 «dict» : mg "dict" = none
 «sorted» : mg "sorted" = none
 «reversed» : mg "reversed" = none
 «zip» : mg "zip" = none
 «set» : mg "set" = none
 «MOST_COLUMNS» : ∃ u, mg "MOST_COLUMNS" = some u /\ RelV (.int 81) u
structure Cl (K : PySem.W.Frag) (mg : Str -> Option Value) (c : Nat -> Addr) : Prop where
 g_TooMany : mg "TooMany" = some (.ref (c 0))
abbrev zu : Stmt := top 7
theorem jA : zH ["text"] ["text"] (zg zu) := ⟨rfl, rfl, rfl, by decide +kernel, rfl, by decide +kernel, by decide +kernel⟩
theorem jB {P : Program} {w : World} {K : PySem.W.Frag} {mg : Str -> Option Value} {base : Heap} {f : Addr} {fd : FuncData} (F : Fun K "has_small_letters_alone" "has_small_letters_alone" zu f fd) (gb : Gb mg) {c : Nat -> Addr} (cl : Cl K mg c) : jY P w K mg base CX0 1 f fd ["text"] We := by
 refine F.ok jA (fun vs H Q E h => ?_) (fun cdv A outer s H vs Q E hr h => ?_)
 ·obtain ⟨x, rfl, _⟩ := h
  rfl
 obtain ⟨x, rfl, hs, hl, q⟩ := h
 have nd0 : (["sign"] : List Str).Nodup := by decide +kernel
 refine ⟨_, (@zm _ _ _ (@zP _ _ _ _ (@zA _ _ _ _ _ _ _ _ _ (@Z7 _ K rfl (by rfl)) rfl gb.all yZ (@za _ _ _ _ _ (@zX _ ["sign"] [none] _ _ _ _ _ _ _ _ _ _ (by exact (show zN ["text"] (zg zu) ["sign"] [none] _ from ⟨rfl, by decide +kernel, by decide +kernel, by decide +kernel, by decide +kernel, rfl, by decide +kernel⟩)) rfl (@pi_str _ _ _ _ (@pv _ 0 _ _ (by rfl) (by walk_at "v") (by decide) (by decide))) (fun _ _ _ _ => (@zp _ _ 0 _ nd0 rfl (Or.inl rfl) (by walk_at "f"))) (fun _ _ _ _ => (@qi _)) (fun _ _ _ _ => (@pe_chain _ _ _ _ _ _ _ _ _ _ _ _ (@JQ _) (@JQ _) (@qz _ _ _ _) (@pv _ 0 _ _ (by rfl) (by walk_at "v") (by decide) (by decide)) (@qz _ _ _ _) (by with_unfolding_all rfl))) (by intro _; rfl)) (@ze _) (by rfl)) (by decide) (by decide) (by rfl) (by rfl)))), ?_⟩
 refine ⟨_, rfl, x, rfl, fun D hD => ?_⟩
 refine map_str (h := fun _ => .bl true) (by omega) hD (fun c hc H' Q' s1 q' => ?_) (fun H' s1 hD' => ?_)
 ·obtain ⟨c0, c1⟩ := hs c hc
  refine ⟨_, rfl, _, _, rfl, rfl, _, rfl, ?_⟩
  have e1 : (!decide ((Str.mk #[c]).cps.toList < (Str.ofString "a").cps.toList)) = true := by
   have : (Str.ofString "a").cps.toList = [97] := by decide +kernel
   rw [this]
   simp [List.cons_lt_cons_iff]
   omega
  have e2 : (!decide ((Str.ofString "z").cps.toList < (Str.mk #[c]).cps.toList)) = true := by
   have : (Str.ofString "z").cps.toList = [122] := by decide +kernel
   rw [this]
   simp [List.cons_lt_cons_iff]
   omega
  rw [if_pos e1]
  refine ⟨_, _, rfl, rfl, ?_⟩
  rw [e2]
  exact q' _ zR.rfl'
 ·rw [trues] at hD'
  refine ⟨D, _, rfl, SqL.of hD', ?_⟩
  rw [y6]
  exact q _ s1
abbrev jc : Stmt := top 6
theorem wd : zH ["thing"] ["thing"] (zg jc) := ⟨rfl, rfl, rfl, by decide +kernel, rfl, by decide +kernel, by decide +kernel⟩
theorem we {P : Program} {w : World} {K : PySem.W.Frag} {mg : Str -> Option Value} {base : Heap} {f : Addr} {fd : FuncData} (F : Fun K "is_letter" "is_letter" jc f fd) (gb : Gb mg) {c : Nat -> Addr} (cl : Cl K mg c) (d_has_small_letters_alone : Def P w K mg base 1 "has_small_letters_alone" ["text"] We) : jY P w K mg base CX0 2 f fd ["thing"] Qj := by
 refine F.ok wd (fun vs H Q E h => ?_) (fun cdv A outer s H vs Q E hr h => ?_)
 ·obtain ⟨v, l, rfl, _⟩ := h
  rfl
 obtain ⟨v, l, rfl, ih, hl, q⟩ := h
 refine ⟨_, (@zm _ _ _ (@zP _ _ _ _ (@pe_and _ _ _ _ _ _ _ (@zA _ _ _ _ _ _ _ _ _ (@QN _ K (by rfl)) rfl gb.isinstance Zy (@za _ _ _ _ _ (@pv _ 0 _ _ (by rfl) (by walk_at "v") (by decide) (by decide)) (@za _ _ _ _ _ (@yC _ _ (.ty "str") _ _ rfl gb.str bt_str rfl (by decide) (by decide)) (@ze _) (by rfl)) (by rfl)) (by decide) (by decide) (by rfl) (by rfl)) (@pe_and _ _ _ _ _ _ _ (@Z1 _ _ _ _ _ _ _ _ (@Zg _) (@zA _ _ _ _ _ _ _ _ _ (@qf _ K (by rfl)) rfl gb.len jg (@za _ _ _ _ _ (@pv _ 0 _ _ (by rfl) (by walk_at "v") (by decide) (by decide)) (@ze _) (by rfl)) (by decide) (by decide) (by rfl) (by rfl)) (@zj _ _ _ _) (@qh _ _ (by decide) (by decide))) (@pe_one _ _ _ _ _ (@zr _ _ _ _ _ _ _ _ _ _ _ d_has_small_letters_alone hr (by omega) rfl (@za _ _ _ _ _ (@pv _ 0 _ _ (by rfl) (by walk_at "v") (by decide) (by decide)) (@ze _) (by rfl)) (by decide) (by rfl) (by rfl))))))), ?_⟩
 refine ⟨_, rfl, ?_⟩
 cases l with
 | inl x =>
  obtain rfl : v = .str x := ih
  obtain ⟨l1, sm⟩ := hl x rfl
  refine ⟨_, _, _, true, rfl, .str _, Q4 "str", true, rfl, yv ?_⟩
  refine ⟨_, rfl, _, x.length, rfl, ⟨zy (by omega), rfl⟩, rfl, true, ?_, yv ?_⟩
  ·rw [l1]
   rfl
  ·exact ⟨_, rfl, x, rfl, sm, by omega, fun H' s1 => q H' s1⟩
 | inr z =>
  obtain ⟨t, rfl, ht⟩ := ih
  exact ⟨_, _, _, false, rfl, .tup ht, y8 (K := K) (.tup []), false, rfl, Wz (q H (zR.refl H))⟩
abbrev qx : Stmt := top 9
theorem qX : zH ["lines", "needed", "waiting", "number"] ["lines"] (zg qx) := ⟨rfl, rfl, rfl, by decide +kernel, rfl, by decide +kernel, by decide +kernel⟩
theorem Qs {P : Program} {w : World} {K : PySem.W.Frag} {mg : Str -> Option Value} {base : Heap} {f : Addr} {fd : FuncData} (F : Fun K "needed_lines" "needed_lines" qx f fd) (gb : Gb mg) {c : Nat -> Addr} (cl : Cl K mg c) (d_is_letter : Def P w K mg base 2 "is_letter" ["thing"] Qj) : jY P w K mg base CX0 3 f fd ["lines"] WM := by
 refine F.ok qX (fun vs H Q E h => ?_) (fun cdv A outer s H vs Q E hr h => ?_)
 ·obtain ⟨lt, us, ls, T, LT, rfl, _⟩ := h
  rfl
 obtain ⟨lt, us, ls, T, LT, rfl, hlt, hls, hG, g2, hL, l1, l20, q⟩ := h
 refine ⟨_, (@zh _ _ _ _ _ (@zv _ _ 1 _ _ _ _ qX.nd rfl (Or.inl rfl) (@WF _ _) (by rfl) (by walk_at "f")) (@zh _ _ _ _ _ (@zv _ _ 2 _ _ _ _ qX.nd rfl (Or.inl rfl) (@q5 _ _ _ _ (@za _ _ _ _ _ (@zO _ _ _ _ _ _ _ _ (@QI _) (@zA _ _ _ _ _ _ _ _ _ (@qf _ K (by rfl)) rfl gb.len jg (@za _ _ _ _ _ (@pv _ 0 _ _ (by rfl) (by walk_at "v") (by decide) (by decide)) (@ze _) (by rfl)) (by decide) (by decide) (by rfl) (by rfl)) (@zj _ _ _ _)) (@ze _) (by rfl))) (by rfl) (by walk_at "f")) (@zh _ _ _ _ _ (@Wt _ _ _ _ _ _ PassesOwn.never (@zL _ _ _ _ _ _ _ _ (@op_gt _) (@zA _ _ _ _ _ _ _ _ _ (@qf _ K (by rfl)) rfl gb.len jg (@za _ _ _ _ _ (@pv _ 2 _ _ (by rfl) (by walk_at "v") (by decide) (by decide)) (@ze _) (by rfl)) (by decide) (by decide) (by rfl) (by rfl)) (@zj _ _ _ _) (@qh _ _ (by decide) (by decide))) (@zh _ _ _ _ _ (@zv _ _ 3 _ _ _ _ qX.nd rfl (Or.inl rfl) (@kpe_bm0 _ K _ _ _ _ _ _ _ _ PySem.F.plainAttrs_list PySem.F.slot_list_pop PySem.F.type_list_pop (@mt_pop _) (@pv _ 2 _ _ (by rfl) (by walk_at "v") (by decide) (by decide)) (by rfl) (by rfl) (by rfl)) (by rfl) (by walk_at "f")) (@zm _ _ _ (@jk _ _ _ _ _ _ _ _ (@zL _ _ _ _ _ _ _ _ (@JZ _ _ hr) (@pv _ 3 _ _ (by rfl) (by walk_at "v") (by decide) (by decide)) (@pv _ 1 _ _ (by rfl) (by walk_at "v") (by decide) (by decide)) (by with_unfolding_all rfl)) (@zh _ _ _ _ _ (@Yj _ _ _ _ _ _ _ _ _ _ hr (@pv _ 1 _ _ (by rfl) (by walk_at "v") (by decide) (by decide)) (@pv _ 3 _ _ (by rfl) (by walk_at "v") (by decide) (by decide)) (@wz _ _ _ _) rfl) (@zm _ _ _ (@jk _ _ _ _ _ _ _ _ (@yF _ _ _ _ (@ZZ _ _ _ (@zr _ _ _ _ _ _ _ _ _ _ _ d_is_letter hr (by omega) rfl (@za _ _ _ _ _ (@zQ _ _ _ _ _ _ _ (@zq _ K (by rfl)) (@pv _ 0 _ _ (by rfl) (by walk_at "v") (by decide) (by decide)) (@pv _ 3 _ _ (by rfl) (by walk_at "v") (by decide) (by decide)) (fun _ _ => rfl)) (@ze _) (by rfl)) (by decide) (by rfl) (by rfl)) (by intro _; rfl))) (@zm _ _ _ (@qy _ _ _ _ (@jD _ K _ _ _ _ _ _ _ _ _ _ _ PySem.F.plainAttrs_list PySem.F.slot_list_extend PySem.F.type_list_extend (@Z3 _) (@pv _ 2 _ _ (by rfl) (by walk_at "v") (by decide) (by decide)) (@za _ _ _ _ _ (@yb _ K _ _ _ _ _ _ rfl gb.list rfl gb.reversed (@za _ _ _ _ _ (@qO _ _ _ _ _ _ _ _ _ _ (@kslT _ K (by rfl)) (@zQ _ _ _ _ _ _ _ (@zq _ K (by rfl)) (@pv _ 0 _ _ (by rfl) (by walk_at "v") (by decide) (by decide)) (@pv _ 3 _ _ (by rfl) (by walk_at "v") (by decide) (by decide)) (fun _ _ => rfl)) (@ja _ _ _ (@zj _ _ _ _)) (@jt _)) (@ze _) (by rfl)) (by rfl) (by rfl) (by rfl) (by rfl)) (@ze _) (by rfl)) (by rfl) (by rfl) (by rfl) (by rfl) (by rfl) (by rfl)) (by rfl))) (@zW _)))) (@zW _))))) (@zm _ _ _ (@zP _ _ _ _ (@zx _ _ _ _ _ _ _ _ _ (@yf _ rfl) rfl gb.list j7 (@za _ _ _ _ _ (@pv _ 1 _ _ (by rfl) (by walk_at "v") (by decide) (by decide)) (@ze _) (by rfl)) (by decide) (by decide) (by rfl) (by rfl))))))), ?_⟩
 refine fun nd hnd => ?_
 have n1 := zf hnd (.dK [])
 have hul := Paired.length hls
 refine ⟨_, rfl, _, _, rfl, (hlt.same n1).len, _, _, rfl, rfl, zy (by show 1 <= 1000; decide), fun wa hwa => ?_⟩
 dsimp only
 have ew : V.int (((us.length : Nat) : Int) - 1) = nV (ls.length - 1) := by
  show V.int _ = V.int _
  congr 1
  omega
 rw [ew]
 have n2 := zf hwa (.lst [nV (ls.length - 1)])
 have nw : nd ≠ wa := zF zd hwa
 refine ⟨fun m σ H' => (∃ x3, σ = [some (.ref lt), some (.ref nd), some (.ref wa), x3]) /\ zR H H' /\ ∃ ns ws : List Nat, H' nd = some (.dK (nd1 ns)) /\ H' wa = some (.lst (ws.map nV)) /\ ns.Nodup /\ (∀ n ∈ ns, n < ls.length) /\ (∀ n ∈ ws, n < ls.length) /\ (ls.length - 1 ∈ ns \/ ls.length - 1 ∈ ws) /\ (∀ n ∈ ns, ∀ z, ls[n]? = some (.inr z) -> ∀ k ∈ z.2, k ∈ ns \/ k ∈ ws) /\ m = 3 * (ls.length - ns.length) + ws.length /\ m <= 100, ⟨_, ⟨_, rfl⟩, n1.trans n2, [], [ls.length - 1], n2 _ _ zd, zd, .nil, (fun n hn => by cases hn), (fun n hn => by rw [List.mem_singleton.mp hn]; omega), .inr (List.mem_singleton.mpr rfl), (fun n hn => by cases hn), rfl, by show 3 * (ls.length - 0) + 1 <= 100; omega⟩, ?_⟩
 rintro m σ H1 ⟨⟨x3, rfl⟩, s1, ns, ws, hnd1, hwa1, nN, nlt, wlt, hlast, hcl, hm, m100⟩
 have nsl := Tn.nodup_len ls.length ns nN nlt
 refine ⟨_, rfl, _, _, rfl, .inl ⟨_, SqL.of hwa1, rfl⟩, _, _, rfl, rfl, _, rfl, ?_⟩
 rw [List.length_map]
 rcases List.eq_nil_or_concat ws with rfl | ⟨ws, k, rfl⟩
 ·refine iteDF rfl ?_
  refine ⟨_, rfl, nd, _, rfl, hnd1, by unfold nd1; rw [List.length_map]; omega, fun l hl => ?_⟩
  rw [nd1_keys]
  refine q l ns _ (s1.trans (zf hl _)) zd ⟨nN, nlt, hlast.elim id (fun h => by cases h), fun n hn z hz j hj => (hcl n hn z hz j hj).elim id (fun h => by cases h)⟩
 rw [List.concat_eq_append] at *
 refine iteDT (decide_eq_true (by rw [List.length_append]; show (0 : Int) < ((ws.length + 1 : Nat) : Int); omega)) ?_
 rw [List.length_append] at hm
 have hm : m = 3 * (ls.length - ns.length) + (ws.length + 1) := hm
 have klt := wlt k (by simp)
 have wlt' : ∀ n ∈ ws, n < ls.length := fun n hn => wlt n (List.mem_append_left _ hn)
 refine ⟨fun σ' H' => ∃ m', m' < m /\ ((∃ x3, σ' = [some (.ref lt), some (.ref nd), some (.ref wa), x3]) /\ zR H H' /\ ∃ ns ws : List Nat, H' nd = some (.dK (nd1 ns)) /\ H' wa = some (.lst (ws.map nV)) /\ ns.Nodup /\ (∀ n ∈ ns, n < ls.length) /\ (∀ n ∈ ws, n < ls.length) /\ (ls.length - 1 ∈ ns \/ ls.length - 1 ∈ ws) /\ (∀ n ∈ ns, ∀ z, ls[n]? = some (.inr z) -> ∀ k ∈ z.2, k ∈ ns \/ k ∈ ws) /\ m' = 3 * (ls.length - ns.length) + ws.length /\ m' <= 100), fun σ' H' h => h, ?_⟩
 refine ⟨_, rfl, .inl ⟨rfl, _, SqL.of hwa1⟩, wa, _, nV k, rfl, rfl, hwa1, by simp, ?_⟩
 rw [show (List.map nV (ws ++ [k])).dropLast = ws.map nV by rw [List.map_append]; simp]
 have hnd2 : (upd H1 wa (.lst (ws.map nV))) nd = some (.dK (nd1 ns)) := by rw [zE nw]; exact hnd1
 have s2 : zR H (upd H1 wa (.lst (ws.map nV))) := s1.put (n1.free hwa)
 have hwa2 : (upd H1 wa (.lst (ws.map nV))) wa = some (.lst (ws.map nV)) := zd
 generalize upd H1 wa (.lst (ws.map nV)) = H2 at *
 refine ⟨_, rfl, _, rfl, nd, _, Sum.inl (k : Int), rfl, rfl, hnd2, ?_⟩
 rw [Wg]
 by_cases hk : k ∈ ns
 ·rw [decide_eq_true hk]
  refine ⟨_, rfl, Wz ⟨m - 1, by omega, ⟨_, rfl⟩, s2, ns, ws, hnd2, hwa2, nN, nlt, wlt', ?_, fun n hn z hz j hj => ?_, by omega, by omega⟩⟩
  ·rcases hlast with h | h
   ·exact .inl h
   ·rcases List.mem_append.mp h with h | h
    ·exact .inr h
    ·rw [List.mem_singleton.mp h]
     exact .inl hk
  ·rcases hcl n hn z hz j hj with h | h
   ·exact .inl h
   ·rcases List.mem_append.mp h with h | h
    ·exact .inr h
    ·rw [List.mem_singleton.mp h]
     exact .inl hk
 rw [decide_eq_false hk]
 refine ⟨_, rfl, yv ?_⟩
 have nN' : (ns ++ [k]).Nodup := List.nodup_append.mpr ⟨nN, by simp, fun a ha b hb e => hk (by rw [<- List.mem_singleton.mp hb, <- e]; exact ha)⟩
 have nlt' : ∀ n ∈ ns ++ [k], n < ls.length := fun n hn => by
  rcases List.mem_append.mp hn with h | h
  ·exact nlt n h
  ·rw [List.mem_singleton.mp h]
   exact klt
 have nsl' := Tn.nodup_len ls.length (ns ++ [k]) nN' nlt'
 rw [List.length_append] at nsl'
 have nsl' : ns.length + 1 <= ls.length := nsl'
 refine ⟨_, rfl, _, rfl, nd, _, Sum.inl (k : Int), rfl, rfl, hnd2, by unfold nd1; rw [List.length_map]; exact zo (by omega), ?_⟩
 rw [nd1_put hk]
 have s3 : zR H (upd H2 nd (.dK (nd1 (ns ++ [k])))) := s2.put hnd
 have hnd3 : (upd H2 nd (.dK (nd1 (ns ++ [k])))) nd = some (.dK (nd1 (ns ++ [k]))) := zd
 have hwa3 : (upd H2 nd (.dK (nd1 (ns ++ [k])))) wa = some (.lst (ws.map nV)) := by rw [zE (Ne.symm nw)]; exact hwa2
 generalize upd H2 nd (.dK (nd1 (ns ++ [k]))) = H3 at *
 have hlk : ls[k]? = some ls[k] := List.getElem?_eq_getElem klt
 generalize ls[k] = l at hlk
 have huk : us[k]? = some us[k] := List.getElem?_eq_getElem (by omega)
 generalize us[k] = u at huk
 have iu := Paired.at hls k _ _ hlk huk
 have last' : ls.length - 1 ∈ ns ++ [k] \/ ls.length - 1 ∈ ws := by
  rcases hlast with h | h
  ·exact .inl (List.mem_append_left _ h)
  ·rcases List.mem_append.mp h with h | h
   ·exact .inr h
   ·exact .inl (List.mem_append_right _ h)
 have old : ∀ n ∈ ns, ∀ z, ls[n]? = some (.inr z) -> ∀ j ∈ z.2, j ∈ ns ++ [k] \/ j ∈ ws := fun n hn z hz j hj => by
  rcases hcl n hn z hz j hj with h | h
  ·exact .inl (List.mem_append_left _ h)
  ·rcases List.mem_append.mp h with h | h
   ·exact .inr h
   ·exact .inl (List.mem_append_right _ h)
 refine ⟨_, rfl, _, rfl, (hlt.same s3).ix huk ?_⟩
 refine ⟨u, l, rfl, iu.tk (Tk.of s3), hG.ltr hL hlk, fun H4 s4 => ⟨_, rfl, ?_⟩⟩
 cases l with
 | inl x =>
  have dec : 3 * (ls.length - (ns ++ [k]).length) + ws.length < m := by
   rw [List.length_append]
   show 3 * (ls.length - (ns.length + 1)) + ws.length < m
   omega
  refine Wz ⟨3 * (ls.length - (ns ++ [k]).length) + ws.length, dec, ⟨_, rfl⟩, s3.trans s4, ns ++ [k], ws, s4 _ _ hnd3, s4 _ _ hwa3, nN', nlt', wlt', last', fun n hn z hz j hj => ?_, rfl, by omega⟩
  rcases List.mem_append.mp hn with h | h
  ·exact old n h z hz j hj
  ·rw [List.mem_singleton.mp h, hlk] at hz
   cases hz
 | inr z =>
  refine yv ?_
  obtain ⟨t, rfl, ht⟩ := iu
  have ht4 := (s3.trans s4) _ _ ht
  obtain ⟨zb, c, hc, cn, cp⟩ := hG k _ hlk
  have z2 : z.2.length <= 2 := by
   have := g2 c hc
   omega
  have dec : 3 * (ls.length - (ns ++ [k]).length) + (ws ++ z.2.reverse).length < m := by
   rw [List.length_append, List.length_append, List.length_reverse]
   show 3 * (ls.length - (ns.length + 1)) + (ws.length + z.2.length) < m
   omega
  refine ⟨_, rfl, .inl ⟨rfl, _, SqL.of (s4 _ _ hwa3)⟩, _, rfl, _, rfl, (hlt.same (s3.trans s4)).ix huk ⟨_, rfl, ?_⟩⟩
  refine J5 ht4 fun t5 H5 s5 ht5 => ?_
  rw [Zb (by simp)] at ht5
  refine ⟨t5, z.2.map nV, rfl, SqT.of ht5, by rw [List.length_map]; omega, fun l6 hl6 => ?_⟩
  have n6 := zf hl6 (.lst (z.2.map nV).reverse)
  have s6 := s4.trans (s5.trans n6)
  have hw6 := s6 _ _ hwa3
  refine ⟨wa, l6, _, _, rfl, rfl, hw6, zd, by rw [List.length_map, List.length_reverse, List.length_map]; exact zy (by omega), ⟨3 * (ls.length - (ns ++ [k]).length) + (ws ++ z.2.reverse).length, dec, ⟨_, rfl⟩, (s3.trans s6).put (n1.free hwa), ns ++ [k], ws ++ z.2.reverse, ?_, ?_, nN', nlt', fun n hn => ?_, ?_, fun n hn z' hz' j hj => ?_, rfl, by omega⟩⟩
  ·rw [zE nw]
   exact s6 _ _ hnd3
  ·rw [zd, List.map_append, List.map_reverse]
  ·rcases List.mem_append.mp hn with h | h
   ·exact wlt' n h
   ·have := zb n (List.mem_reverse.mp h)
    omega
  ·exact last'.imp id (List.mem_append_left _)
  ·rcases List.mem_append.mp hn with h | h
   ·exact (old n h z' hz' j hj).imp id (List.mem_append_left _)
   ·rw [List.mem_singleton.mp h, hlk] at hz'
    cases hz'
    exact .inr (List.mem_append_right _ (List.mem_reverse.mpr hj))
abbrev zV : Stmt := top 11
theorem ZO : zH ["H"] ["H"] (zg zV) := ⟨rfl, rfl, rfl, by decide +kernel, rfl, by decide +kernel, by decide +kernel⟩
theorem ZP {P : Program} {w : World} {K : PySem.W.Frag} {mg : Str -> Option Value} {base : Heap} {f : Addr} {fd : FuncData} (F : Fun K "cells_by_name" "cells_by_name" zV f fd) (gb : Gb mg) {c : Nat -> Addr} (cl : Cl K mg c) : jY P w K mg base CX0 1 f fd ["H"] spCbn := by
 refine F.ok ZO (fun vs H Q E h => ?_) (fun cdv A outer s H vs Q E hr h => ?_)
 ·obtain ⟨v, T, rfl, _⟩ := h
  rfl
 obtain ⟨v, T, rfl, ia, gT, nT, q⟩ := h
 have nd0 : (["name", "places", "cells"] : List Str).Nodup := by decide +kernel
 refine ⟨_, (@zm _ _ _ (@zP _ _ _ _ (@Ym _ _ hr _ _ _ _ rfl gb.dict (@za _ _ _ _ _ (@zX _ ["name", "places", "cells"] [none, none, none] _ _ _ _ _ _ _ _ _ _ (by exact (show zN ["H"] (zg zV) ["name", "places", "cells"] [none, none, none] _ from ⟨rfl, by decide +kernel, by decide +kernel, by decide +kernel, by decide +kernel, rfl, by decide +kernel⟩)) rfl (@ji _ K _ _ _ (@zQ _ _ _ _ _ _ _ (@zq _ K (by rfl)) (@pv _ 0 _ _ (by rfl) (by walk_at "v") (by decide) (by decide)) (@zj _ _ _ _) (fun _ _ => rfl)) (by rfl)) (fun _ _ _ _ => (@jP _ K _ _ _ _ 3 rfl (@zK _ _ _ _ _ (@zp _ _ 0 _ nd0 rfl (Or.inl rfl) (by walk_at "f")) (@zK _ _ _ _ _ (@zp _ _ 1 _ nd0 rfl (Or.inl rfl) (by walk_at "f")) (@zK _ _ _ _ _ (@zp _ _ 2 _ nd0 rfl (Or.inl rfl) (by walk_at "f")) (@jM _) (by rfl)) (by rfl)) (by rfl)) (by rfl) (by rfl) (by rfl))) (fun _ _ _ _ => (@qi _)) (fun _ _ _ _ => (@qB _ _ _ _ _ (@za _ _ _ _ _ (@qB _ _ _ _ _ (@za _ _ _ _ _ (@pv _ 0 _ _ (by rfl) (by walk_at "v") (by decide) (by decide)) (@za _ _ _ _ _ (@pv _ 1 _ _ (by rfl) (by walk_at "v") (by decide) (by decide)) (@ze _) (by rfl)) (by rfl))) (@za _ _ _ _ _ (@pv _ 2 _ _ (by rfl) (by walk_at "v") (by decide) (by decide)) (@ze _) (by rfl)) (by rfl)))) (by intro _; rfl)) (@ze _) (by rfl)) (by rfl) (by rfl)))), ?_⟩
 obtain ⟨a, w0, c, vs, rfl, h1, h2, h3, h4⟩ := id ia
 have gcl := gT.cl
 have gx : ∀ i, ∃ t u : Addr, i < T.cs.length -> vs[i]? = some (.ref t) /\ H t = some (.tup [.str (T.cs.getD i d0).nm, nV (T.cs.getD i d0).pl, .ref u]) /\ H u = some (.tup ((T.cs.getD i d0).cs.map nV)) := fun i => by
  by_cases hi : i < T.cs.length
  ·have hc : T.cs[i]? = some (T.cs.getD i d0) := by simp [List.getD, hi]
   obtain ⟨t, u, h⟩ := h4.get hc
   exact ⟨t, u, fun _ => h⟩
  ·exact ⟨0, 0, fun h => absurd h hi⟩
 obtain ⟨ad, gx⟩ := Classical.axiomOfChoice gx
 obtain ⟨au, gx⟩ := Classical.axiomOfChoice gx
 have ge : ∀ i, i < T.cs.length -> T.cs[i]? = some (T.cs.getD i d0) := fun i hi => by simp [List.getD, hi]
 refine ⟨_, rfl, .inr (.inl ⟨a, _, 2, _, rfl, rfl, SqT.of h1, rfl, c, rfl, ⟨_, SqT.of h3⟩, fun D hD => ?_⟩)⟩
 refine Z9 (n := T.cs.length) (ad := ad) (v1 := fun i => .str (T.cs.getD i d0).nm) (v2 := fun i => nV (T.cs.getD i d0).pl) (v3 := fun i => .ref (au i)) (more := []) (fun i ys H' => zR H H' /\ ys.length = i /\ wT H' ys (ctOf T au i)) ⟨zf hD _, rfl, .nil⟩ h4.len.symm (fun i hi => (gx i hi).1) (fun i ys H' h _ => SqT.of (h.1 _ _ h3)) (fun i ys H' hi h => SqT.of (h.1 _ _ (gx i hi).2.1)) ?_ ?_
 ·rintro i ys H1 hi ⟨s1, yl, hP⟩ hD1
  refine yes ⟨_, rfl, _, rfl, zy (by show 2 <= 1000; decide), fun t1 ht1 => ?_⟩
  have n1 := zf ht1 (.tup [.str (T.cs.getD i d0).nm, nV (T.cs.getD i d0).pl])
  refine ⟨_, rfl, zy (by show 2 <= 1000; decide), fun t2 ht2 => ?_⟩
  have n2 := zf ht2 (.tup [.ref t1, .ref (au i)])
  have hD2 := n2 _ _ (n1 _ _ hD1)
  refine ZL hi ⟨_, _, _, rfl⟩ hD2 (zo (by omega)) ⟨(s1.trans (n1.trans n2)).put hD, by rw [List.length_append, yl]; rfl, ?_⟩
  rw [ct_snoc]
  exact wT.snoc (p := (yx (T.cs.getD i d0), .ref (au i))) (wT.tk (Tk.put hD2) (wT.tk (Tk.of (n1.trans n2)) hP)) (Tk.put hD2 _ _ zd) (Tk.put hD2 _ _ (n2 _ _ zd))
 ·rintro ys H1 ⟨s1, yl, hP⟩ hD1
  refine ⟨D, ys, _, rfl, hD1, hP, fun e he => q e _ (s1.trans (zf he _)) ⟨_, zd, fun cc hcc => ?_⟩⟩
  obtain ⟨i, hi⟩ := List.mem_iff_getElem?.mp hcc
  have hil := (List.getElem?_eq_some_iff.mp hi).1
  have en : T.cs.getD i d0 = cc := by
   have := ge i hil
   rw [hi] at this
   exact (Option.some.inj this).symm
  refine ⟨au i, ?_, ?_⟩
  ·rw [<- en]
   exact Yo (ctOf T au T.cs.length) [] (yx (T.cs.getD i d0), .ref (au i)) (ct_nd nT) (List.mem_map.mpr ⟨i, List.mem_range.mpr hil, rfl⟩)
  ·rw [<- en]
   exact (s1.trans (zf he _)) _ _ (gx i hil).2.2
abbrev qJ : Stmt := top 12
theorem Zo : zH ["shapes", "parts", "part"] ["shapes", "parts"] (zg qJ) := ⟨rfl, rfl, rfl, by decide +kernel, rfl, by decide +kernel, by decide +kernel⟩
theorem QC {P : Program} {w : World} {K : PySem.W.Frag} {mg : Str -> Option Value} {base : Heap} {f : Addr} {fd : FuncData} (F : Fun K "check_names" "check_names" qJ f fd) (gb : Gb mg) {c : Nat -> Addr} (cl : Cl K mg c) (d_is_letter : Def P w K mg base 2 "is_letter" ["thing"] Qj) : jY P w K mg base CX0 3 f fd ["shapes", "parts"] YL := by
 refine F.ok Zo (fun vs H Q E h => ?_) (fun cdv A outer s H vs Q E hr h => ?_)
 ·obtain ⟨e', l, us, ss, T, LT, rfl, _⟩ := h
  rfl
 obtain ⟨e', l, us, ss, T, LT, rfl, hcd, hl, hP, gS, hL, q⟩ := h
 refine ⟨_, (@zm _ _ _ (@qU _ _ _ _ _ _ _ _ PassesOwn.never rfl (@zZ _ K _ _ _ (@pv _ 1 _ _ (by rfl) (by walk_at "v") (by decide) (by decide)) (by rfl)) (@zp _ _ 2 _ Zo.nd rfl (Or.inl rfl) (by walk_at "f")) (@zm _ _ _ (@jk _ _ _ _ _ _ _ _ (@PW.pt _ _ _ (@yD _ _ _ _ _ _ _ (@yF _ _ _ _ (@ZZ _ _ _ (@zr _ _ _ _ _ _ _ _ _ _ _ d_is_letter hr (by omega) rfl (@za _ _ _ _ _ (@pv _ 2 _ _ (by rfl) (by walk_at "v") (by decide) (by decide)) (@ze _) (by rfl)) (by decide) (by rfl) (by rfl)) (by intro _; rfl))) (@wD _ _ _ _ (@zL _ _ _ _ _ _ _ _ (@Qe _ _ hr) (@qB _ _ _ _ _ (@za _ _ _ _ _ (@zQ _ _ _ _ _ _ _ (@zq _ K (by rfl)) (@pv _ 2 _ _ (by rfl) (by walk_at "v") (by decide) (by decide)) (@zj _ _ _ _) (fun _ _ => rfl)) (@za _ _ _ _ _ (@zO _ _ _ _ _ _ _ _ (@QI _) (@zA _ _ _ _ _ _ _ _ _ (@qf _ K (by rfl)) rfl gb.len jg (@za _ _ _ _ _ (@pv _ 2 _ _ (by rfl) (by walk_at "v") (by decide) (by decide)) (@ze _) (by rfl)) (by decide) (by decide) (by rfl) (by rfl)) (@zj _ _ _ _)) (@ze _) (by rfl)) (by rfl))) (@pv _ 0 _ _ (by rfl) (by walk_at "v") (by decide) (by decide)) (by with_unfolding_all rfl))))) (@zm _ _ _ (@QZ _ _)) (@zW _))) (by intro _; rfl))), ?_⟩
 refine ⟨_, rfl, l, rfl, ⟨_, SqL.of hl⟩, ?_⟩
 refine qN (xs := us) (fun i σ H' => (∃ x2, σ = [some (.ref e'), some (.ref l), x2]) /\ zR H H') ⟨⟨_, rfl⟩, zR.refl _⟩ (fun i σ H' _ h => SqL.of (h.2 _ _ hl)) ?_ (fun σ H' h => q H' h.2)
 rintro i x σ H1 hx ⟨⟨x2, rfl⟩, s1⟩
 have hlen := Paired.length hP
 have hi := (List.getElem?_eq_some_iff.mp hx).1
 have hsi : ss[i]? = some ss[i] := List.getElem?_eq_getElem (by omega)
 generalize ss[i] = z at hsi
 have iz := Paired.at hP i _ _ hsi hx
 obtain ⟨ii, gz⟩ := gS z (List.mem_of_getElem? hsi)
 refine ⟨_, rfl, x, z, rfl, iz.tk (Tk.of s1), (fun y e => by rw [e] at gz; exact hL y gz), fun H2 s2 => ⟨_, rfl, ?_⟩⟩
 cases z with
 | inl y => exact ⟨⟨_, rfl⟩, s1.trans s2⟩
 | inr z =>
  obtain ⟨t, rfl, ht⟩ := iz
  obtain ⟨_, c, hc, cn, cp⟩ := gz
  have ht2 := s2 _ _ (s1 _ _ ht)
  obtain ⟨kvs, hk, hv⟩ := (hcd.same s1).same s2
  obtain ⟨u, e1, e2⟩ := hv c hc
  refine ⟨_, rfl, .inr (.inl ⟨t, _, _, _, rfl, rfl, SqT.of ht2, at0, _, rfl, _, _, rfl, .inr ⟨_, SqT.of ht2, rfl⟩, _, _, rfl, rfl, zy (by show 2 <= 1000; decide), fun t3 ht3 => ?_⟩)⟩
  have el : V.int (((.str z.1 :: z.2.map nV : List V).length : Int) - 1) = .int ((c.pl : Nat) : Int) := by
   rw [List.length_cons, List.length_map, cp]
   show V.int _ = V.int _
   congr 1
   omega
  dsimp only
  rw [el]
  have n3 := zf ht3 (.tup [.str z.1, .int ((c.pl : Nat) : Int)])
  refine ⟨_, rfl, e', t3, kvs, yx c, rfl, rfl, n3 _ _ hk, ?_, ?_⟩
  ·rw [zd]
   unfold yx
   rw [cn]
   rfl
  rw [e1]
  exact ⟨_, rfl, ⟨⟨_, rfl⟩, s1.trans (s2.trans n3)⟩⟩
abbrev qg : Stmt := top 13
theorem j0 : zH ["parts", "known", "part"] ["parts", "known"] (zg qg) := ⟨rfl, rfl, rfl, by decide +kernel, rfl, by decide +kernel, by decide +kernel⟩
theorem ZQ {P : Program} {w : World} {K : PySem.W.Frag} {mg : Str -> Option Value} {base : Heap} {f : Addr} {fd : FuncData} (F : Fun K "check_letters" "check_letters" qg f fd) (gb : Gb mg) {c : Nat -> Addr} (cl : Cl K mg c) (d_is_letter : Def P w K mg base 2 "is_letter" ["thing"] Qj) : jY P w K mg base CX0 3 f fd ["parts", "known"] YM := by
 refine F.ok j0 (fun vs H Q E h => ?_) (fun cdv A outer s H vs Q E hr h => ?_)
 ·obtain ⟨g, l, us, ss, LT, kvs, rfl, _⟩ := h
  rfl
 obtain ⟨g, l, us, ss, LT, kvs, rfl, hg, hl, hP, gS, hL, hv, q⟩ := h
 refine ⟨_, (@zm _ _ _ (@qU _ _ _ _ _ _ _ _ PassesOwn.never rfl (@zZ _ K _ _ _ (@pv _ 0 _ _ (by rfl) (by walk_at "v") (by decide) (by decide)) (by rfl)) (@zp _ _ 2 _ j0.nd rfl (Or.inl rfl) (by walk_at "f")) (@zm _ _ _ (@jk _ _ _ _ _ _ _ _ (@PW.pt _ _ _ (@yD _ _ _ _ _ _ _ (@ZZ _ _ _ (@zr _ _ _ _ _ _ _ _ _ _ _ d_is_letter hr (by omega) rfl (@za _ _ _ _ _ (@pv _ 2 _ _ (by rfl) (by walk_at "v") (by decide) (by decide)) (@ze _) (by rfl)) (by decide) (by rfl) (by rfl)) (by intro _; rfl)) (@wD _ _ _ _ (@zL _ _ _ _ _ _ _ _ (@JZ _ _ hr) (@pv _ 2 _ _ (by rfl) (by walk_at "v") (by decide) (by decide)) (@pv _ 1 _ _ (by rfl) (by walk_at "v") (by decide) (by decide)) (by with_unfolding_all rfl))))) (@zm _ _ _ (@QZ _ _)) (@zW _))) (by intro _; rfl))), ?_⟩
 refine ⟨_, rfl, l, rfl, ⟨_, SqL.of hl⟩, ?_⟩
 refine qN (xs := us) (fun i σ H' => (∃ x2, σ = [some (.ref l), some (.ref g), x2]) /\ zR H H') ⟨⟨_, rfl⟩, zR.refl _⟩ (fun i σ H' _ h => SqL.of (h.2 _ _ hl)) ?_ (fun σ H' h => q H' h.2)
 rintro i x σ H1 hx ⟨⟨x2, rfl⟩, s1⟩
 have hlen := Paired.length hP
 have hi := (List.getElem?_eq_some_iff.mp hx).1
 have hsi : ss[i]? = some ss[i] := List.getElem?_eq_getElem (by omega)
 generalize ss[i] = z at hsi
 have iz := Paired.at hP i _ _ hsi hx
 have gz := gS z (List.mem_of_getElem? hsi)
 refine ⟨_, rfl, x, z, rfl, iz.tk (Tk.of s1), (fun y e => hL y (gz y e)), fun H2 s2 => ⟨_, rfl, ?_⟩⟩
 cases z with
 | inr z => exact ⟨⟨_, rfl⟩, s1.trans s2⟩
 | inl y =>
  obtain rfl : x = .str y := iz
  refine ⟨_, rfl, _, rfl, g, kvs, Sum.inr y, rfl, rfl, (s1.trans s2) _ _ hg, ?_⟩
  rw [hv y (gz y rfl)]
  exact ⟨_, rfl, ⟨⟨_, rfl⟩, s1.trans s2⟩⟩
abbrev zT : Stmt := top 14
theorem je : zH ["cells", "many", "columns", "length", "places", "column"] ["cells", "many", "columns", "length"] (zg zT) := ⟨rfl, rfl, rfl, by decide +kernel, rfl, by decide +kernel, by decide +kernel⟩
theorem QD {P : Program} {w : World} {K : PySem.W.Frag} {mg : Str -> Option Value} {base : Heap} {f : Addr} {fd : FuncData} (F : Fun K "column_from" "column_from" zT f fd) (gb : Gb mg) {c : Nat -> Addr} (cl : Cl K mg c) : jY P w K mg base CX0 1 f fd ["cells", "many", "columns", "length"] YN := by
 refine F.ok je (fun vs H Q E h => ?_) (fun cdv A outer s H vs Q E hr h => ?_)
 ·obtain ⟨cu, cl, m, pl, cs, cols, cvs, len, rfl, _⟩ := h
  rfl
 obtain ⟨cu, cl, m, pl, cs, cols, cvs, len, rfl, hcu, hcs, hcl, hC, hpl, p2, hcol, m1, m9, n9, q⟩ := h
 have nd0 : (["row"] : List Str).Nodup := by decide +kernel
 have nd1 : (["place", "one", "many"] : List Str).Nodup := by decide +kernel
 have nd2 : (["place", "cells"] : List Str).Nodup := by decide +kernel
 refine ⟨_, (@zh _ _ _ _ _ (@jp _ ["row"] [none] _ 4 _ _ _ _ _ _ _ _ _ _ _ _ (by exact (show zN ["cells", "many", "columns", "length", "places", "column"] (zg zT) ["row"] [none] _ from ⟨rfl, by decide +kernel, by decide +kernel, by decide +kernel, by decide +kernel, rfl, by decide +kernel⟩)) rfl (@zS _ _ _ _ _ _ rfl gb.range (@za _ _ _ _ _ (@pv _ 3 _ _ (by rfl) (by walk_at "v") (by decide) (by decide)) (@ze _) (by rfl)) (by rfl)) (fun _ _ _ _ => (@zp _ _ 0 _ nd0 rfl (Or.inl rfl) (by walk_at "f"))) (fun _ _ _ _ => (@qi _)) (fun _ _ _ _ => (@zj _ _ _ _)) je.nd rfl rfl rfl (by intro _; rfl)) (@zh _ _ _ _ _ (@qU _ _ _ _ _ _ _ _ PassesOwn.never rfl (@zZ _ K _ _ _ (@pv _ 2 _ _ (by rfl) (by walk_at "v") (by decide) (by decide)) (by rfl)) (@zp _ _ 5 _ je.nd rfl (Or.inl rfl) (by walk_at "f")) (@zm _ _ _ (@jp _ ["place", "one", "many"] [none, none, some 1] _ 4 _ _ _ _ _ _ _ _ _ _ _ _ (by exact (show zN ["cells", "many", "columns", "length", "places", "column"] (zg zT) ["place", "one", "many"] [none, none, some 1] _ from ⟨rfl, by decide +kernel, by decide +kernel, by decide +kernel, by decide +kernel, rfl, by decide +kernel⟩)) rfl (@kpi_zipM _ K _ _ _ _ _ _ _ _ rfl gb.zip (@za _ _ _ _ _ (@pv _ 4 _ _ (by rfl) (by walk_at "v") (by decide) (by decide)) (@za _ _ _ _ _ (@pv _ 5 _ _ (by rfl) (by walk_at "v") (by decide) (by decide)) (@ze _) (by rfl)) (by rfl)) (by rfl) (by rfl) (by rfl)) (fun _ _ _ _ => (@jP _ K _ _ _ _ 2 rfl (@zK _ _ _ _ _ (@zp _ _ 0 _ nd1 rfl (Or.inl rfl) (by walk_at "f")) (@zK _ _ _ _ _ (@zp _ _ 1 _ nd1 rfl (Or.inl rfl) (by walk_at "f")) (@jM _) (by rfl)) (by rfl)) (by rfl) (by rfl) (by rfl))) (fun _ _ _ _ => (@qi _)) (fun _ _ _ _ => (@zO _ _ _ _ _ _ _ _ (@qV _) (@zO _ _ _ _ _ _ _ _ (@Z0 _) (@pv _ 0 _ _ (by rfl) (by walk_at "v") (by decide) (by decide)) (@pv _ 2 _ _ (by rfl) (by walk_at "v") (by decide) (by decide))) (@pv _ 1 _ _ (by rfl) (by walk_at "v") (by decide) (by decide)))) je.nd rfl rfl rfl (by intro _; rfl))) (by intro _; rfl)) (@zm _ _ _ (@zP _ _ _ _ (@zx _ _ _ _ _ _ _ _ _ (@zt _ K (by rfl)) rfl gb.tuple qm (@za _ _ _ _ _ (@zX _ ["place", "cells"] [none, some 0] _ _ _ _ _ _ _ _ _ _ (by exact (show zN ["cells", "many", "columns", "length", "places", "column"] (zg zT) ["place", "cells"] [none, some 0] _ from ⟨rfl, by decide +kernel, by decide +kernel, by decide +kernel, by decide +kernel, rfl, by decide +kernel⟩)) rfl (@zZ _ K _ _ _ (@pv _ 4 _ _ (by rfl) (by walk_at "v") (by decide) (by decide)) (by rfl)) (fun _ _ _ _ => (@zp _ _ 0 _ nd2 rfl (Or.inl rfl) (by walk_at "f"))) (fun _ _ _ _ => (@qi _)) (fun _ _ _ _ => (@zQ _ _ _ _ _ _ _ (@zq _ K (by rfl)) (@pv _ 1 _ _ (by rfl) (by walk_at "v") (by decide) (by decide)) (@pv _ 0 _ _ (by rfl) (by walk_at "v") (by decide) (by decide)) (fun _ _ => rfl))) (by intro _; rfl)) (@ze _) (by rfl)) (by decide) (by decide) (by rfl) (by rfl)))))), ?_⟩
 refine ⟨_, rfl, (len : Int), rfl, by omega, by omega, fun D0 hD0 => ?_⟩
 rw [Int.toNat_natCast]
 refine qv (fun i ys H' => zR H H' /\ ys = List.replicate i (nV 0)) ⟨zf hD0 _, rfl⟩ ?_ ?_
 ·rintro i ys H1 hi ⟨s1, rfl⟩ hD1
  refine yes (ZL hi jy hD1 (by rw [List.length_replicate]; exact zo (by omega)) ⟨s1.put hD0, ?_⟩)
  rw [List.replicate_succ']
  rfl
 rintro ys H1 ⟨s1, rfl⟩ hD1
 have e0 : (((List.range len).map fun k => Tn.place m ((cols.take 0).map fun col => Tn.at' col k)).map nV) = List.replicate len (nV 0) := List.eq_replicate_iff.mpr ⟨by rw [List.length_map, List.length_map, List.length_range], fun b hb => by
  obtain ⟨x, hx, rfl⟩ := List.mem_map.mp hb
  obtain ⟨k, _, rfl⟩ := List.mem_map.mp hx
  rfl⟩
 rw [<- e0] at hD1
 have hll := Paired.length hC
 refine ⟨_, rfl, cl, rfl, ⟨_, SqL.of (s1 _ _ hcl)⟩, ?_⟩
 refine qN (xs := cvs) (fun i σ H' => (∃ pd x5, σ = [some (.ref cu), some (nV m), some (.ref cl), some (nV len), some (.ref pd), x5] /\ H' pd = some (.lst (((List.range len).map fun k => Tn.place m ((cols.take i).map fun col => Tn.at' col k)).map nV))) /\ zR H H') ⟨⟨D0, _, rfl, hD1⟩, s1⟩ (fun i σ H' _ h => SqL.of (h.2 _ _ hcl)) ?_ ?_
 ·rintro i x σ H2 hx ⟨⟨pd, x5, rfl, hpd⟩, s2⟩
  have hi := (List.getElem?_eq_some_iff.mp hx).1
  have hci : cols[i]? = some cols[i] := List.getElem?_eq_getElem (by omega)
  generalize cols[i] = col at hci
  obtain ⟨t, rfl, ht⟩ := Paired.at hC i _ _ hci hx
  have gc := hcol col (List.mem_of_getElem? hci)
  have gl := gc.1
  refine ⟨_, rfl, _, rfl, pd, t, _, _, rfl, SqL.of hpd, SqT.of (s2 _ _ ht), fun D hD => ?_⟩
  refine Yy (n := len) (xs := ((List.range len).map fun k => Tn.place m ((cols.take i).map fun col => Tn.at' col k)).map nV) (ys := col.map nV) (more := [some (nV m)]) (fun j zs H' => zR H2 H' /\ zs = ((List.range j).map fun k => Tn.place m ((cols.take (i + 1)).map fun col => Tn.at' col k)).map nV) (by rw [List.length_map, List.length_map, List.length_map, List.length_range, gl, Nat.min_self]) ⟨zf hD _, rfl⟩ (fun j zs H' h _ => ⟨SqL.of (h.1 _ _ hpd), SqT.of (h.1 _ _ (s2 _ _ ht))⟩) ?_ ?_
  ·rintro j zs H3 TT x y hx3 hy3 hj ⟨s3, rfl⟩ hD3 hTT
   rw [List.map_map] at hx3
   obtain ⟨_, rfl⟩ := Wh hx3
   rw [List.getElem?_map, J7 (by omega)] at hy3
   obtain rfl := Option.some.inj hy3
   have n4 := zf hTT (.tup [nV (Tn.place m ((cols.take i).map fun col => Tn.at' col j)), nV (Tn.at' col j)])
   have e : V.int (((Tn.place m ((cols.take i).map fun col => Tn.at' col j) : Nat) : Int) * ((m : Nat) : Int) + ((Tn.at' col j : Nat) : Int)) = nV (Tn.place m ((cols.take (i + 1)).map fun col => Tn.at' col j)) := by
    rw [take_snoc hci, List.map_append, List.map_cons, List.map_nil, Tn.place_snoc]
    show V.int _ = V.int _
    rw [Int.natCast_add, Int.natCast_mul]
   refine yes ⟨_, rfl, _, rfl, _, _, rfl, rfl, .inr ⟨by omega, by omega⟩, _, rfl, _, _, rfl, rfl, ?_⟩
   refine ZL hj ⟨_, _, rfl⟩ (n4 _ _ hD3) (by rw [List.length_map, List.length_map, List.length_range]; exact zo (by omega)) ⟨(s3.trans n4).put hD, ?_⟩
   rw [List.range_succ, List.map_append, List.map_append]
   exact congrArg (fun v => (((List.range j).map fun k => Tn.place m ((cols.take (i + 1)).map fun col => Tn.at' col k)).map nV) ++ [v]) e
  ·rintro zs H3 ⟨s3, rfl⟩ hD3
   exact ⟨⟨D, some (.ref t), rfl, hD3⟩, s2.trans s3⟩
 ·rintro σ H2 ⟨⟨pd, x5, rfl, hpd⟩, s2⟩
  rw [<- hll, List.take_length] at hpd
  refine ⟨_, rfl, pd, rfl, ⟨_, SqL.of hpd⟩, fun D hD => ?_⟩
  refine j8 (xs := ((List.range len).map fun k => Tn.place m (cols.map fun col => Tn.at' col k)).map nV) (fun j zs H' => zR H2 H' /\ zs = ((List.range j).map fun k => Tn.at' cs (Tn.place m (cols.map fun col => Tn.at' col k))).map nV) ⟨zf hD _, rfl⟩ (fun j zs H' h _ => SqL.of (h.1 _ _ hpd)) ?_ ?_
  ·rintro j zs H3 x hx3 ⟨s3, rfl⟩ hD3
   rw [List.map_map] at hx3
   obtain ⟨hj, rfl⟩ := Wh hx3
   refine yes ⟨_, rfl, _, rfl, .inr (.inl ⟨cu, _, _, _, rfl, rfl, SqT.of ((s2.trans s3) _ _ hcu), ym ?_, ?_⟩)⟩
   ·rw [hcs.len, <- hpl]
    exact Tn.place_lt _ _ ⟨by rw [List.length_map], fun y hy => by
     obtain ⟨col, hc, rfl⟩ := List.mem_map.mp hy
     exact (hcol col hc).at hj⟩
   ·refine ZL (by rw [List.length_map, List.length_map, List.length_range]; exact hj) jy hD3 (by rw [List.length_map, List.length_map, List.length_range]; exact zo (by omega)) ⟨s3.put hD, ?_⟩
    rw [List.range_succ, List.map_append, List.map_append]
    rfl
  ·rintro zs H3 ⟨s3, rfl⟩ hD3
   rw [List.length_map, List.length_map, List.length_range] at hD3
   refine ⟨D, _, rfl, .inl ⟨SqL.of hD3, fun t ht => ?_⟩⟩
   exact q t _ (s2.trans (s3.trans (zf ht _))) zd
abbrev qp : Stmt := top 20
theorem Zp : zH ["T", "cells", "ahead", "line", "length", "parts"] ["T", "cells", "ahead", "line", "length"] (zg qp) := ⟨rfl, rfl, rfl, by decide +kernel, rfl, by decide +kernel, by decide +kernel⟩
theorem QE {P : Program} {w : World} {K : PySem.W.Frag} {mg : Str -> Option Value} {base : Heap} {f : Addr} {fd : FuncData} (F : Fun K "line_column" "line_column" qp f fd) (gb : Gb mg) {c : Nat -> Addr} (cl : Cl K mg c) (d_column_from : Def P w K mg base 1 "column_from" ["cells", "many", "columns", "length"] YN) : jY P w K mg base CX0 2 f fd ["T", "cells", "ahead", "line", "length"] Jk := by
 refine F.ok Zp (fun vs H Q E h => ?_) (fun cdv A outer s H vs Q E hr h => ?_)
 ·obtain ⟨v, e', al, t, T, z, cols, avs, len, rfl, _⟩ := h
  rfl
 obtain ⟨v, e', al, t, T, z, cols, avs, len, rfl, ia, gT, nT, hcd, hal, hC, hcol, ht, hz, hc, n9, q⟩ := h
 have nd0 : (["number", "ahead"] : List Str).Nodup := by decide +kernel
 refine ⟨_, (@zh _ _ _ _ _ (@jp _ ["number", "ahead"] [none, some 2] _ 5 _ _ _ _ _ _ _ _ _ _ _ _ (by exact (show zN ["T", "cells", "ahead", "line", "length", "parts"] (zg qp) ["number", "ahead"] [none, some 2] _ from ⟨rfl, by decide +kernel, by decide +kernel, by decide +kernel, by decide +kernel, rfl, by decide +kernel⟩)) rfl (@ji _ K _ _ _ (@qO _ _ _ _ _ _ _ _ _ _ (@kslT _ K (by rfl)) (@pv _ 3 _ _ (by rfl) (by walk_at "v") (by decide) (by decide)) (@ja _ _ _ (@zj _ _ _ _)) (@jt _)) (by rfl)) (fun _ _ _ _ => (@zp _ _ 0 _ nd0 rfl (Or.inl rfl) (by walk_at "f"))) (fun _ _ _ _ => (@qi _)) (fun _ _ _ _ => (@zQ _ _ _ _ _ _ _ (@zq _ K (by rfl)) (@pv _ 1 _ _ (by rfl) (by walk_at "v") (by decide) (by decide)) (@pv _ 0 _ _ (by rfl) (by walk_at "v") (by decide) (by decide)) (fun _ _ => rfl))) Zp.nd rfl rfl rfl (by intro _; rfl)) (@zm _ _ _ (@zP _ _ _ _ (@zr _ _ _ _ _ _ _ _ _ _ _ d_column_from hr (by omega) rfl (@za _ _ _ _ _ (@Yh _ _ _ _ _ _ (@hu1 _ _ hr) (@pv _ 1 _ _ (by rfl) (by walk_at "v") (by decide) (by decide)) (@qB _ _ _ _ _ (@za _ _ _ _ _ (@zQ _ _ _ _ _ _ _ (@zq _ K (by rfl)) (@pv _ 3 _ _ (by rfl) (by walk_at "v") (by decide) (by decide)) (@zj _ _ _ _) (fun _ _ => rfl)) (@za _ _ _ _ _ (@zO _ _ _ _ _ _ _ _ (@QI _) (@zA _ _ _ _ _ _ _ _ _ (@qf _ K (by rfl)) rfl gb.len jg (@za _ _ _ _ _ (@pv _ 3 _ _ (by rfl) (by walk_at "v") (by decide) (by decide)) (@ze _) (by rfl)) (by decide) (by decide) (by rfl) (by rfl)) (@zj _ _ _ _)) (@ze _) (by rfl)) (by rfl))) (fun _ _ => rfl)) (@za _ _ _ _ _ (@zQ _ _ _ _ _ _ _ (@zq _ K (by rfl)) (@pv _ 0 _ _ (by rfl) (by walk_at "v") (by decide) (by decide)) (@zj _ _ _ _) (fun _ _ => rfl)) (@za _ _ _ _ _ (@pv _ 5 _ _ (by rfl) (by walk_at "v") (by decide) (by decide)) (@za _ _ _ _ _ (@pv _ 4 _ _ (by rfl) (by walk_at "v") (by decide) (by decide)) (@ze _) (by rfl)) (by rfl)) (by rfl)) (by rfl)) (by decide) (by rfl) (by rfl))))), ?_⟩
 obtain ⟨c, hcm, cn, cp⟩ := hc
 obtain ⟨a, w0, c0, vs, rfl, h1, h2, h3, h4⟩ := id ia
 obtain ⟨_, p2, q3⟩ := gT.cn c hcm
 have hal' := Paired.length hC
 refine ⟨_, rfl, _, rfl, ?_⟩
 refine J5 ht fun t2 H2 s2 ht2 => ?_
 rw [Zb (by simp)] at ht2
 refine ⟨t2, rfl, ⟨_, SqT.of ht2⟩, fun D hD => ?_⟩
 refine ZR (xs := z.2.map nV) (fun i ys H' => zR H2 H' /\ ZW H' ((z.2.take i).map fun n => cols.getD n []) ys /\ ys.length = i) ⟨zf hD _, .nil, rfl⟩ (fun i ys H' h _ => SqT.of (h.1 _ _ ht2)) ?_ ?_
 ·rintro i ys H3 x hx ⟨s3, hY, yl⟩ hD3
  have hi := (List.getElem?_eq_some_iff.mp hx).1
  rw [List.length_map] at hi
  rw [List.getElem?_map] at hx
  obtain ⟨n, hn, rfl⟩ := Option.map_eq_some_iff.mp hx
  have hnl := hz n (List.mem_of_getElem? hn)
  have hci : cols[n]? = some (cols.getD n []) := by simp [List.getD, hnl]
  have hav : avs[n]? = some avs[n] := List.getElem?_eq_getElem (by omega)
  generalize avs[n] = av at hav
  obtain ⟨tc, rfl, htc⟩ := Paired.at hC n _ _ hci hav
  have S3 := s2.trans s3
  refine yes ⟨_, rfl, _, rfl, .inl ⟨al, _, _, _, rfl, rfl, SqL.of (S3 _ _ hal), qC hav, ?_⟩⟩
  refine ZL (by rw [List.length_map]; exact hi) jy hD3 (zo (by omega)) ⟨s3.put hD, ?_, by rw [List.length_append, yl]; rfl⟩
  rw [take_snoc hn, List.map_append]
  exact ZW.tk (Tk.put hD3) (ZW.snoc hY (S3 _ _ htc))
 rintro ys H3 ⟨s3, hY, yl⟩ hD3
 rw [List.length_map, List.take_length] at hY
 have S3 := s2.trans s3
 have ht3 := S3 _ _ ht
 obtain ⟨kvs, hk, hv⟩ := hcd.same S3
 obtain ⟨u, e1, e2⟩ := hv c hcm
 refine ⟨_, rfl, _, rfl, .inr (.inl ⟨t, _, _, _, rfl, rfl, SqT.of ht3, at0, _, rfl, _, _, rfl, .inr ⟨_, SqT.of ht3, rfl⟩, _, _, rfl, rfl, zy (by show 2 <= 1000; decide), fun t4 ht4 => ?_⟩)⟩
 have el : V.int (((.str z.1 :: z.2.map nV : List V).length : Int) - 1) = .int ((c.pl : Nat) : Int) := by
  rw [List.length_cons, List.length_map, cp]
  show V.int _ = V.int _
  congr 1
  omega
 dsimp only
 rw [el]
 have n4 := zf ht4 (.tup [.str z.1, .int ((c.pl : Nat) : Int)])
 have hgd : W6 (upd H3 t4 (.tup [.str z.1, .int ((c.pl : Nat) : Int)])) e' (.ref t4) (jb kvs (yx c)) := W6.t (n4 _ _ hk) (by
  rw [zd]
  unfold yx
  rw [cn]
  rfl)
 rw [e1] at hgd
 refine ⟨e', _, rfl, hgd, ?_⟩
 have S4 := S3.trans n4
 refine ⟨_, rfl, .inr (.inl ⟨a, _, 0, _, rfl, rfl, SqT.of (S4 _ _ h1), rfl, ?_⟩)⟩
 refine ⟨_, rfl, _, rfl, u, D, T.m, c.pl, c.cs, z.2.map fun n => cols.getD n [], ys, len, rfl, n4 _ _ e2, q3, n4 _ _ hD3, ZW.tk (Tk.of n4) hY, by rw [List.length_map, cp], p2, (fun col hc => ?_), gT.m1, gT.m9, n9, fun t' H5 s5 ht' => ?_⟩
 ·obtain ⟨n, hn, rfl⟩ := List.mem_map.mp hc
  have hnl := hz n hn
  exact hcol _ (List.mem_of_getElem? (i := n) (by simp [List.getD, hnl]))
 ·refine q t' H5 (S4.trans s5) ?_
  rw [ht']
  congr 3
  refine List.map_congr_left fun k _ => ?_
  unfold cellOf
  rw [<- cn, ZD nT hcm, List.map_map]
  rfl
abbrev qF : Stmt := top 24
theorem Ju : zH ["line", "numbers"] ["line", "numbers"] (zg qF) := ⟨rfl, rfl, rfl, by decide +kernel, rfl, by decide +kernel, by decide +kernel⟩
theorem Jv {P : Program} {w : World} {K : PySem.W.Frag} {mg : Str -> Option Value} {base : Heap} {f : Addr} {fd : FuncData} (F : Fun K "renumbered" "renumbered" qF f fd) (gb : Gb mg) {c : Nat -> Addr} (cl : Cl K mg c) (d_is_letter : Def P w K mg base 2 "is_letter" ["thing"] Qj) : jY P w K mg base CX0 3 f fd ["line", "numbers"] Wi := by
 refine F.ok Ju (fun vs H Q E h => ?_) (fun cdv A outer s H vs Q E hr h => ?_)
 ·obtain ⟨v, nd, l, ns, o, rfl, _⟩ := h
  rfl
 obtain ⟨v, nd, l, ns, o, rfl, il, hL, hnd, nN, hz, h2, n20, q⟩ := h
 have nd0 : (["number", "numbers"] : List Str).Nodup := by decide +kernel
 refine ⟨_, (@zh _ _ _ _ _ (@jk _ _ _ _ _ _ _ _ (@ZZ _ _ _ (@zr _ _ _ _ _ _ _ _ _ _ _ d_is_letter hr (by omega) rfl (@za _ _ _ _ _ (@pv _ 0 _ _ (by rfl) (by walk_at "v") (by decide) (by decide)) (@ze _) (by rfl)) (by decide) (by rfl) (by rfl)) (by intro _; rfl)) (@zm _ _ _ (@zP _ _ _ _ (@pv _ 0 _ _ (by rfl) (by walk_at "v") (by decide) (by decide)))) (@zW _)) (@zm _ _ _ (@zP _ _ _ _ (@zO _ _ _ _ _ _ _ _ (@wL _ K (by rfl)) (@qB _ _ _ _ _ (@za _ _ _ _ _ (@zQ _ _ _ _ _ _ _ (@zq _ K (by rfl)) (@pv _ 0 _ _ (by rfl) (by walk_at "v") (by decide) (by decide)) (@zj _ _ _ _) (fun _ _ => rfl)) (@ze _) (by rfl))) (@zx _ _ _ _ _ _ _ _ _ (@zt _ K (by rfl)) rfl gb.tuple qm (@za _ _ _ _ _ (@zX _ ["number", "numbers"] [none, some 1] _ _ _ _ _ _ _ _ _ _ (by exact (show zN ["line", "numbers"] (zg qF) ["number", "numbers"] [none, some 1] _ from ⟨rfl, by decide +kernel, by decide +kernel, by decide +kernel, by decide +kernel, rfl, by decide +kernel⟩)) rfl (@ji _ K _ _ _ (@qO _ _ _ _ _ _ _ _ _ _ (@kslT _ K (by rfl)) (@pv _ 0 _ _ (by rfl) (by walk_at "v") (by decide) (by decide)) (@ja _ _ _ (@zj _ _ _ _)) (@jt _)) (by rfl)) (fun _ _ _ _ => (@zp _ _ 0 _ nd0 rfl (Or.inl rfl) (by walk_at "f"))) (fun _ _ _ _ => (@qi _)) (fun _ _ _ _ => (@Yh _ _ _ _ _ _ (@hu1 _ _ hr) (@pv _ 1 _ _ (by rfl) (by walk_at "v") (by decide) (by decide)) (@pv _ 0 _ _ (by rfl) (by walk_at "v") (by decide) (by decide)) (fun _ _ => rfl))) (by intro _; rfl)) (@ze _) (by rfl)) (by decide) (by decide) (by rfl) (by rfl)))))), ?_⟩
 refine ⟨_, rfl, v, l, rfl, il, hL, fun H1 s1 => ⟨_, rfl, ?_⟩⟩
 cases l with
 | inl x => exact yv ⟨_, rfl, q v H1 s1 (il.tk (Tk.of s1))⟩
 | inr z =>
  refine Wz ?_
  obtain ⟨t, rfl, ht⟩ := il
  have ht1 := s1 _ _ ht
  have h2 : z.2.length <= 2 := h2
  refine ⟨_, rfl, .inr (.inl ⟨t, _, _, _, rfl, rfl, SqT.of ht1, at0, zy (by show 1 <= 1000; decide), fun t1 hn1 => ?_⟩)⟩
  have n1 := zf hn1 (.tup [.str z.1])
  refine ⟨_, rfl, _, rfl, ?_⟩
  refine J5 (n1 _ _ ht1) fun t2 H2 s2 ht2 => ?_
  rw [Zb (by simp)] at ht2
  refine ⟨t2, rfl, ⟨_, SqT.of ht2⟩, fun D hD => ?_⟩
  have S2 := s1.trans (n1.trans s2)
  refine ZR (xs := z.2.map nV) (fun i ys H' => zR H2 H' /\ ys = ((z.2.take i).map fun m => ns.idxOf m).map nV) ⟨zf hD _, rfl⟩ (fun i ys H' h _ => SqT.of (h.1 _ _ ht2)) ?_ ?_
  ·rintro i ys H3 x hx ⟨s3, rfl⟩ hD3
   have hi := (List.getElem?_eq_some_iff.mp hx).1
   rw [List.length_map] at hi
   rw [List.getElem?_map] at hx
   obtain ⟨n, hn, rfl⟩ := Option.map_eq_some_iff.mp hx
   have hm := hz n (List.mem_of_getElem? hn)
   have hgd : W6 H3 nd (nV n) (jb (ZG ns) (Sum.inl (n : Int))) := .inl ⟨ZG ns, Sum.inl (n : Int), .inr ⟨o, (S2.trans s3) _ _ hnd⟩, rfl, rfl⟩
   rw [nums_val nN hm] at hgd
   refine yes ⟨_, rfl, _, rfl, nd, _, rfl, hgd, ?_⟩
   refine ZL (by rw [List.length_map]; exact hi) jy hD3 (by rw [List.length_map, List.length_map, List.length_take]; exact zo (by omega)) ⟨s3.put hD, ?_⟩
   rw [take_snoc hn, List.map_append, List.map_append]
   rfl
  ·rintro ys H3 ⟨s3, rfl⟩ hD3
   rw [List.length_map, List.take_length] at hD3
   refine ⟨D, _, rfl, .inl ⟨SqL.of hD3, fun t4 ht4 => ?_⟩⟩
   have n4 := zf ht4 (.tup ((z.2.map fun m => ns.idxOf m).map nV))
   refine Wd (n4 _ _ (s3 _ _ (s2 _ _ zd))) zd (by rw [List.length_map, List.length_map]; show 1 + z.2.length <= 1000; omega) fun t5 H5 s5 ht5 => ?_
   exact q (.ref t5) H5 (S2.trans (s3.trans (n4.trans s5))) ⟨t5, rfl, ht5⟩
abbrev qd : Stmt := top 23
theorem jw : zH ["lines", "numbers", "number"] ["lines"] (zg qd) := ⟨rfl, rfl, rfl, by decide +kernel, rfl, by decide +kernel, by decide +kernel⟩
theorem Qt {P : Program} {w : World} {K : PySem.W.Frag} {mg : Str -> Option Value} {base : Heap} {f : Addr} {fd : FuncData} (F : Fun K "needed_alone" "needed_alone" qd f fd) (gb : Gb mg) {c : Nat -> Addr} (cl : Cl K mg c) (d_needed_lines : Def P w K mg base 3 "needed_lines" ["lines"] WM) (d_renumbered : Def P w K mg base 3 "renumbered" ["line", "numbers"] Wi) : jY P w K mg base CX0 4 f fd ["lines"] Jm := by
 refine F.ok jw (fun vs H Q E h => ?_) (fun cdv A outer s H vs Q E hr h => ?_)
 ·obtain ⟨lt, us, ls, T, LT, rfl, _⟩ := h
  rfl
 obtain ⟨lt, us, ls, T, LT, rfl, hlt, hls, hG, g2, hL, l1, l20, q⟩ := h
 have nd0 : (["number", "lines", "numbers"] : List Str).Nodup := by decide +kernel
 refine ⟨_, (@zh _ _ _ _ _ (@zv _ _ 1 _ _ _ _ jw.nd rfl (Or.inr rfl) (@WF _ _) (by rfl) (by walk_at "f")) (@zh _ _ _ _ _ (@qU _ _ _ _ _ _ _ _ PassesOwn.never rfl (@zZ _ K _ _ _ (@zA _ _ _ _ _ _ _ _ _ (@Q8 _ K (by rfl)) rfl gb.sorted JR (@za _ _ _ _ _ (@zr _ _ _ _ _ _ _ _ _ _ _ d_needed_lines hr (by omega) rfl (@za _ _ _ _ _ (@pv _ 0 _ _ (by rfl) (by walk_at "v") (by decide) (by decide)) (@ze _) (by rfl)) (by decide) (by rfl) (by rfl)) (@ze _) (by rfl)) (by decide) (by decide) (by rfl) (by rfl)) (by rfl)) (@zp _ _ 2 _ jw.nd rfl (Or.inl rfl) (by walk_at "f")) (@zm _ _ _ (@Yj _ _ _ _ _ _ _ _ _ _ hr (@pv _ 1 _ _ (by rfl) (by walk_at "v") (by decide) (by decide)) (@pv _ 2 _ _ (by rfl) (by walk_at "v") (by decide) (by decide)) (@zA _ _ _ _ _ _ _ _ _ (@Yp _) rfl gb.len jg (@za _ _ _ _ _ (@pv _ 1 _ _ (by rfl) (by walk_at "v") (by decide) (by decide)) (@ze _) (by rfl)) (by decide) (by decide) (by rfl) (by rfl)) rfl)) (by intro _; rfl)) (@zm _ _ _ (@zP _ _ _ _ (@zx _ _ _ _ _ _ _ _ _ (@zt _ K (by rfl)) rfl gb.tuple qm (@za _ _ _ _ _ (@zX _ ["number", "lines", "numbers"] [none, some 0, some 1] _ _ _ _ _ _ _ _ _ _ (by exact (show zN ["lines", "numbers", "number"] (zg qd) ["number", "lines", "numbers"] [none, some 0, some 1] _ from ⟨rfl, by decide +kernel, by decide +kernel, by decide +kernel, by decide +kernel, rfl, by decide +kernel⟩)) rfl (@pi_keys _ _ _ _ (@pv _ 1 _ _ (by rfl) (by walk_at "v") (by decide) (by decide))) (fun _ _ _ _ => (@zp _ _ 0 _ nd0 rfl (Or.inl rfl) (by walk_at "f"))) (fun _ _ _ _ => (@qi _)) (fun _ _ _ _ => (@zr _ _ _ _ _ _ _ _ _ _ _ d_renumbered hr (by omega) rfl (@za _ _ _ _ _ (@zQ _ _ _ _ _ _ _ (@zq _ K (by rfl)) (@pv _ 1 _ _ (by rfl) (by walk_at "v") (by decide) (by decide)) (@pv _ 0 _ _ (by rfl) (by walk_at "v") (by decide) (by decide)) (fun _ _ => rfl)) (@za _ _ _ _ _ (@pv _ 2 _ _ (by rfl) (by walk_at "v") (by decide) (by decide)) (@ze _) (by rfl)) (by rfl)) (by decide) (by rfl) (by rfl))) (by intro _; rfl)) (@ze _) (by rfl)) (by decide) (by decide) (by rfl) (by rfl)))))), ?_⟩
 refine fun nd hnd => ?_
 have n1 := zf hnd (.dK [])
 refine ⟨_, rfl, lt, us, ls, T, LT, rfl, hlt.same n1, Lns.tk (Tk.of n1) hls, hG, g2, hL, l1, l20, fun nl ns0 H2 s2 hnl clos => ?_⟩
 have nsl : ns0.length <= 28 := Nat.le_trans (Tn.nodup_len ls.length ns0 clos.nd clos.lt) l20
 have hnl' : H2 nl = some (.lst ((ns0.map fun (n : Nat) => (n : Int)).map V.int)) := by
  rw [List.map_map]
  exact hnl
 refine ⟨nl, _, rfl, SqL.of hnl', by rw [List.length_map]; omega, fun sl ms hsl pm pw => ?_⟩
 obtain ⟨ns, em, clo, ris, nsl2⟩ := YQ clos pm pw
 rw [em]
 have n3 := zf hsl (.lst (ns.map nV))
 have S3 := n1.trans (s2.trans n3)
 have hul := Paired.length hls
 refine ⟨sl, rfl, ⟨_, SqL.of zd⟩, ?_⟩
 have slnd : sl ≠ nd := fun e => by
  have := s2 _ _ (@zd H nd (.dK []))
  rw [<- e, hsl] at this
  cases this
 refine qN (xs := ns.map nV) (fun i σ H' => (∃ x2, σ = [some (.ref lt), some (.ref nd), x2]) /\ zR H H' /\ H' sl = some (.lst (ns.map nV)) /\ H' nd = some (.dK (ZG (ns.take i)))) ⟨⟨_, rfl⟩, S3, zd, n3 _ _ (s2 _ _ zd)⟩ (fun i σ H' _ h => SqL.of h.2.2.1) ?_ ?_
 ·rintro i x σ H4 hx ⟨⟨x2, rfl⟩, s4, hsl4, hnd4⟩
  rw [List.getElem?_map] at hx
  obtain ⟨n, hn, rfl⟩ := Option.map_eq_some_iff.mp hx
  have hi := (List.getElem?_eq_some_iff.mp hn).1
  refine ⟨_, rfl, nd, _, rfl, hnd4, _, rfl, _, rfl, nd, _, Sum.inl (n : Int), rfl, rfl, hnd4, by rw [Ze, List.length_take]; exact zo (by omega), ?_⟩
  refine ⟨⟨_, rfl⟩, s4.put hnd, by rw [zE slnd]; exact hsl4, ?_⟩
  rw [nums_put clo.nd hn]
  exact zd
 rintro σ H4 ⟨⟨x2, rfl⟩, s4, hsl4, hnd4⟩
 rw [List.length_map, List.take_length] at hnd4
 refine ⟨_, rfl, nd, ZG ns, rfl, hnd4, fun o D hD => ?_⟩
 have s5 : zR H (upd H4 nd (.frz o (.dK (ZG ns)))) := s4.put hnd
 have hf5 : (upd H4 nd (.frz o (.dK (ZG ns)))) nd = some (.frz o (.dK (ZG ns))) := zd
 generalize upd H4 nd (.frz o (.dK (ZG ns))) = H5 at *
 refine Yv (kvs := ZG ns) (ob := o) (fun i ys H' => zR H5 H' /\ Lns H' ((ns.take i).map fun n => reN ns (ls.getD n (.inl ""))) ys /\ ys.length = i) ⟨zf hD _, .nil, rfl⟩ (fun i ys H' h _ => h.1 _ _ hf5) ?_ ?_
 ·rintro i ys H6 p hp ⟨s6, hY, yl⟩ hD6
  obtain ⟨n, hn, rfl⟩ := Jl hp
  have hi := (List.getElem?_eq_some_iff.mp hn).1
  have hnm := List.mem_of_getElem? hn
  have hnl := clo.lt n hnm
  have hli : ls[n]? = some (ls.getD n (.inl "")) := by simp [List.getD, hnl]
  have hui : us[n]? = some us[n] := List.getElem?_eq_getElem (by omega)
  generalize us[n] = u at hui
  have iu := Paired.at hls n _ _ hli hui
  have S6 := s5.trans s6
  have lp : (∀ m ∈ lnPs (ls.getD n (.inl "")), m ∈ ns) /\ (lnPs (ls.getD n (.inl ""))).length <= 2 := by
   have gl := hG n _ hli
   cases e : ls.getD n (.inl "") with
   | inl x => exact ⟨(fun m hm => by cases hm), Nat.zero_le _⟩
   | inr z =>
    rw [e] at hli gl
    obtain ⟨_, c, hc, _, cp⟩ := gl
    exact ⟨fun m hm => clo.cl n hnm z hli m hm, by have := g2 c hc; show z.2.length <= 2; omega⟩
  refine yes ⟨_, rfl, _, rfl, (hlt.same S6).ix hui ?_⟩
  refine ⟨_, rfl, u, nd, ls.getD n (.inl ""), ns, o, rfl, iu.tk (Tk.of S6), hG.ltr hL hli, s6 _ _ hf5, clo.nd, lp.1, lp.2, by omega, fun w H7 s7 hw => ?_⟩
  have hD7 := s7 _ _ hD6
  refine ZL (by rw [Ze]; exact hi) jy hD7 (zo (by omega)) ⟨(s6.trans s7).put hD, ?_, by rw [List.length_append, yl]; rfl⟩
  rw [take_snoc hn, List.map_append]
  exact Lns.tk (Tk.put hD7) (Lns.snoc (Lns.tk (Tk.of s7) hY) hw)
 ·rintro ys H6 ⟨s6, hY, yl⟩ hD6
  rw [Ze, List.take_length] at hY
  refine ⟨D, _, rfl, .inl ⟨SqL.of hD6, fun t ht => ?_⟩⟩
  have n7 := zf ht (.tup ys)
  exact q t ys ns _ (s5.trans (s6.trans n7)) zd clo ris (Lns.tk (Tk.of n7) hY)
abbrev qP : Stmt := top 25
theorem qS : zH ["T", "columns", "lines", "given", "written", "cells", "ahead", "line"] ["T", "columns", "lines"] (zg qP) := ⟨rfl, rfl, rfl, by decide +kernel, rfl, by decide +kernel, by decide +kernel⟩
theorem wf {P : Program} {w : World} {K : PySem.W.Frag} {mg : Str -> Option Value} {base : Heap} {f : Addr} {fd : FuncData} (F : Fun K "column_of" "column_of" qP f fd) (gb : Gb mg) {c : Nat -> Addr} (cl : Cl K mg c) (d_needed_lines : Def P w K mg base 3 "needed_lines" ["lines"] WM) (d_cells_by_name : Def P w K mg base 1 "cells_by_name" ["H"] spCbn) (d_check_names : Def P w K mg base 3 "check_names" ["shapes", "parts"] YL) (d_check_letters : Def P w K mg base 3 "check_letters" ["parts", "known"] YM) (d_needed_alone : Def P w K mg base 4 "needed_alone" ["lines"] Jm) (d_is_letter : Def P w K mg base 2 "is_letter" ["thing"] Qj) (d_line_column : Def P w K mg base 2 "line_column" ["T", "cells", "ahead", "line", "length"] Jk) : jY P w K mg base CX0 5 f fd ["T", "columns", "lines"] Wj := by
 refine F.ok qS (fun vs H Q E h => ?_) (fun cdv A outer s H vs Q E hr h => ?_)
 ·obtain ⟨v, ct, lt, T, LT, cps, cvs, us, ls, γ, len, rfl, _⟩ := h
  rfl
 obtain ⟨v, ct, lt, T, LT, cps, cvs, us, ls, γ, len, rfl, ia, gT, nT, hcol, hlt, hls, hG, hL, l1, l20, n1, n9, bd, q⟩ := h
 have nd0 : (["number", "lines"] : List Str).Nodup := by decide +kernel
 refine ⟨_, (@zh _ _ _ _ _ (@zv _ _ 3 _ _ _ _ qS.nd rfl (Or.inl rfl) (@Yt _ K _ _ _ _ rfl gb.dict (@za _ _ _ _ _ (@pv _ 1 _ _ (by rfl) (by walk_at "v") (by decide) (by decide)) (@ze _) (by rfl)) (by rfl) (by rfl) (by rfl)) (by rfl) (by walk_at "f")) (@zh _ _ _ _ _ (@jp _ ["number", "lines"] [none, some 2] _ 4 _ _ _ _ _ _ _ _ _ _ _ _ (by exact (show zN ["T", "columns", "lines", "given", "written", "cells", "ahead", "line"] (zg qP) ["number", "lines"] [none, some 2] _ from ⟨rfl, by decide +kernel, by decide +kernel, by decide +kernel, by decide +kernel, rfl, by decide +kernel⟩)) rfl (@zZ _ K _ _ _ (@zr _ _ _ _ _ _ _ _ _ _ _ d_needed_lines hr (by omega) rfl (@za _ _ _ _ _ (@pv _ 2 _ _ (by rfl) (by walk_at "v") (by decide) (by decide)) (@ze _) (by rfl)) (by decide) (by rfl) (by rfl)) (by rfl)) (fun _ _ _ _ => (@zp _ _ 0 _ nd0 rfl (Or.inl rfl) (by walk_at "f"))) (fun _ _ _ _ => (@qi _)) (fun _ _ _ _ => (@zQ _ _ _ _ _ _ _ (@zq _ K (by rfl)) (@pv _ 1 _ _ (by rfl) (by walk_at "v") (by decide) (by decide)) (@pv _ 0 _ _ (by rfl) (by walk_at "v") (by decide) (by decide)) (fun _ _ => rfl))) qS.nd rfl rfl rfl (by intro _; rfl)) (@zh _ _ _ _ _ (@zv _ _ 5 _ _ _ _ qS.nd rfl (Or.inl rfl) (@zr _ _ _ _ _ _ _ _ _ _ _ d_cells_by_name hr (by omega) rfl (@za _ _ _ _ _ (@pv _ 0 _ _ (by rfl) (by walk_at "v") (by decide) (by decide)) (@ze _) (by rfl)) (by decide) (by rfl) (by rfl)) (by rfl) (by walk_at "f")) (@zh _ _ _ _ _ (@qy _ _ _ _ (@zr _ _ _ _ _ _ _ _ _ _ _ d_check_names hr (by omega) rfl (@za _ _ _ _ _ (@pv _ 5 _ _ (by rfl) (by walk_at "v") (by decide) (by decide)) (@za _ _ _ _ _ (@pv _ 4 _ _ (by rfl) (by walk_at "v") (by decide) (by decide)) (@ze _) (by rfl)) (by rfl)) (by decide) (by rfl) (by rfl)) (by rfl)) (@zh _ _ _ _ _ (@qy _ _ _ _ (@zr _ _ _ _ _ _ _ _ _ _ _ d_check_letters hr (by omega) rfl (@za _ _ _ _ _ (@pv _ 4 _ _ (by rfl) (by walk_at "v") (by decide) (by decide)) (@za _ _ _ _ _ (@pv _ 3 _ _ (by rfl) (by walk_at "v") (by decide) (by decide)) (@ze _) (by rfl)) (by rfl)) (by decide) (by rfl) (by rfl)) (by rfl)) (@zh _ _ _ _ _ (@zv _ _ 6 _ _ _ _ qS.nd rfl (Or.inl rfl) (@q5 _ _ _ _ (@ze _)) (by rfl) (by walk_at "f")) (@zh _ _ _ _ _ (@qU _ _ _ _ _ _ _ _ PassesOwn.never rfl (@ji _ K _ _ _ (@zr _ _ _ _ _ _ _ _ _ _ _ d_needed_alone hr (by omega) rfl (@za _ _ _ _ _ (@pv _ 2 _ _ (by rfl) (by walk_at "v") (by decide) (by decide)) (@ze _) (by rfl)) (by decide) (by rfl) (by rfl)) (by rfl)) (@zp _ _ 7 _ qS.nd rfl (Or.inl rfl) (by walk_at "f")) (@zm _ _ _ (@jk _ _ _ _ _ _ _ _ (@ZZ _ _ _ (@zr _ _ _ _ _ _ _ _ _ _ _ d_is_letter hr (by omega) rfl (@za _ _ _ _ _ (@pv _ 7 _ _ (by rfl) (by walk_at "v") (by decide) (by decide)) (@ze _) (by rfl)) (by decide) (by rfl) (by rfl)) (by intro _; rfl)) (@zm _ _ _ (@qy _ _ _ _ (@jD _ K _ _ _ _ _ _ _ _ _ _ _ PySem.F.plainAttrs_list PySem.F.slot_list_append PySem.F.type_list_append (@qE _) (@pv _ 6 _ _ (by rfl) (by walk_at "v") (by decide) (by decide)) (@za _ _ _ _ _ (@zx _ _ _ _ _ _ _ _ _ (@zt _ K (by rfl)) rfl gb.tuple qm (@za _ _ _ _ _ (@zx _ _ _ _ _ _ _ _ _ (@jO _ K (by rfl)) rfl gb.list j7 (@za _ _ _ _ _ (@wP _ _ _ _ _ _ (@pv _ 3 _ _ (by rfl) (by walk_at "v") (by decide) (by decide)) (@pv _ 7 _ _ (by rfl) (by walk_at "v") (by decide) (by decide)) (fun _ _ => rfl)) (@ze _) (by rfl)) (by decide) (by decide) (by rfl) (by rfl)) (@ze _) (by rfl)) (by decide) (by decide) (by rfl) (by rfl)) (@ze _) (by rfl)) (by rfl) (by rfl) (by rfl) (by rfl) (by rfl) (by rfl)) (by rfl))) (@zm _ _ _ (@qy _ _ _ _ (@jD _ K _ _ _ _ _ _ _ _ _ _ _ PySem.F.plainAttrs_list PySem.F.slot_list_append PySem.F.type_list_append (@qE _) (@pv _ 6 _ _ (by rfl) (by walk_at "v") (by decide) (by decide)) (@za _ _ _ _ _ (@zr _ _ _ _ _ _ _ _ _ _ _ d_line_column hr (by omega) rfl (@za _ _ _ _ _ (@pv _ 0 _ _ (by rfl) (by walk_at "v") (by decide) (by decide)) (@za _ _ _ _ _ (@pv _ 5 _ _ (by rfl) (by walk_at "v") (by decide) (by decide)) (@za _ _ _ _ _ (@pv _ 6 _ _ (by rfl) (by walk_at "v") (by decide) (by decide)) (@za _ _ _ _ _ (@pv _ 7 _ _ (by rfl) (by walk_at "v") (by decide) (by decide)) (@za _ _ _ _ _ (@zA _ _ _ _ _ _ _ _ _ (@qf _ K (by rfl)) rfl gb.len jg (@za _ _ _ _ _ (@zQ _ _ _ _ _ _ _ (@zq _ K (by rfl)) (@zQ _ _ _ _ _ _ _ (@zq _ K (by rfl)) (@pv _ 1 _ _ (by rfl) (by walk_at "v") (by decide) (by decide)) (@zj _ _ _ _) (fun _ _ => rfl)) (@zj _ _ _ _) (fun _ _ => rfl)) (@ze _) (by rfl)) (by decide) (by decide) (by rfl) (by rfl)) (@ze _) (by rfl)) (by rfl)) (by rfl)) (by rfl)) (by rfl)) (by decide) (by rfl) (by rfl)) (@ze _) (by rfl)) (by rfl) (by rfl) (by rfl) (by rfl) (by rfl) (by rfl)) (by rfl))))) (by intro _; rfl)) (@zm _ _ _ (@zP _ _ _ _ (@zQ _ _ _ _ _ _ _ (@zq _ K (by rfl)) (@pv _ 6 _ _ (by rfl) (by walk_at "v") (by decide) (by decide)) (@pe_un _ _ _ _ _ _ (@un_neg _) (@zj _ _ _ _)) (fun _ _ => rfl))))))))))), ?_⟩
 obtain ⟨hct, hpr, cpl, hget, ndL, L1, L3⟩ := hcol
 obtain ⟨a, w0, c0, vs, rfl, h1, h2, h3, h4⟩ := id ia
 have hul := Paired.length hls
 have gcs : ∀ c ∈ T.cs, c.pl <= 2 := fun c hc => (gT.cn c hc).2.1
 refine ⟨_, rfl, ct, cvs, cps, rfl, hct, hpr, fun gv hgv => ?_⟩
 have m1 := zf hgv (.dK (putAll [] cps))
 have gval : ∀ x ∈ LT, ∃ t, jb (putAll [] cps) (Sum.inr x) = some (.ref t) /\ H t = some (.tup (((List.range len).map fun k => γ k x).map nV)) := fun x hx => by
  obtain ⟨i, hi⟩ := List.mem_iff_getElem?.mp hx
  obtain ⟨t, e1, e2⟩ := hget i x hi
  refine ⟨t, Jf cps [] ((Sum.inr x : Key), V.ref t) ?_ (List.mem_of_getElem? e1), e2⟩
  rw [YT cpl fun i x h => by obtain ⟨t, e, _⟩ := hget i x h; exact ⟨_, e⟩]
  unfold List.Nodup at ndL ⊢
  rw [List.pairwise_map]
  exact ndL.imp fun hab e => hab (Sum.inr.inj e)
 have hgv1 : (upd H gv (.dK (putAll [] cps))) gv = some (.dK (putAll [] cps)) := zd
 generalize putAll [] cps = gkvs at *
 generalize upd H gv (.dK gkvs) = H1 at *
 refine ⟨_, rfl, lt, us, ls, T, LT, rfl, .inl (m1 _ _ hlt), Lns.tk (Tk.of m1) hls, hG, gcs, hL, l1, l20, fun nl ns0 H2 s2 hnl clos => ?_⟩
 have nsl : ns0.length <= 28 := Nat.le_trans (Tn.nodup_len ls.length ns0 clos.nd clos.lt) l20
 refine ⟨nl, rfl, ⟨_, SqL.of hnl⟩, fun D hD => ?_⟩
 have S2 := m1.trans s2
 have gl : ∀ n, n < ls.length -> ls[n]? = some (ls.getD n (.inl "")) := fun n hn => by simp [List.getD, hn]
 refine j8 (xs := ns0.map nV) (fun i ys H' => zR H2 H' /\ Lns H' ((ns0.take i).map fun n => ls.getD n (.inl "")) ys /\ ys.length = i) ⟨zf hD _, .nil, rfl⟩ (fun i ys H' h _ => SqL.of (h.1 _ _ hnl)) ?_ ?_
 ·rintro i ys H3 x hx ⟨s3, hY, yl⟩ hD3
  have hi := (List.getElem?_eq_some_iff.mp hx).1
  rw [List.length_map] at hi
  rw [List.getElem?_map] at hx
  obtain ⟨n, hn, rfl⟩ := Option.map_eq_some_iff.mp hx
  have hnl' := clos.lt n (List.mem_of_getElem? hn)
  have hui : us[n]? = some us[n] := List.getElem?_eq_getElem (by omega)
  generalize us[n] = u at hui
  have iu := Paired.at hls n _ _ (gl n hnl') hui
  refine yes ⟨_, rfl, _, rfl, .inr (.inl ⟨lt, _, _, _, rfl, rfl, SqT.of ((S2.trans s3) _ _ hlt), qC hui, ?_⟩)⟩
  refine ZL (by rw [List.length_map]; exact hi) jy hD3 (zo (by omega)) ⟨s3.put hD, ?_, by rw [List.length_append, yl]; rfl⟩
  rw [take_snoc hn, List.map_append]
  exact Lns.tk (Tk.put hD3) (Lns.snoc hY (iu.tk (Tk.of (S2.trans s3))))
 rintro wys H3 ⟨s3, hY, yl⟩ hD3
 rw [List.length_map, List.take_length] at hY
 have S3 := S2.trans s3
 refine ⟨_, rfl, .ref a, T, rfl, ia.same S3, gT, nT, fun e' H4 s4 hcd => ?_⟩
 have hin : ∀ s ∈ ns0.map (fun n => ls.getD n (.inl "")), ∃ i, ls[i]? = some s := fun s hs => by
  obtain ⟨n, hn, rfl⟩ := List.mem_map.mp hs
  exact ⟨n, gl n (clos.lt n hn)⟩
 refine ⟨_, rfl, _, rfl, e', D, wys, ns0.map fun n => ls.getD n (.inl ""), T, LT, rfl, hcd, s4 _ _ hD3, Lns.tk (Tk.of s4) hY, (fun s hs => by obtain ⟨i, hi⟩ := hin s hs; exact ⟨i, hG i s hi⟩), hL, fun H5 s5 => ?_⟩
 have S5 := S3.trans (s4.trans s5)
 refine ⟨_, rfl, _, rfl, gv, D, wys, ns0.map fun n => ls.getD n (.inl ""), LT, gkvs, rfl, (s2.trans (s3.trans (s4.trans s5))) _ _ hgv1, (s4.trans s5) _ _ hD3, Lns.tk (Tk.of (s4.trans s5)) hY, (fun s hs x e => by obtain ⟨i, hi⟩ := hin s hs; have := hG i s hi; rw [e] at this; exact this), hL, (fun x hx => by obtain ⟨t, e, _⟩ := gval x hx; rw [e]; rfl), fun H6 s6 => ?_⟩
 have S6 := S5.trans s6
 refine ⟨zy (by show 0 <= 1000; decide), fun al hal => ?_⟩
 have n7 := zf hal (.lst [])
 have S7 := S6.trans n7
 refine ⟨_, rfl, lt, us, ls, T, LT, rfl, .inl (S7 _ _ hlt), Lns.tk (Tk.of S7) hls, hG, gcs, hL, l1, l20, fun t' us' ns H8 s8 ht' clo ris hL' => ⟨t', rfl, ⟨_, SqT.of ht'⟩, ?_⟩⟩
 have S8 := S7.trans s8
 have nsl2 : ns.length <= 28 := Nat.le_trans (Tn.nodup_len ls.length ns clo.nd clo.lt) l20
 have hul' := Paired.length hL'
 rw [List.length_map] at hul'
 have hal8 : H8 al = some (.lst []) := s8 _ _ zd
 have Hal : H al = none := S6.free hal
 have hcd8 : IsCd H8 e' T := (hcd.same (s5.trans (s6.trans (n7.trans s8))))
 have hgv8 : H8 gv = some (.dK gkvs) := (s2.trans (s3.trans (s4.trans (s5.trans (s6.trans (n7.trans s8)))))) _ _ hgv1
 have gval' : al ≠ gv := fun e => by rw [e, hgv8] at hal8; cases hal8
 refine Q0 (xs := us') (fun i σ H' => (∃ x7, σ = [some (.ref a), some (.ref ct), some (.ref lt), some (.ref gv), some (.ref D), some (.ref e'), some (.ref al), x7]) /\ zR H H' /\ Off al H8 H' /\ Tk H8 H' /\ ∃ avs, H' al = some (.lst avs) /\ ZW H' ((ns.take i).map (jZ T γ ls len)) avs /\ avs.length = i) ⟨⟨_, rfl⟩, S8, Off.refl, (fun _ _ h => h), [], hal8, .nil, rfl⟩ (fun i σ H' _ h => SqT.of (h.2.2.2.1 _ _ ht')) ?_ ?_
 ·rintro i x σ H9 hx ⟨⟨x7, rfl⟩, s9, o9, k9, avs, hal9, hC9, al9⟩
  have hi : i < us'.length := (List.getElem?_eq_some_iff.mp hx).1
  have hn : ns[i]? = some ns[i] := List.getElem?_eq_getElem (by omega)
  generalize ns[i] = n at hn
  have hnm := List.mem_of_getElem? hn
  have hnl := clo.lt n hnm
  have hln := gl n hnl
  have il : IsLn H8 (reN ns (ls.getD n (.inl ""))) x := Paired.at hL' i _ _ (by rw [List.getElem?_map, hn]; rfl) hx
  have hcd9 : IsCd H9 e' T := by
   obtain ⟨kvs, e1, e2⟩ := hcd8
   refine ⟨kvs, o9 _ _ (fun e => by rw [e, hal8] at e1; cases e1) e1, fun c hc => ?_⟩
   obtain ⟨u, f1, f2⟩ := e2 c hc
   exact ⟨u, f1, k9 _ _ f2⟩
  have hgv9 := o9 gv _ (Ne.symm gval') hgv8
  have fin : ∀ (H' : Hp) (tn : Addr), zR H9 H' -> H' tn = some (.tup ((jZ T γ ls len n).map nV)) -> ((∃ x7, [some (.ref a), some (.ref ct), some (.ref lt), some (.ref gv), some (.ref D), some (.ref e'), some (.ref al), some x] = [some (V.ref a), some (.ref ct), some (.ref lt), some (.ref gv), some (.ref D), some (.ref e'), some (.ref al), x7]) /\ zR H (upd H' al (.lst (avs ++ [.ref tn]))) /\ Off al H8 (upd H' al (.lst (avs ++ [.ref tn]))) /\ Tk H8 (upd H' al (.lst (avs ++ [.ref tn]))) /\ ∃ avs', (upd H' al (.lst (avs ++ [.ref tn]))) al = some (.lst avs') /\ ZW (upd H' al (.lst (avs ++ [.ref tn]))) ((ns.take (i + 1)).map (jZ T γ ls len)) avs' /\ avs'.length = i + 1) := fun H' tn s' htn => by
   have hal' := s' _ _ hal9
   refine ⟨⟨_, rfl⟩, (s9.trans s').put Hal, fun b o hb e => by rw [zE hb]; exact s' _ _ (o9 b o hb e), (fun b xs e => Tk.put hal' _ _ (s' _ _ (k9 b xs e))), avs ++ [.ref tn], zd, ?_, by rw [List.length_append, al9]; rfl⟩
   rw [take_snoc hn, List.map_append]
   exact ZW.tk (Tk.put hal') (ZW.snoc (ZW.tk (Tk.of s') hC9) htn)
  refine ⟨_, rfl, x, reN ns (ls.getD n (.inl "")), rfl, il.tk k9, (fun y e => ?_), fun H10 s10 => ⟨_, rfl, ?_⟩⟩
  ·cases hz : ls.getD n (.inl "") with
   | inl w =>
    rw [hz] at e hln
    cases e
    exact hG.ltr hL hln _ rfl
   | inr z =>
    rw [hz] at e
    cases e
  have hal10 := s10 _ _ hal9
  cases hz : ls.getD n (.inl "") with
  | inl y =>
   rw [hz] at hln il
   obtain rfl : x = .str y := il
   obtain ⟨tc, v1, v2⟩ := gval y (hG n _ hln)
   have htc := (s9.trans s10) _ _ v2
   refine yv ?_
   refine ⟨_, rfl, .inl ⟨rfl, _, SqL.of hal10⟩, _, rfl, _, rfl, gv, gkvs, Sum.inr y, _, rfl, s10 _ _ hgv9, rfl, v1, tc, _, rfl, .inr (SqT.of htc), fun l hl => ?_⟩
   have n11 := zf hl (.lst (((List.range len).map fun k => γ k y).map nV))
   refine ⟨l, _, rfl, .inl ⟨SqL.of zd, fun t2 ht2 => ?_⟩⟩
   have n12 := zf ht2 (.tup (((List.range len).map fun k => γ k y).map nV))
   refine ⟨al, avs, _, rfl, rfl, (n11.trans n12) _ _ hal10, zo (by omega), ?_⟩
   refine fin _ t2 (s10.trans (n11.trans n12)) ?_
   rw [zd, jK γ len hln]
  | inr z =>
   rw [hz] at hln il
   obtain ⟨t, rfl, ht⟩ := il
   have gz := hG n _ hln
   obtain ⟨zb, c, hc, cn, cp⟩ := gz
   refine Wz ?_
   obtain ⟨x0, hx0⟩ : ∃ x0, LT[0]? = some x0 := ⟨LT[0], List.getElem?_eq_getElem (by omega)⟩
   obtain ⟨t0, e0, e00⟩ := hget 0 x0 hx0
   have hcl0 := Paired.length hpr
   have hcv : cvs[0]? = some cvs[0] := List.getElem?_eq_getElem (by omega)
   generalize cvs[0] = cv at hcv
   obtain ⟨b0, rfl, hb0⟩ := Paired.at hpr 0 _ _ hcv e0
   have SA := s9.trans s10
   have h2z : z.2.length <= 2 := by have := gcs c hc; omega
   have ix : ∀ m ∈ z.2, ns.idxOf m < i /\ ns[ns.idxOf m]? = some m := fun m hm => YR ris hn (clo.cl n hnm z hln m hm) (zb m hm)
   have tkl : (ns.take i).length = i := by rw [List.length_take]; omega
   refine ⟨_, rfl, .inl ⟨rfl, _, SqL.of hal10⟩, _, rfl, _, rfl, _, rfl, _, rfl, _, rfl, .inr (.inl ⟨ct, _, 0, _, rfl, rfl, SqT.of (SA _ _ hct), qC (j := 0) hcv, .inr (.inl ⟨b0, _, 1, _, rfl, rfl, SqT.of (SA _ _ hb0), rfl, _, _, rfl, .inr ⟨_, SqT.of (SA _ _ e00), rfl⟩, ?_⟩)⟩)⟩
   refine ⟨.ref a, e', al, t, T, (z.1, z.2.map fun m => ns.idxOf m), (ns.take i).map (jZ T γ ls len), avs, len, by (show [_, _, _, _, V.int _] = _; rw [List.length_map, List.length_map, List.length_range]), ia.same SA, gT, nT, hcd9.same s10, hal10, ZW.tk (Tk.of s10) hC9, (fun col hcol => ?_), s10 _ _ (k9 _ _ ht), (fun q' hq' => ?_), ⟨c, hc, cn, by rw [cp, List.length_map]⟩, n9, fun t2 H11 s11 ht2 => ?_⟩
   ·obtain ⟨m, hm, rfl⟩ := List.mem_map.mp hcol
    refine ⟨Jn T γ ls len m, fun y hy => ?_⟩
    obtain ⟨k, _, rfl⟩ := List.mem_map.mp hy
    exact Ji gT nT hG (bd k) (m + 1) m (Nat.lt_succ_self _) (clo.lt m (List.mem_of_mem_take hm))
   ·obtain ⟨m, hm, rfl⟩ := List.mem_map.mp hq'
    rw [List.length_map, tkl]
    exact (ix m hm).1
   ·have hal11 := s11 _ _ hal10
    refine ⟨al, avs, _, rfl, rfl, hal11, zo (by omega), ?_⟩
    refine fin _ t2 (s10.trans s11) ?_
    rw [ht2, ZE γ hG len hln]
    congr 3
    refine List.map_congr_left fun k hk => ?_
    show cellOf T z.1 ((z.2.map fun m => ns.idxOf m).map fun n => Tn.at' (((ns.take i).map (jZ T γ ls len)).getD n []) k) = _
    congr 1
    rw [List.map_map]
    refine List.map_congr_left fun m hm => ?_
    obtain ⟨i1, i2⟩ := ix m hm
    have e3 : ((ns.take i).map (jZ T γ ls len)).getD (ns.idxOf m) [] = jZ T γ ls len m := by
     rw [List.getD_eq_getElem?_getD, List.getElem?_map, List.getElem?_take_of_lt i1, i2]
     rfl
    show Tn.at' (((ns.take i).map (jZ T γ ls len)).getD (ns.idxOf m) []) k = _
    rw [e3, Qk T γ ls m (List.mem_range.mp hk)]
 ·rintro σ H9 ⟨⟨x7, rfl⟩, s9, o9, k9, avs, hal9, hC9, al9⟩
  rw [<- hul', List.take_length] at hC9
  obtain ⟨ms, ems⟩ := YS ris clo.lt clo.last
  rw [ems, List.map_append] at hC9
  obtain ⟨us9, t9, e9, ht9⟩ := YU hC9
  rw [e9] at hal9
  exact ⟨_, rfl, _, rfl, .inl ⟨al, _, _, _, rfl, rfl, SqL.of hal9, Wx _ _, q t9 H9 s9 ht9⟩⟩
abbrev QX : Stmt := top 19
theorem sc_keep : zH ["found", "column", "line"] ["found", "column", "line"] (zg QX) := ⟨rfl, rfl, rfl, by decide +kernel, rfl, by decide +kernel, by decide +kernel⟩
theorem ok_keep {P : Program} {w : World} {K : PySem.W.Frag} {mg : Str -> Option Value} {base : Heap} {f : Addr} {fd : FuncData} (F : Fun K "keep" "keep" QX f fd) (gb : Gb mg) {c : Nat -> Addr} (cl : Cl K mg c) : jY P w K mg base CX0 1 f fd ["found", "column", "line"] WQ := by
 refine F.ok sc_keep (fun vs H Q E h => ?_) (fun cdv A outer s H vs Q E hr h => ?_)
 ·obtain ⟨fd, c, col, kvs, lv, rfl, _⟩ := h
  rfl
 obtain ⟨fd, c, col, kvs, lv, rfl, hfd, hc, h81, q1, q0⟩ := h
 refine ⟨_, (@zm _ _ _ (@jk _ _ _ _ _ _ _ _ (@zL _ _ _ _ _ _ _ _ (@Qe _ _ hr) (@pv _ 1 _ _ (by rfl) (by walk_at "v") (by decide) (by decide)) (@pv _ 0 _ _ (by rfl) (by walk_at "v") (by decide) (by decide)) (by with_unfolding_all rfl)) (@zh _ _ _ _ _ (@jk _ _ _ _ _ _ _ _ (@zL _ _ _ _ _ _ _ _ (@Zg _) (@zA _ _ _ _ _ _ _ _ _ (@QW _) rfl gb.len jg (@za _ _ _ _ _ (@pv _ 0 _ _ (by rfl) (by walk_at "v") (by decide) (by decide)) (@ze _) (by rfl)) (by decide) (by decide) (by rfl) (by rfl)) (@pe_globR _ _ _ _ rfl gb.MOST_COLUMNS (by decide)) (@qh _ _ (by decide) (by decide))) (@zm _ _ _ (@QZ _ _)) (@zW _)) (@zm _ _ _ (@ps_dput _ _ _ _ _ _ _ _ _ (@hu1 _ _ hr) (@pv _ 0 _ _ (by rfl) (by walk_at "v") (by decide) (by decide)) (@pv _ 1 _ _ (by rfl) (by walk_at "v") (by decide) (by decide)) (@pv _ 2 _ _ (by rfl) (by walk_at "v") (by decide) (by decide)) rfl))) (@zW _))), ?_⟩
 refine ⟨_, rfl, _, rfl, fd, c, kvs, Qz col, rfl, rfl, hfd, by rw [WH]; exact hc, ?_⟩
 cases hv : jb kvs (Qz col) with
 | some x => exact ⟨_, rfl, Wz (q1 (by rw [hv]; rfl))⟩
 | none =>
  refine ⟨_, rfl, yv ?_⟩
  refine ⟨_, rfl, fd, kvs, rfl, hfd, rfl, _, rfl, iteN (decide_eq_false fun z => ?_) ?_⟩
  ·have := V.int.inj z
   omega
  ·refine ⟨_, rfl, _, rfl, _, rfl, fd, _, rfl, .t (k := Qz col) hfd (by rw [WH]; exact hc) (zo (by omega)), ?_⟩
   rw [Ja _ hv]
   exact q0 hv
abbrev zC : Stmt := top 21
theorem j3 : zH ["T"] ["T"] (zg zC) := ⟨rfl, rfl, rfl, by decide +kernel, rfl, by decide +kernel, by decide +kernel⟩
theorem j4 {P : Program} {w : World} {K : PySem.W.Frag} {mg : Str -> Option Value} {base : Heap} {f : Addr} {fd : FuncData} (F : Fun K "lines_without_parts" "lines_without_parts" zC f fd) (gb : Gb mg) {c : Nat -> Addr} (cl : Cl K mg c) : jY P w K mg base CX0 1 f fd ["T"] Jp := by
 refine F.ok j3 (fun vs H Q E h => ?_) (fun cdv A outer s H vs Q E hr h => ?_)
 ·obtain ⟨v, T, rfl, _⟩ := h
  rfl
 obtain ⟨v, T, rfl, ia, gT, q⟩ := h
 have nd0 : (["name", "places", "cells"] : List Str).Nodup := by decide +kernel
 refine ⟨_, (@zm _ _ _ (@zP _ _ _ _ (@zX _ ["name", "places", "cells"] [none, none, none] _ _ _ _ _ _ _ _ _ _ (by exact (show zN ["T"] (zg zC) ["name", "places", "cells"] [none, none, none] _ from ⟨rfl, by decide +kernel, by decide +kernel, by decide +kernel, by decide +kernel, rfl, by decide +kernel⟩)) rfl (@ji _ K _ _ _ (@zQ _ _ _ _ _ _ _ (@zq _ K (by rfl)) (@pv _ 0 _ _ (by rfl) (by walk_at "v") (by decide) (by decide)) (@zj _ _ _ _) (fun _ _ => rfl)) (by rfl)) (fun _ _ _ _ => (@jP _ K _ _ _ _ 3 rfl (@zK _ _ _ _ _ (@zp _ _ 0 _ nd0 rfl (Or.inl rfl) (by walk_at "f")) (@zK _ _ _ _ _ (@zp _ _ 1 _ nd0 rfl (Or.inl rfl) (by walk_at "f")) (@zK _ _ _ _ _ (@zp _ _ 2 _ nd0 rfl (Or.inl rfl) (by walk_at "f")) (@jM _) (by rfl)) (by rfl)) (by rfl)) (by rfl) (by rfl) (by rfl))) (fun _ _ _ _ => (@pf_one _ _ _ (@zL _ _ _ _ _ _ _ _ (@Zg _) (@pv _ 1 _ _ (by rfl) (by walk_at "v") (by decide) (by decide)) (@zj _ _ _ _) (@qh _ _ (by decide) (by decide))))) (fun _ _ _ _ => (@qB _ _ _ _ _ (@za _ _ _ _ _ (@pv _ 0 _ _ (by rfl) (by walk_at "v") (by decide) (by decide)) (@ze _) (by rfl)))) (by intro _; rfl)))), ?_⟩
 obtain ⟨a, w0, c0, vs, rfl, h1, h2, h3, h4⟩ := id ia
 have gcl := gT.cl
 have gx : ∀ i, ∃ t u : Addr, i < T.cs.length -> vs[i]? = some (.ref t) /\ H t = some (.tup [.str (T.cs.getD i d0).nm, nV (T.cs.getD i d0).pl, .ref u]) /\ H u = some (.tup ((T.cs.getD i d0).cs.map nV)) := fun i => by
  by_cases hi : i < T.cs.length
  ·have hc : T.cs[i]? = some (T.cs.getD i d0) := by simp [List.getD, hi]
   obtain ⟨t, u, h⟩ := h4.get hc
   exact ⟨t, u, fun _ => h⟩
  ·exact ⟨0, 0, fun h => absurd h hi⟩
 obtain ⟨ad, gx⟩ := Classical.axiomOfChoice gx
 obtain ⟨au, gx⟩ := Classical.axiomOfChoice gx
 have ge : ∀ i, i < T.cs.length -> T.cs[i]? = some (T.cs.getD i d0) := fun i hi => by simp [List.getD, hi]
 refine ⟨_, rfl, .inr (.inl ⟨a, _, 2, _, rfl, rfl, SqT.of h1, rfl, c0, rfl, ⟨_, SqT.of h3⟩, fun D hD => ?_⟩)⟩
 refine Z9 (n := T.cs.length) (ad := ad) (v1 := fun i => .str (T.cs.getD i d0).nm) (v2 := fun i => nV (T.cs.getD i d0).pl) (v3 := fun i => .ref (au i)) (more := []) (fun i ys H' => zR H H' /\ ys.length <= i /\ Lzs H' (l0 (T.cs.take i)) ys) ⟨zf hD _, Nat.le_refl _, .nil⟩ h4.len.symm (fun i hi => (gx i hi).1) (fun i ys H' h _ => SqT.of (h.1 _ _ h3)) (fun i ys H' hi h => SqT.of (h.1 _ _ (gx i hi).2.1)) ?_ ?_
 ·rintro i ys H1 hi ⟨s1, yl, hP⟩ hD1
  refine ⟨_, rfl, rfl, _, rfl, ?_⟩
  have et := take_snoc (ge i hi)
  by_cases e : (T.cs.getD i d0).pl = 0
  ·refine iteP (decide_eq_true (by rw [e]; rfl)) ⟨_, rfl, zy (by show 1 <= 1000; decide), fun t1 ht1 => ?_⟩
   have n1 := zf ht1 (.tup [.str (T.cs.getD i d0).nm])
   have hD2 := n1 _ _ hD1
   refine ZL hi ⟨_, _, _, rfl⟩ hD2 (zo (by omega)) ⟨(s1.trans n1).put hD, by rw [List.length_append]; show ys.length + 1 <= i + 1; omega, ?_⟩
   have e2 : l0 (T.cs.take (i + 1)) = l0 (T.cs.take i) ++ [((T.cs.getD i d0).nm, [])] := by rw [et, l0_yes _ e]
   rw [e2]
   unfold Lzs
   rw [List.map_append]
   exact Lns.snoc (Lns.tk (Tk.put hD2) (Lns.tk (Tk.of n1) hP)) ⟨t1, rfl, Tk.put hD2 _ _ zd⟩
  ·refine iteN (decide_eq_false fun z => e ?_) (cno hi ⟨_, _, _, rfl⟩ hD1 ⟨s1, by omega, ?_⟩)
   ·have := V.int.inj z
    omega
   ·have e2 : l0 (T.cs.take (i + 1)) = l0 (T.cs.take i) := by rw [et, l0_no _ e]
    rw [e2]
    exact hP
 ·rintro ys H1 ⟨s1, yl, hP⟩ hD1
  rw [List.take_length] at hP
  exact q D ys H1 s1 hD1 hP
abbrev qj : Stmt := top 22
theorem qY : zH ["T", "number", "lines", "name", "places", "cells"] ["T", "number"] (zg qj) := ⟨rfl, rfl, rfl, by decide +kernel, rfl, by decide +kernel, by decide +kernel⟩
theorem Jw {P : Program} {w : World} {K : PySem.W.Frag} {mg : Str -> Option Value} {base : Heap} {f : Addr} {fd : FuncData} (F : Fun K "lines_with" "lines_with" qj f fd) (gb : Gb mg) {c : Nat -> Addr} (cl : Cl K mg c) : jY P w K mg base CX0 1 f fd ["T", "number"] Jq := by
 refine F.ok qY (fun vs H Q E h => ?_) (fun cdv A outer s H vs Q E hr h => ?_)
 ·obtain ⟨v, T, k, rfl, _⟩ := h
  rfl
 obtain ⟨v, T, k, rfl, ia, gT, k20, q⟩ := h
 have nd0 : (["other", "name", "number"] : List Str).Nodup := by decide +kernel
 have nd1 : (["other", "name", "number"] : List Str).Nodup := by decide +kernel
 refine ⟨_, (@zh _ _ _ _ _ (@zv _ _ 2 _ _ _ _ qY.nd rfl (Or.inl rfl) (@q5 _ _ _ _ (@ze _)) (by rfl) (by walk_at "f")) (@zh _ _ _ _ _ (@qU _ _ _ _ _ _ _ _ PassesOwn.never rfl (@ji _ K _ _ _ (@zQ _ _ _ _ _ _ _ (@zq _ K (by rfl)) (@pv _ 0 _ _ (by rfl) (by walk_at "v") (by decide) (by decide)) (@zj _ _ _ _) (fun _ _ => rfl)) (by rfl)) (@jP _ K _ _ _ _ 3 rfl (@zK _ _ _ _ _ (@zp _ _ 3 _ qY.nd rfl (Or.inr rfl) (by walk_at "f")) (@zK _ _ _ _ _ (@zp _ _ 4 _ qY.nd rfl (Or.inl rfl) (by walk_at "f")) (@zK _ _ _ _ _ (@zp _ _ 5 _ qY.nd rfl (Or.inl rfl) (by walk_at "f")) (@jM _) (by rfl)) (by rfl)) (by rfl)) (by rfl) (by rfl) (by rfl)) (@zh _ _ _ _ _ (@jk _ _ _ _ _ _ _ _ (@zL _ _ _ _ _ _ _ _ (@Zg _) (@pv _ 4 _ _ (by rfl) (by walk_at "v") (by decide) (by decide)) (@zj _ _ _ _) (@qh _ _ (by decide) (by decide))) (@zm _ _ _ (@qy _ _ _ _ (@jD _ K _ _ _ _ _ _ _ _ _ _ _ PySem.F.plainAttrs_list PySem.F.slot_list_append PySem.F.type_list_append (@qE _) (@pv _ 2 _ _ (by rfl) (by walk_at "v") (by decide) (by decide)) (@za _ _ _ _ _ (@qB _ _ _ _ _ (@za _ _ _ _ _ (@pv _ 3 _ _ (by rfl) (by walk_at "v") (by decide) (by decide)) (@za _ _ _ _ _ (@pv _ 1 _ _ (by rfl) (by walk_at "v") (by decide) (by decide)) (@ze _) (by rfl)) (by rfl))) (@ze _) (by rfl)) (by rfl) (by rfl) (by rfl) (by rfl) (by rfl) (by rfl)) (by rfl))) (@zW _)) (@zm _ _ _ (@jk _ _ _ _ _ _ _ _ (@zL _ _ _ _ _ _ _ _ (@Zg _) (@pv _ 4 _ _ (by rfl) (by walk_at "v") (by decide) (by decide)) (@zj _ _ _ _) (@qh _ _ (by decide) (by decide))) (@zh _ _ _ _ _ (@qy _ _ _ _ (@jD _ K _ _ _ _ _ _ _ _ _ _ _ PySem.F.plainAttrs_list PySem.F.slot_list_extend PySem.F.type_list_extend (@Z3 _) (@pv _ 2 _ _ (by rfl) (by walk_at "v") (by decide) (by decide)) (@za _ _ _ _ _ (@zX _ ["other", "name", "number"] [none, some 3, some 1] _ _ _ _ _ _ _ _ _ _ (by exact (show zN ["T", "number", "lines", "name", "places", "cells"] (zg qj) ["other", "name", "number"] [none, some 3, some 1] _ from ⟨rfl, by decide +kernel, by decide +kernel, by decide +kernel, by decide +kernel, rfl, by decide +kernel⟩)) rfl (@zS _ _ _ _ _ _ rfl gb.range (@za _ _ _ _ _ (@zO _ _ _ _ _ _ _ _ (@qV _) (@pv _ 1 _ _ (by rfl) (by walk_at "v") (by decide) (by decide)) (@zj _ _ _ _)) (@ze _) (by rfl)) (by rfl)) (fun _ _ _ _ => (@zp _ _ 0 _ nd0 rfl (Or.inl rfl) (by walk_at "f"))) (fun _ _ _ _ => (@qi _)) (fun _ _ _ _ => (@qB _ _ _ _ _ (@za _ _ _ _ _ (@pv _ 1 _ _ (by rfl) (by walk_at "v") (by decide) (by decide)) (@za _ _ _ _ _ (@pv _ 2 _ _ (by rfl) (by walk_at "v") (by decide) (by decide)) (@za _ _ _ _ _ (@pv _ 0 _ _ (by rfl) (by walk_at "v") (by decide) (by decide)) (@ze _) (by rfl)) (by rfl)) (by rfl)))) (by intro _; rfl)) (@ze _) (by rfl)) (by rfl) (by rfl) (by rfl) (by rfl) (by rfl) (by rfl)) (by rfl)) (@zm _ _ _ (@qy _ _ _ _ (@jD _ K _ _ _ _ _ _ _ _ _ _ _ PySem.F.plainAttrs_list PySem.F.slot_list_extend PySem.F.type_list_extend (@Z3 _) (@pv _ 2 _ _ (by rfl) (by walk_at "v") (by decide) (by decide)) (@za _ _ _ _ _ (@zX _ ["other", "name", "number"] [none, some 3, some 1] _ _ _ _ _ _ _ _ _ _ (by exact (show zN ["T", "number", "lines", "name", "places", "cells"] (zg qj) ["other", "name", "number"] [none, some 3, some 1] _ from ⟨rfl, by decide +kernel, by decide +kernel, by decide +kernel, by decide +kernel, rfl, by decide +kernel⟩)) rfl (@zS _ _ _ _ _ _ rfl gb.range (@za _ _ _ _ _ (@pv _ 1 _ _ (by rfl) (by walk_at "v") (by decide) (by decide)) (@ze _) (by rfl)) (by rfl)) (fun _ _ _ _ => (@zp _ _ 0 _ nd1 rfl (Or.inl rfl) (by walk_at "f"))) (fun _ _ _ _ => (@qi _)) (fun _ _ _ _ => (@qB _ _ _ _ _ (@za _ _ _ _ _ (@pv _ 1 _ _ (by rfl) (by walk_at "v") (by decide) (by decide)) (@za _ _ _ _ _ (@pv _ 0 _ _ (by rfl) (by walk_at "v") (by decide) (by decide)) (@za _ _ _ _ _ (@pv _ 2 _ _ (by rfl) (by walk_at "v") (by decide) (by decide)) (@ze _) (by rfl)) (by rfl)) (by rfl)))) (by intro _; rfl)) (@ze _) (by rfl)) (by rfl) (by rfl) (by rfl) (by rfl) (by rfl) (by rfl)) (by rfl)))) (@zW _)))) (by intro _; rfl)) (@zm _ _ _ (@zP _ _ _ _ (@pv _ 2 _ _ (by rfl) (by walk_at "v") (by decide) (by decide)))))), ?_⟩
 obtain ⟨a, w0, c0, vs, rfl, h1, h2, h3, h4⟩ := id ia
 have gcl := gT.cl
 refine ⟨zy (by show 0 <= 1000; decide), fun sl hsl => ?_⟩
 have n0 := zf hsl (.lst [])
 refine ⟨_, rfl, .inr (.inl ⟨a, _, 2, _, rfl, rfl, SqT.of (n0 _ _ h1), rfl, c0, rfl, ⟨_, SqT.of (n0 _ _ h3)⟩, ?_⟩)⟩
 refine Q0 (xs := vs) (fun i σ H' => (∃ x2 x3 x4, σ = [some (.ref a), some (nV k), some (.ref sl), x2, x3, x4]) /\ zR H H' /\ ∃ xs, H' sl = some (.lst xs) /\ Lzs H' (lw k (T.cs.take i)) xs) ⟨⟨_, _, _, rfl⟩, n0, [], zd, .nil⟩ (fun i σ H' _ h => SqT.of (h.2.1 _ _ h3)) ?_ ?_
 ·rintro i x σ H1 hx ⟨⟨x2, x3, x4, rfl⟩, s1, xs, hs, hS⟩
  have hi : i < T.cs.length := by
   rw [h4.len]
   exact (List.getElem?_eq_some_iff.mp hx).1
  have hcc : T.cs[i]? = some T.cs[i] := List.getElem?_eq_getElem hi
  generalize T.cs[i] = cc at hcc
  obtain ⟨nl, p2, cs3⟩ := gT.cn cc (List.mem_of_getElem? hcc)
  obtain ⟨t, u, e1, k1, k2⟩ := h4.get hcc
  rw [hx] at e1
  cases e1
  have xl : xs.length <= 58 * i := by
   have l1 := Paired.length hS
   have l2 := lw_len k20 (T.cs.take i)
   rw [List.length_take] at l2
   rw [List.length_map] at l1
   omega
  have ew : lw k (T.cs.take (i + 1)) = lw k (T.cs.take i) ++ lwC k cc := by
   rw [take_snoc hcc]
   unfold lw
   rw [List.flatMap_append, List.flatMap_singleton]
  refine ⟨t, _, rfl, SqT.of (s1 _ _ k1), rfl, _, _, rfl, _, _, rfl, _, _, rfl, rfl, ?_⟩
  refine ⟨_, rfl, rfl, _, rfl, ?_⟩
  by_cases p1 : cc.pl = 1
  ·refine iteP (decide_eq_true (by rw [p1]; rfl)) ?_
   refine ⟨_, rfl, .inl ⟨rfl, _, SqL.of hs⟩, _, rfl, _, rfl, zy (by show 2 <= 1000; decide), fun t1 ht1 => ?_⟩
   have n1 := zf ht1 (.tup [.str cc.nm, nV k])
   have hs1 := n1 _ _ hs
   refine ⟨sl, _, _, rfl, rfl, hs1, zo (by omega), ?_⟩
   refine ⟨_, rfl, rfl, _, rfl, ?_⟩
   refine iteN (decide_eq_false fun z => ?_) ?_
   ·have := V.int.inj z
    omega
   refine ⟨⟨_, _, _, rfl⟩, (s1.trans n1).put hsl, _, zd, ?_⟩
   rw [ew]
   have e : lwC k cc = [(cc.nm, [k])] := by
    unfold lwC
    rw [if_pos p1, if_neg (by omega), List.append_nil]
   rw [e]
   exact Lzs.app (Lns.tk ((Tk.of n1).trans (Tk.put hs1)) hS) (.cons ⟨t1, rfl, Tk.put hs1 _ _ zd⟩ .nil)
  refine iteN (decide_eq_false fun z => p1 ?_) ?_
  ·have := V.int.inj z
   omega
  refine ⟨_, rfl, rfl, _, rfl, ?_⟩
  by_cases p2' : cc.pl = 2
  ·refine iteP (decide_eq_true (by rw [p2']; rfl)) ?_
   have half : ∀ (f : Nat -> List Nat) (tt : TA) (n : Nat) (H2 : Hp) (D : Addr) (Q : VK), (∀ o H' Q', Q' (.str cc.nm :: (f o).map nV) H' -> tt [some (nV o), some (.str cc.nm), some (nV k)] H' Q') -> (∀ o, (f o).length = 2) -> n <= 29 -> H2 D = none -> (∀ ys H3, zR H2 H3 -> H3 D = some (.lst ys) -> ys.length = n -> Lzs H3 ((List.range n).map fun o => (cc.nm, f o)) ys -> Q (.ref D) H3) ->
     jC (Itr 0 n) (jJ 0) tYes (tTup tt) [none, some (.str cc.nm), some (nV k)] H2 Q D := fun f tt n H2 D Q ht hf hn hD q2 => by
    refine qv (fun j ys H' => zR H2 H' /\ ys.length = j /\ Lzs H' ((List.range j).map fun o => (cc.nm, f o)) ys) ⟨zf hD _, rfl, .nil⟩ ?_ ?_
    ·rintro j ys H3 hj ⟨s3, yl, hY⟩ hD3
     have ej : V.int (0 + (j : Int)) = nV j := by show V.int _ = V.int _; rw [Int.zero_add]
     rw [ej]
     refine yes (ht j H3 _ ⟨zy (by rw [List.length_cons, List.length_map, hf]; decide), fun t1 ht1 => ?_⟩)
     have n1 := zf ht1 (.tup (.str cc.nm :: (f j).map nV))
     have hD4 := n1 _ _ hD3
     refine ZL hj jy hD4 (zo (by omega)) ⟨(s3.trans n1).put hD, by rw [List.length_append, yl]; rfl, ?_⟩
     rw [List.range_succ, List.map_append]
     exact Lzs.app (Lns.tk ((Tk.of n1).trans (Tk.put hD4)) hY) (.cons ⟨t1, rfl, Tk.put hD4 _ _ zd⟩ .nil)
    ·rintro ys H3 ⟨s3, yl, hY⟩ hD3
     exact q2 ys H3 s3 hD3 yl hY
   refine ⟨_, rfl, .inl ⟨rfl, _, SqL.of hs⟩, ?_⟩
   refine ⟨_, rfl, _, _, rfl, rfl, (k : Int) + 1, rfl, by omega, by omega, fun D hD => ?_⟩
   rw [show ((k : Int) + 1).toNat = k + 1 by omega]
   refine half (fun o => [k, o]) _ (k + 1) H1 D _ (fun o H' Q' h => ⟨_, rfl, _, rfl, _, rfl, h⟩) (fun o => rfl) (by omega) hD fun ys H2 s2 hD2 yl hY => ?_
   have hs2 := s2 _ _ hs
   refine ⟨sl, D, _, _, rfl, rfl, hs2, hD2, zy (by omega), ?_⟩
   have s02 : zR H (upd H2 sl (.lst (xs ++ ys))) := (s1.trans s2).put hsl
   have hs2' : (upd H2 sl (.lst (xs ++ ys))) sl = some (.lst (xs ++ ys)) := zd
   have hS2 : Lzs (upd H2 sl (.lst (xs ++ ys))) (lw k (T.cs.take i) ++ (List.range (k + 1)).map fun o => (cc.nm, [k, o])) (xs ++ ys) := Lns.tk (Tk.put hs2) (Lzs.app (Lns.tk (Tk.of s2) hS) hY)
   generalize upd H2 sl (.lst (xs ++ ys)) = H3 at *
   refine ⟨_, rfl, .inl ⟨rfl, _, SqL.of hs2'⟩, ?_⟩
   refine ⟨_, rfl, (k : Int), rfl, by omega, by omega, fun D3 hD3 => ?_⟩
   rw [Int.toNat_natCast]
   refine half (fun o => [o, k]) _ k H3 D3 _ (fun o H' Q' h => ⟨_, rfl, _, rfl, _, rfl, h⟩) (fun o => rfl) (by omega) hD3 fun zs H4 s4 hD4 zl hZ => ?_
   have hs4 := s4 _ _ hs2'
   refine ⟨sl, D3, _, _, rfl, rfl, hs4, hD4, zy (by rw [List.length_append]; omega), ?_⟩
   refine ⟨⟨_, _, _, rfl⟩, (s02.trans s4).put hsl, _, zd, ?_⟩
   have e : lwC k cc = ((List.range (k + 1)).map fun o => (cc.nm, [k, o])) ++ (List.range k).map fun o => (cc.nm, [o, k]) := by
    unfold lwC
    rw [if_neg p1, if_pos p2', List.nil_append]
   rw [ew, e, <- List.append_assoc]
   exact Lns.tk (Tk.put hs4) (Lzs.app (Lns.tk (Tk.of s4) hS2) hZ)
  ·refine iteN (decide_eq_false fun z => p2' ?_) ?_
   ·have := V.int.inj z
    omega
   refine ⟨⟨_, _, _, rfl⟩, s1, xs, hs, ?_⟩
   have e : lwC k cc = [] := by
    unfold lwC
    rw [if_neg p1, if_neg p2']
    rfl
   rw [ew, e, List.append_nil]
   exact hS
 ·rintro σ H1 ⟨⟨x2, x3, x4, rfl⟩, s1, xs, hs, hS⟩
  rw [<- h4.len, List.take_length] at hS
  exact ⟨_, rfl, q sl xs H1 s1 hs hS⟩
abbrev qK : Stmt := top 18
theorem zJ : zH ["T", "columns", "length", "cells", "found", "letter", "column", "line", "number", "ahead"] ["T", "columns", "length"] (zg qK) := ⟨rfl, rfl, rfl, by decide +kernel, rfl, by decide +kernel, by decide +kernel⟩
theorem QF {P : Program} {w : World} {K : PySem.W.Frag} {mg : Str -> Option Value} {base : Heap} {f : Addr} {fd : FuncData} (F : Fun K "all_sayable" "all_sayable" qK f fd) (gb : Gb mg) {c : Nat -> Addr} (cl : Cl K mg c) (d_cells_by_name : Def P w K mg base 1 "cells_by_name" ["H"] spCbn) (d_keep : Def P w K mg base 1 "keep" ["found", "column", "line"] WQ) (d_line_column : Def P w K mg base 2 "line_column" ["T", "cells", "ahead", "line", "length"] Jk) (d_lines_without_parts : Def P w K mg base 1 "lines_without_parts" ["T"] Jp) (d_lines_with : Def P w K mg base 1 "lines_with" ["T", "number"] Jq) : jY P w K mg base CX0 4 f fd ["T", "columns", "length"] Jr := by
 refine F.ok zJ (fun vs H Q E h => ?_) (fun cdv A outer s H vs Q E hr h => ?_)
 ·obtain ⟨v, ct, T, cps, cvs, len, rfl, _⟩ := h
  rfl
 obtain ⟨v, ct, T, cps, cvs, len, rfl, ia, gT, nT, hct, hpc, hgc, n9, p16, q⟩ := h
 refine ⟨_, (@zh _ _ _ _ _ (@zv _ _ 3 _ _ _ _ zJ.nd rfl (Or.inl rfl) (@zr _ _ _ _ _ _ _ _ _ _ _ d_cells_by_name hr (by omega) rfl (@za _ _ _ _ _ (@pv _ 0 _ _ (by rfl) (by walk_at "v") (by decide) (by decide)) (@ze _) (by rfl)) (by decide) (by rfl) (by rfl)) (by rfl) (by walk_at "f")) (@zh _ _ _ _ _ (@zv _ _ 4 _ _ _ _ zJ.nd rfl (Or.inl rfl) pe_dnewT (by rfl) (by walk_at "f")) (@zh _ _ _ _ _ (@qU _ _ _ _ _ _ _ _ PassesOwn.never rfl (@ji _ K _ _ _ (@pv _ 1 _ _ (by rfl) (by walk_at "v") (by decide) (by decide)) (by rfl)) (@jP _ K _ _ _ _ 2 rfl (@zK _ _ _ _ _ (@zp _ _ 5 _ zJ.nd rfl (Or.inl rfl) (by walk_at "f")) (@zK _ _ _ _ _ (@zp _ _ 6 _ zJ.nd rfl (Or.inl rfl) (by walk_at "f")) (@jM _) (by rfl)) (by rfl)) (by rfl) (by rfl) (by rfl)) (@zm _ _ _ (@qy _ _ _ _ (@zr _ _ _ _ _ _ _ _ _ _ _ d_keep hr (by omega) rfl (@za _ _ _ _ _ (@pv _ 4 _ _ (by rfl) (by walk_at "v") (by decide) (by decide)) (@za _ _ _ _ _ (@zx _ _ _ _ _ _ _ _ _ (@zt _ K (by rfl)) rfl gb.tuple qm (@za _ _ _ _ _ (@zx _ _ _ _ _ _ _ _ _ (@jO _ K (by rfl)) rfl gb.list j7 (@za _ _ _ _ _ (@pv _ 6 _ _ (by rfl) (by walk_at "v") (by decide) (by decide)) (@ze _) (by rfl)) (by decide) (by decide) (by rfl) (by rfl)) (@ze _) (by rfl)) (by decide) (by decide) (by rfl) (by rfl)) (@za _ _ _ _ _ (@pv _ 5 _ _ (by rfl) (by walk_at "v") (by decide) (by decide)) (@ze _) (by rfl)) (by rfl)) (by rfl)) (by decide) (by rfl) (by rfl)) (by rfl))) (by intro _; rfl)) (@zh _ _ _ _ _ (@qU _ _ _ _ _ _ _ _ PassesOwn.never rfl (@zZ _ K _ _ _ (@zr _ _ _ _ _ _ _ _ _ _ _ d_lines_without_parts hr (by omega) rfl (@za _ _ _ _ _ (@pv _ 0 _ _ (by rfl) (by walk_at "v") (by decide) (by decide)) (@ze _) (by rfl)) (by decide) (by rfl) (by rfl)) (by rfl)) (@zp _ _ 7 _ zJ.nd rfl (Or.inl rfl) (by walk_at "f")) (@zm _ _ _ (@qy _ _ _ _ (@zr _ _ _ _ _ _ _ _ _ _ _ d_keep hr (by omega) rfl (@za _ _ _ _ _ (@pv _ 4 _ _ (by rfl) (by walk_at "v") (by decide) (by decide)) (@za _ _ _ _ _ (@zr _ _ _ _ _ _ _ _ _ _ _ d_line_column hr (by omega) rfl (@za _ _ _ _ _ (@pv _ 0 _ _ (by rfl) (by walk_at "v") (by decide) (by decide)) (@za _ _ _ _ _ (@pv _ 3 _ _ (by rfl) (by walk_at "v") (by decide) (by decide)) (@za _ _ _ _ _ (@q5 _ _ _ _ (@ze _)) (@za _ _ _ _ _ (@pv _ 7 _ _ (by rfl) (by walk_at "v") (by decide) (by decide)) (@za _ _ _ _ _ (@pv _ 2 _ _ (by rfl) (by walk_at "v") (by decide) (by decide)) (@ze _) (by rfl)) (by rfl)) (by rfl)) (by rfl)) (by rfl)) (by decide) (by rfl) (by rfl)) (@za _ _ _ _ _ (@pv _ 7 _ _ (by rfl) (by walk_at "v") (by decide) (by decide)) (@ze _) (by rfl)) (by rfl)) (by rfl)) (by decide) (by rfl) (by rfl)) (by rfl))) (by intro _; rfl)) (@zh _ _ _ _ _ (@zv _ _ 8 _ _ _ _ zJ.nd rfl (Or.inl rfl) (@zj _ _ _ _) (by rfl) (by walk_at "f")) (@zh _ _ _ _ _ (@Wt _ _ _ _ _ _ PassesOwn.never (@zL _ _ _ _ _ _ _ _ (@op_lt _) (@pv _ 8 _ _ (by rfl) (by walk_at "v") (by decide) (by decide)) (@zA _ _ _ _ _ _ _ _ _ (@QW _) rfl gb.len jg (@za _ _ _ _ _ (@pv _ 4 _ _ (by rfl) (by walk_at "v") (by decide) (by decide)) (@ze _) (by rfl)) (by decide) (by decide) (by rfl) (by rfl)) (@qh _ _ (by decide) (by decide))) (@zh _ _ _ _ _ (@zv _ _ 9 _ _ _ _ zJ.nd rfl (Or.inl rfl) (@zx _ _ _ _ _ _ _ _ _ (@Qh _ rfl) rfl gb.list j7 (@za _ _ _ _ _ (@pv _ 4 _ _ (by rfl) (by walk_at "v") (by decide) (by decide)) (@ze _) (by rfl)) (by decide) (by decide) (by rfl) (by rfl)) (by rfl) (by walk_at "f")) (@zh _ _ _ _ _ (@qU _ _ _ _ _ _ _ _ PassesOwn.never rfl (@zZ _ K _ _ _ (@zr _ _ _ _ _ _ _ _ _ _ _ d_lines_with hr (by omega) rfl (@za _ _ _ _ _ (@pv _ 0 _ _ (by rfl) (by walk_at "v") (by decide) (by decide)) (@za _ _ _ _ _ (@pv _ 8 _ _ (by rfl) (by walk_at "v") (by decide) (by decide)) (@ze _) (by rfl)) (by rfl)) (by decide) (by rfl) (by rfl)) (by rfl)) (@zp _ _ 7 _ zJ.nd rfl (Or.inl rfl) (by walk_at "f")) (@zm _ _ _ (@qy _ _ _ _ (@zr _ _ _ _ _ _ _ _ _ _ _ d_keep hr (by omega) rfl (@za _ _ _ _ _ (@pv _ 4 _ _ (by rfl) (by walk_at "v") (by decide) (by decide)) (@za _ _ _ _ _ (@zr _ _ _ _ _ _ _ _ _ _ _ d_line_column hr (by omega) rfl (@za _ _ _ _ _ (@pv _ 0 _ _ (by rfl) (by walk_at "v") (by decide) (by decide)) (@za _ _ _ _ _ (@pv _ 3 _ _ (by rfl) (by walk_at "v") (by decide) (by decide)) (@za _ _ _ _ _ (@pv _ 9 _ _ (by rfl) (by walk_at "v") (by decide) (by decide)) (@za _ _ _ _ _ (@pv _ 7 _ _ (by rfl) (by walk_at "v") (by decide) (by decide)) (@za _ _ _ _ _ (@pv _ 2 _ _ (by rfl) (by walk_at "v") (by decide) (by decide)) (@ze _) (by rfl)) (by rfl)) (by rfl)) (by rfl)) (by rfl)) (by decide) (by rfl) (by rfl)) (@za _ _ _ _ _ (@pv _ 7 _ _ (by rfl) (by walk_at "v") (by decide) (by decide)) (@ze _) (by rfl)) (by rfl)) (by rfl)) (by decide) (by rfl) (by rfl)) (by rfl))) (by intro _; rfl)) (@zm _ _ _ (@zv _ _ 8 _ _ _ _ zJ.nd rfl (Or.inl rfl) (@zO _ _ _ _ _ _ _ _ (@qV _) (@pv _ 8 _ _ (by rfl) (by walk_at "v") (by decide) (by decide)) (@zj _ _ _ _)) (by rfl) (by walk_at "f")))))) (@zm _ _ _ (@zP _ _ _ _ (@pv _ 4 _ _ (by rfl) (by walk_at "v") (by decide) (by decide)))))))))), ?_⟩
 have p2 : ∀ c ∈ T.cs, c.pl <= 2 := fun c hc => (gT.cn c hc).2.1
 have few : ∀ {cols ls}, FdM T (cps.map Prod.fst) len (cps.map Prod.snd) cols ls -> cols.length <= 27 := fun m => Nat.le_trans (WR m.nd m.gc) p16
 refine ⟨_, rfl, v, T, rfl, ia, gT, nT, fun e H1 s1 hcd => ?_⟩
 refine fun fd hfd => ?_
 have fdH := s1.free hfd
 have n1 := zf hfd (.dT [])
 have cpl := Paired.length hpc
 refine ⟨_, rfl, ct, rfl, ⟨_, SqT.of (n1 _ _ (s1 _ _ hct))⟩, ?_⟩
 refine Q0 (xs := cvs) (fun i σ H' => (∃ x5 x6 x7 x8 x9, σ = [some v, some (.ref ct), some (nV len), some (.ref e), some (.ref fd), x5, x6, x7, x8, x9]) /\ zR H1 H' /\ ∃ cols ls, FdH H' fd cols ls /\ FdM T (cps.map Prod.fst) len (cps.map Prod.snd) cols ls /\ ∀ p ∈ cps.take i, p.2 ∈ cols) ⟨⟨_, _, _, _, _, rfl⟩, n1, [], [], ⟨[], zd, rfl, .nil⟩, ⟨.nil, (fun c h => by cases h), (fun c h => by cases h), (fun i l h => by simp at h), rfl, fun i l h => by simp at h⟩, fun p h => by simp at h⟩ (fun i σ H' _ h => SqT.of ((s1.trans h.2.1) _ _ hct)) ?_ ?_
 ·rintro i x σ H2 hx ⟨⟨x5, x6, x7, x8, x9, rfl⟩, s2, cols, ls, hF, hM, hB⟩
  have hi : i < cps.length := by
   rw [cpl]
   exact (List.getElem?_eq_some_iff.mp hx).1
  have hp : cps[i]? = some cps[i] := List.getElem?_eq_getElem hi
  generalize cps[i] = p at hp
  have pm := List.mem_of_getElem? hp
  obtain ⟨lp, gp⟩ := hgc p pm
  obtain ⟨t, u, rfl, ht, hu⟩ := Paired.at hpc i _ _ hp hx
  have S2 := s1.trans s2
  refine ⟨t, _, rfl, SqT.of (S2 _ _ ht), rfl, _, _, rfl, _, _, rfl, rfl, ?_⟩
  refine ⟨_, rfl, _, rfl, u, _, rfl, .inr (SqT.of (S2 _ _ hu)), fun l1 hl1 => ?_⟩
  have n3 := zf hl1 (.lst (p.2.map nV))
  refine ⟨l1, _, rfl, .inl ⟨SqL.of zd, fun c hc => ⟨_, rfl, ?_⟩⟩⟩
  have n4 := zf hc (.tup (p.2.map nV))
  dsimp only [tNil]
  refine Wk (l := .inl p.1) (hF.same (n3.trans n4)) hM zd gp (.base (List.mem_map.mpr ⟨p, pm, rfl⟩)) (List.mem_map.mpr ⟨p, pm, rfl⟩) rfl (zip_mem pm) (by have := few hM; omega) fun H5 cols' ls' o5 k5 hF5 hM5 hmo hin => ?_
  obtain ⟨more, rfl⟩ := hmo
  refine ⟨⟨_, _, _, _, _, rfl⟩, ZY (s2.trans (n3.trans n4)) hfd o5, _, _, hF5, hM5, fun p' hp' => ?_⟩
  rw [take_snoc hp] at hp'
  rcases List.mem_append.mp hp' with h | h
  ·exact List.mem_append_left _ (hB p' h)
  ·rw [List.mem_singleton.mp h]
   exact hin
 rintro σ H2 ⟨⟨x5, x6, x7, x8, x9, rfl⟩, s2, cols, ls, hF, hM, hB0⟩
 rw [<- cpl, List.take_length] at hB0
 have hB : ∀ b ∈ cps.map Prod.snd, b ∈ cols := fun b hb => by
  obtain ⟨p, hp, rfl⟩ := List.mem_map.mp hb
  exact hB0 p hp
 refine ⟨_, rfl, v, T, rfl, ia.same (s1.trans s2), gT, fun l us H3 s3 hl hus => ⟨l, rfl, ⟨_, SqL.of hl⟩, ?_⟩⟩
 have lfd : l ≠ fd := fun z => by
  obtain ⟨kvs, h, _⟩ := hF.same s3
  rw [<- z, hl] at h
  cases h
 have ul := Paired.length hus
 rw [List.length_map] at ul
 refine qN (xs := us) (fun j σ H' => (∃ x5 x6 x7 x8 x9, σ = [some v, some (.ref ct), some (nV len), some (.ref e), some (.ref fd), x5, x6, x7, x8, x9]) /\ zR H1 H' /\ H' l = some (.lst us) /\ Lzs H' (l0 T.cs) us /\ ∃ cols ls, FdH H' fd cols ls /\ FdM T (cps.map Prod.fst) len (cps.map Prod.snd) cols ls /\ (∀ b ∈ cps.map Prod.snd, b ∈ cols) /\ ∀ z ∈ (l0 T.cs).take j, jn T len cols z ∈ cols) ⟨⟨_, _, _, _, _, rfl⟩, s2.trans s3, hl, hus, cols, ls, hF.same s3, hM, hB, fun z h => by simp at h⟩ (fun j σ H' _ h => SqL.of h.2.2.1) ?_ ?_
 ·rintro j x σ H4 hx ⟨⟨x5, x6, x7, x8, x9, rfl⟩, s4, hl4, hus4, cols, ls, hF, hM, hB, hZ⟩
  have hj : j < (l0 T.cs).length := by
   rw [ul]
   exact (List.getElem?_eq_some_iff.mp hx).1
  have hz : (l0 T.cs)[j]? = some (l0 T.cs)[j] := List.getElem?_eq_getElem hj
  generalize (l0 T.cs)[j] = z at hz
  obtain ⟨z0, zc⟩ := Y0 (List.mem_of_getElem? hz)
  obtain ⟨t, rfl, ht⟩ := Paired.at hus4 j (Sum.inr z) _ (by rw [List.getElem?_map, hz]; rfl) hx
  have zn : ∀ n ∈ z.2, n < ([] : List (List Nat)).length := fun n hn => by rw [z0] at hn; cases hn
  have zn' : ∀ n ∈ z.2, n < cols.length := fun n hn => by rw [z0] at hn; cases hn
  refine ⟨_, rfl, _, rfl, _, rfl, zy (by show 0 <= 1000; decide), fun nl hnl => ?_⟩
  have n5 := zf hnl (.lst [])
  have S5 := s1.trans (s4.trans n5)
  refine ⟨_, rfl, _, rfl, v, e, nl, t, T, z, [], [], len, rfl, ia.same S5, gT, nT, hcd.same (s4.trans n5), zd, .nil, (fun _ h => by cases h), n5 _ _ ht, zn, zc, n9, fun t' H6 s6 ht' => ⟨_, rfl, ?_⟩⟩
  have el : jn T len [] z = jn T len cols z := by
   have := jV T len cols zn
   rw [List.nil_append] at this
   exact this.symm
  have ht' : H6 t' = some (.tup ((jn T len cols z).map nV)) := by rw [<- el]; exact ht'
  dsimp only [tNil]
  refine Wk (l := .inr z) (hF.same (n5.trans s6)) hM ht' (wc gT nT hM.gc zn' zc) (Y1 hM zn' zc) ⟨zn', zc⟩ ⟨t, rfl, (n5.trans s6) _ _ ht⟩ rfl (by have := few hM; omega) fun H7 cols' ls' o7 k7 hF7 hM7 hmo hin => ?_
  obtain ⟨more, rfl⟩ := hmo
  refine ⟨⟨_, _, _, _, _, rfl⟩, ZY (s4.trans (n5.trans s6)) hfd o7, o7 _ _ lfd ((n5.trans s6) _ _ hl4), Lns.tk k7 (Lns.tk (Tk.of (n5.trans s6)) hus4), _, _, hF7, hM7, (fun b hb => List.mem_append_left _ (hB b hb)), fun z' hz' => ?_⟩
  have z'0 : z'.2 = [] := (Y0 (List.mem_of_mem_take hz')).1
  rw [jV T len more (fun n hn => by rw [z'0] at hn; cases hn)]
  rw [take_snoc hz] at hz'
  rcases List.mem_append.mp hz' with h | h
  ·exact List.mem_append_left _ (hZ z' h)
  ·rw [List.mem_singleton.mp h]
   exact hin
 rintro σ H4 ⟨⟨x5, x6, x7, x8, x9, rfl⟩, s4, hl4, hus4, cols, ls, hF, hM, hB, hZ⟩
 rw [<- ul, List.take_length] at hZ
 refine ⟨fun m σ' H' => (∃ k x5 x6 x7 x9, σ' = [some v, some (.ref ct), some (nV len), some (.ref e), some (.ref fd), x5, x6, x7, some (nV k), x9] /\ zR H1 H' /\ ∃ cols ls, FdH H' fd cols ls /\ FdM T (cps.map Prod.fst) len (cps.map Prod.snd) cols ls /\ (∀ b ∈ cps.map Prod.snd, b ∈ cols) /\ (∀ z ∈ l0 T.cs, jn T len cols z ∈ cols) /\ (∀ k', k' < k -> ∀ z ∈ lw k' T.cs, jn T len cols z ∈ cols) /\ k <= cols.length /\ m + k = 28), ⟨28, 0, _, _, _, _, rfl, s4, cols, ls, hF, hM, hB, hZ, (fun k' h => absurd h (by omega)), Nat.zero_le _, rfl⟩, ?_⟩
 rintro m σ H5 ⟨k, x5, x6, x7, x9, rfl, s5, cols, ls, hF, hM, hB, hZ, hW, hk, hm⟩
 obtain ⟨kvs, hkvs, ek, hln⟩ := id hF
 have kl : kvs.length = cols.length := by
  have := congrArg List.length ek
  rw [List.length_map, List.length_map] at this
  exact this
 have c16 := few hM
 refine ⟨_, rfl, _, rfl, fd, kvs, rfl, hkvs, _, _, rfl, rfl, _, rfl, ?_⟩
 by_cases hlt : k < cols.length
 ·refine iteDT (decide_eq_true (by omega)) ?_
  refine ⟨fun σ' H' => ∃ m', m' < m /\ (∃ k x5 x6 x7 x9, σ' = [some v, some (.ref ct), some (nV len), some (.ref e), some (.ref fd), x5, x6, x7, some (nV k), x9] /\ zR H1 H' /\ ∃ cols ls, FdH H' fd cols ls /\ FdM T (cps.map Prod.fst) len (cps.map Prod.snd) cols ls /\ (∀ b ∈ cps.map Prod.snd, b ∈ cols) /\ (∀ z ∈ l0 T.cs, jn T len cols z ∈ cols) /\ (∀ k', k' < k -> ∀ z ∈ lw k' T.cs, jn T len cols z ∈ cols) /\ k <= cols.length /\ m' + k = 28), fun σ' H' h => h, ?_⟩
  refine ⟨_, rfl, fd, kvs, cols, rfl, hkvs, ek, fun al avs hal hcol => ?_⟩
  have n6 := zf hal (.lst avs)
  refine ⟨_, rfl, _, rfl, v, T, k, rfl, ia.same (s1.trans (s5.trans n6)), gT, (by omega), fun l us H6 s6 hl hus => ⟨l, rfl, ⟨_, SqL.of hl⟩, ?_⟩⟩
  have lfd : l ≠ fd := fun z => by
   have h := s6 _ _ (n6 _ _ hkvs)
   rw [<- z, hl] at h
   cases h
  have afd : al ≠ fd := Qo hkvs hal
  have ul := Paired.length hus
  rw [List.length_map] at ul
  have hcol6 : ZW H6 cols avs := ZW.tk (Tk.of (n6.trans s6)) hcol
  refine qN (xs := us) (fun j σ H' => (∃ x5 x6 x7, σ = [some v, some (.ref ct), some (nV len), some (.ref e), some (.ref fd), x5, x6, x7, some (nV k), some (.ref al)]) /\ zR H1 H' /\ H' l = some (.lst us) /\ Lzs H' (lw k T.cs) us /\ H' al = some (.lst avs) /\ ZW H' cols avs /\ ∃ more ls, FdH H' fd (cols ++ more) ls /\ FdM T (cps.map Prod.fst) len (cps.map Prod.snd) (cols ++ more) ls /\ ∀ z ∈ (lw k T.cs).take j, jn T len cols z ∈ cols ++ more) ⟨⟨_, _, _, rfl⟩, s5.trans (n6.trans s6), hl, hus, s6 _ _ zd, hcol6, [], ls, by rw [List.append_nil]; exact hF.same (n6.trans s6), by rw [List.append_nil]; exact hM, fun z h => by simp at h⟩ (fun j σ H' _ h => SqL.of h.2.2.1) ?_ ?_
  ·rintro j x σ H7 hx ⟨⟨x5, x6, x7, rfl⟩, s7, hl7, hus7, hal7, hcol7, more, ls', hF7, hM7, hZ7⟩
   have hj : j < (lw k T.cs).length := by
    rw [ul]
    exact (List.getElem?_eq_some_iff.mp hx).1
   have hz : (lw k T.cs)[j]? = some (lw k T.cs)[j] := List.getElem?_eq_getElem hj
   generalize (lw k T.cs)[j] = z at hz
   obtain ⟨zk, zc⟩ := lw_mem (List.mem_of_getElem? hz) p2
   have zn : ∀ n ∈ z.2, n < cols.length := fun n hn => Nat.lt_of_le_of_lt (zk n hn) hlt
   have zn' : ∀ n ∈ z.2, n < (cols ++ more).length := fun n hn => by rw [List.length_append]; exact Nat.lt_of_lt_of_le (zn n hn) (Nat.le_add_right _ _)
   obtain ⟨t, rfl, ht⟩ := Paired.at hus7 j (Sum.inr z) _ (by rw [List.getElem?_map, hz]; rfl) hx
   have S7 := s1.trans s7
   refine ⟨_, rfl, _, rfl, _, rfl, _, rfl, _, rfl, _, rfl, v, e, al, t, T, z, cols, avs, len, rfl, ia.same S7, gT, nT, hcd.same s7, hal7, hcol7, hM.gc, ht, zn, zc, n9, fun t' H8 s8 ht' => ⟨_, rfl, ?_⟩⟩
   have el := jV T len more zn
   have ht' : H8 t' = some (.tup ((jn T len (cols ++ more) z).map nV)) := by rw [el]; exact ht'
   dsimp only [tNil]
   refine Wk (l := .inr z) (hF7.same s8) hM7 ht' (wc gT nT hM7.gc zn' zc) (Y1 hM7 zn' zc) ⟨zn', zc⟩ ⟨t, rfl, s8 _ _ ht⟩ rfl (by have := few hM7; omega) fun H9 cols' ls9 o9 k9 hF9 hM9 hmo hin => ?_
   obtain ⟨more', rfl⟩ := hmo
   rw [List.append_assoc] at hF9 hM9 hin
   refine ⟨⟨_, _, _, rfl⟩, ZY (s7.trans s8) hfd o9, o9 _ _ lfd (s8 _ _ hl7), Lns.tk k9 (Lns.tk (Tk.of s8) hus7), o9 _ _ afd (s8 _ _ hal7), ZW.tk k9 (ZW.tk (Tk.of s8) hcol7), more ++ more', ls9, hF9, hM9, fun z' hz' => ?_⟩
   rw [take_snoc hz] at hz'
   rcases List.mem_append.mp hz' with h | h
   ·rw [<- List.append_assoc]
    exact List.mem_append_left _ (hZ7 z' h)
   ·rw [List.mem_singleton.mp h, <- el]
    exact hin
  ·rintro σ H7 ⟨⟨x5, x6, x7, rfl⟩, s7, hl7, hus7, hal7, hcol7, more, ls', hF7, hM7, hZ7⟩
   rw [<- ul, List.take_length] at hZ7
   refine ⟨_, rfl, _, _, rfl, rfl, ?_⟩
   have l7 : (cols ++ more).length = cols.length + more.length := List.length_append
   refine ⟨m - 1, by omega, k + 1, _, _, _, _, rfl, s7, cols ++ more, ls', hF7, hM7, (fun b hb => List.mem_append_left _ (hB b hb)), (fun z hz => ?_), (fun k' hk' z hz => ?_), by omega, by omega⟩
   ·rw [jV T len more (fun n hn => by rw [(Y0 hz).1] at hn; cases hn)]
    exact List.mem_append_left _ (hZ z hz)
   ·rw [jV T len more (fun n hn => by have := (lw_mem hz p2).1 n hn; omega)]
    by_cases e : k' = k
    ·rw [e] at hz
     exact hZ7 z hz
    ·exact List.mem_append_left _ (hW k' (by omega) z hz)
 ·refine iteDF (decide_eq_false (by omega)) ?_
  exact ⟨_, rfl, q fd cols ls H5 (s1.trans s5) fdH hF hM fun col h => sd_in gT hB hZ (fun k' h' => hW k' (by omega)) h⟩
abbrev jL : Stmt := top 17
theorem ZJ : zH ["T", "columns", "wish", "found", "last"] ["T", "columns", "wish"] (zg jL) := ⟨rfl, rfl, rfl, by decide +kernel, rfl, by decide +kernel, by decide +kernel⟩
theorem yt {P : Program} {w : World} {K : PySem.W.Frag} {mg : Str -> Option Value} {base : Heap} {f : Addr} {fd : FuncData} (F : Fun K "sayable" "sayable" jL f fd) (gb : Gb mg) {c : Nat -> Addr} (cl : Cl K mg c) (d_all_sayable : Def P w K mg base 4 "all_sayable" ["T", "columns", "length"] Jr) (d_needed_alone : Def P w K mg base 4 "needed_alone" ["lines"] Jm) : jY P w K mg base CX0 5 f fd ["T", "columns", "wish"] Wl := by
 refine F.ok ZJ (fun vs H Q E h => ?_) (fun cdv A outer s H vs Q E hr h => ?_)
 ·obtain ⟨v, ct, wt, T, cps, cvs, wish, rfl, _⟩ := h
  rfl
 obtain ⟨v, ct, wt, T, cps, cvs, wish, rfl, ia, gT, nT, hct, hpc, hgc, hwt, w1, w9, p16, q1, q0⟩ := h
 refine ⟨_, (@zh _ _ _ _ _ (@zv _ _ 3 _ _ _ _ ZJ.nd rfl (Or.inl rfl) (@zr _ _ _ _ _ _ _ _ _ _ _ d_all_sayable hr (by omega) rfl (@za _ _ _ _ _ (@pv _ 0 _ _ (by rfl) (by walk_at "v") (by decide) (by decide)) (@za _ _ _ _ _ (@pv _ 1 _ _ (by rfl) (by walk_at "v") (by decide) (by decide)) (@za _ _ _ _ _ (@zA _ _ _ _ _ _ _ _ _ (@qf _ K (by rfl)) rfl gb.len jg (@za _ _ _ _ _ (@pv _ 2 _ _ (by rfl) (by walk_at "v") (by decide) (by decide)) (@ze _) (by rfl)) (by decide) (by decide) (by rfl) (by rfl)) (@ze _) (by rfl)) (by rfl)) (by rfl)) (by decide) (by rfl) (by rfl)) (by rfl) (by walk_at "f")) (@zh _ _ _ _ _ (@jk _ _ _ _ _ _ _ _ (@zL _ _ _ _ _ _ _ _ (@Qe _ _ hr) (@pv _ 2 _ _ (by rfl) (by walk_at "v") (by decide) (by decide)) (@pv _ 3 _ _ (by rfl) (by walk_at "v") (by decide) (by decide)) (by with_unfolding_all rfl)) (@zm _ _ _ (@zP _ _ _ _ (@qB _ _ _ _ _ (@za _ _ _ _ _ (@qz _ _ _ _) (@za _ _ _ _ _ (@zx _ _ _ _ _ _ _ _ _ (@zt _ K (by rfl)) rfl gb.tuple qm (@za _ _ _ _ _ (@zA _ _ _ _ _ _ _ _ _ (@QA _ rfl) rfl gb.sorted JR (@za _ _ _ _ _ (@pv _ 3 _ _ (by rfl) (by walk_at "v") (by decide) (by decide)) (@ze _) (by rfl)) (by decide) (by decide) (by rfl) (by rfl)) (@ze _) (by rfl)) (by decide) (by decide) (by rfl) (by rfl)) (@ze _) (by rfl)) (by rfl))))) (@zW _)) (@zh _ _ _ _ _ (@zv _ _ 4 _ _ _ _ ZJ.nd rfl (Or.inl rfl) (@jD _ K _ _ _ _ _ _ _ _ _ _ _ PySem.F.plainAttrs_list PySem.F.slot_list_index PySem.F.type_list_index (@YD _ _ hr) (@zx _ _ _ _ _ _ _ _ _ (@Qh _ rfl) rfl gb.list j7 (@za _ _ _ _ _ (@pv _ 3 _ _ (by rfl) (by walk_at "v") (by decide) (by decide)) (@ze _) (by rfl)) (by decide) (by decide) (by rfl) (by rfl)) (@za _ _ _ _ _ (@pv _ 2 _ _ (by rfl) (by walk_at "v") (by decide) (by decide)) (@ze _) (by rfl)) (by rfl) (by rfl) (by rfl) (by rfl) (by rfl) (by rfl)) (by rfl) (by walk_at "f")) (@zm _ _ _ (@zP _ _ _ _ (@qB _ _ _ _ _ (@za _ _ _ _ _ (@qz _ _ _ _) (@za _ _ _ _ _ (@zr _ _ _ _ _ _ _ _ _ _ _ d_needed_alone hr (by omega) rfl (@za _ _ _ _ _ (@qO _ _ _ _ _ _ _ _ _ _ (@Zq _ K (by rfl)) (@zx _ _ _ _ _ _ _ _ _ (@yj _ rfl) rfl gb.list j7 (@za _ _ _ _ _ (@pe_dvals _ _ _ _ _ (@pv _ 3 _ _ (by rfl) (by walk_at "v") (by decide) (by decide)) (by rfl) (by rfl)) (@ze _) (by rfl)) (by decide) (by decide) (by rfl) (by rfl)) (@jt _) (@ja _ _ _ (@zO _ _ _ _ _ _ _ _ (@qV _) (@pv _ 4 _ _ (by rfl) (by walk_at "v") (by decide) (by decide)) (@zj _ _ _ _)))) (@ze _) (by rfl)) (by decide) (by rfl) (by rfl)) (@ze _) (by rfl)) (by rfl)))))))), ?_⟩
 refine ⟨_, rfl, _, rfl, _, rfl, _, _, rfl, .inr ⟨_, SqT.of hwt, rfl⟩, v, ct, T, cps, cvs, wish.length, by rw [List.length_map]; rfl, ia, gT, nT, hct, hpc, hgc, w9, p16, fun fd cols ls H1 s1 hfd hF hM hin => ?_⟩
 obtain ⟨kvs, hkvs, ek, hln⟩ := id hF
 have few : cols.length <= 27 := Nat.le_trans (WR hM.nd hM.gc) p16
 have sdi : ∀ col, col ∈ cols ↔ Sd T wish.length (cps.map Prod.snd) col := fun col => ⟨hM.sd col, hin col⟩
 have hwt1 := s1 _ _ hwt
 refine ⟨_, rfl, _, rfl, fd, wt, kvs, Qz wish, rfl, rfl, hkvs, by rw [WH]; exact hwt1, _, rfl, ?_⟩
 by_cases hw : wish ∈ cols
 ·rw [(ZX ek wish).mpr hw]
  refine Wz ?_
  refine ⟨_, rfl, fd, kvs, cols, rfl, hkvs, ek, fun al avs hal hcol => ?_⟩
  have n2 := zf hal (.lst avs)
  obtain ⟨j, hj⟩ := List.mem_iff_getElem?.mp hw
  have jl := (List.getElem?_eq_some_iff.mp hj).1
  have hno : ∀ m, m < j -> cols[m]? ≠ some wish := fun m hm e => by
   have := (List.getElem?_inj (by omega) hM.nd).mp (e.trans hj.symm)
   omega
  refine ⟨.inl ⟨rfl, _, SqL.of zd⟩, _, rfl, al, wt, avs, cols, wish, j, rfl, rfl, zd, ColVs.tk (Tk.of n2) hcol, (fun k hk => (hM.gc k hk).1), n2 _ _ hwt1, hj, hno, ?_⟩
  have hk2 := n2 _ _ hkvs
  refine ⟨_, rfl, fd, kvs, rfl, hk2, fun r hr' => ?_⟩
  have n3 := zf hr' (ViewO r fd)
  have rfd : r ≠ fd := Qo hk2 hr'
  refine ⟨r, fd, kvs, rfl, zd, rfd, n3 _ _ hk2, fun l hl => ?_⟩
  have n4 := zf hl (.lst (kvs.map Prod.snd))
  refine ⟨_, rfl, _, _, rfl, rfl, _, rfl, .inl ⟨l, _, rfl, SqL.of zd, fun y hy => ?_⟩⟩
  rw [show some ((j : Int) + 1) = some (((j + 1 : Nat) : Nat) : Int) from rfl, cut_to]
  have n5 := zf hy (.lst ((kvs.map Prod.snd).take (j + 1)))
  have S5 := n2.trans (n3.trans (n4.trans n5))
  have kl : kvs.length = cols.length := by
   have := congrArg List.length ek
   rw [List.length_map, List.length_map] at this
   exact this
  have ll := hM.ll
  refine ⟨y, _, ls.take (j + 1), T, cps.map Prod.fst, rfl, .inr zd, WO _ (Lns.tk (Tk.of S5) hln), Qm hM.gl _, (fun c hc => (gT.cn c hc).2.1), (fun x hx => ?_), by rw [List.length_take]; omega, by rw [List.length_take]; omega, fun t us' ns H6 s6 ht clos ris hln' => ?_⟩
  ·obtain ⟨p, hp, rfl⟩ := List.mem_map.mp hx
   exact (hgc p hp).1
  refine ⟨zy (by show 2 <= 1000; decide), fun t2 ht2 => ?_⟩
  have n7 := zf ht2 (.tup [.str "said", .ref t])
  have nl := Paired.length hln'
  have nl2 : ns.length <= 28 := Nat.le_trans (Tn.nodup_len _ _ clos.nd clos.lt) (by rw [List.length_take]; omega)
  refine q1 ((sdi wish).mp hw) t2 t us' _ _ (s1.trans (S5.trans (s6.trans n7))) zd (n7 _ _ ht) (Lns.tk (Tk.of n7) hln') (WT (Qm hM.gl _) clos ris) ?_ (by rw [List.length_map]; exact nl2) (told_of hM hj clos ris)
  rw [List.length_map]
  exact List.length_pos_of_mem clos.last
 ·have hv : (jb kvs (Qz wish)).isSome = false := by
   cases h : (jb kvs (Qz wish)).isSome with
   | false => rfl
   | true => exact absurd ((ZX ek wish).mp h) hw
  rw [hv]
  refine yv ?_
  refine ⟨_, rfl, fd, kvs, cols, wish.length, rfl, hkvs, ek, (fun k hk => (hM.gc k hk).1), w1, hM.nd, by omega, fun l bs ks hl hP per asc => ?_⟩
  have n2 := zf hl (.lst bs)
  refine ⟨l, _, rfl, .inl ⟨SqL.of zd, fun ut hut => ?_⟩⟩
  have n3 := zf hut (.tup bs)
  refine ⟨zy (by show 2 <= 1000; decide), fun t ht => ?_⟩
  have n4 := zf ht (.tup [.str "unsaid", .ref ut])
  exact q0 (fun h => hw ((sdi wish).mpr h)) t ut bs ks _ (s1.trans (n2.trans (n3.trans n4))) zd (n4 _ _ zd) (ColVs.tk (Tk.of (n2.trans (n3.trans n4))) hP) asc (fun col => by rw [per.mem_iff, sdi]) (by rw [per.length_eq]; exact few)
abbrev jq : Stmt := top 27
theorem jW : zH ["_law_script", "_law_place", "_law_cell_here", "_law_one"] ["_law_script", "_law_place"] (zg jq) := ⟨rfl, rfl, rfl, by decide +kernel, rfl, by decide +kernel, by decide +kernel⟩
theorem Wm {P : Program} {w : World} {K : PySem.W.Frag} {mg : Str -> Option Value} {base : Heap} {f : Addr} {fd : FuncData} (F : Fun K "_law_well" "_law_well" jq f fd) (gb : Gb mg) {c : Nat -> Addr} (cl : Cl K mg c) : jY P w K mg base CX0 1 f fd ["_law_script", "_law_place"] (YG K) := by
 refine F.ok jW (fun vs H Q E h => ?_) (fun cdv A outer s H vs Q E hr h => ?_)
 ·obtain ⟨a, ns, pl, rfl, _⟩ := h
  rfl
 obtain ⟨a, ns, pl, rfl, hS, hn, q⟩ := h
 refine ⟨_, (@zh _ _ _ _ _ (@zv _ _ 2 _ _ _ _ jW.nd rfl (Or.inl rfl) (@zj _ _ _ _) (by rfl) (by walk_at "f")) (@zh _ _ _ _ _ (@qU _ _ _ _ _ _ _ _ PassesOwn.never rfl (@zZ _ K _ _ _ (@qO _ _ _ _ _ _ _ _ _ _ (@Zq _ K (by rfl)) (@pv _ 0 _ _ (by rfl) (by walk_at "v") (by decide) (by decide)) (@ja _ _ _ (@pv _ 1 _ _ (by rfl) (by walk_at "v") (by decide) (by decide))) (@ja _ _ _ (@zO _ _ _ _ _ _ _ _ (@qV _) (@pv _ 1 _ _ (by rfl) (by walk_at "v") (by decide) (by decide)) (@zj _ _ _ _)))) (by rfl)) (@zp _ _ 3 _ jW.nd rfl (Or.inl rfl) (by walk_at "f")) (@zm _ _ _ (@zv _ _ 2 _ _ _ _ jW.nd rfl (Or.inl rfl) (@pv _ 3 _ _ (by rfl) (by walk_at "v") (by decide) (by decide)) (by rfl) (by walk_at "f"))) (by intro _; rfl)) (@zh _ _ _ _ _ (@jk _ _ _ _ _ _ _ _ (@PW.pt _ _ _ (@yE _ _ _ _ _ _ _ (@zL _ _ _ _ _ _ _ _ (@op_lt _) (@pv _ 2 _ _ (by rfl) (by walk_at "v") (by decide) (by decide)) (@zj _ _ _ _) (@qh _ _ (by decide) (by decide))) (@Wr _ _ _ _ (@zL _ _ _ _ _ _ _ _ (@op_ge _) (@pv _ 2 _ _ (by rfl) (by walk_at "v") (by decide) (by decide)) (@zO _ _ _ _ _ _ _ _ (@op_pow _) (@zj _ _ _ _) (@zj _ _ _ _)) (@qh _ _ (by decide) (by decide)))))) (@zm _ _ _ (@zP _ _ _ _ (@q5 _ _ _ _ (@za _ _ _ _ _ (@zj _ _ _ _) (@za _ _ _ _ _ (@zA _ _ _ _ _ _ _ _ _ (@call_abs _) rfl gb.abs bt_abs (@za _ _ _ _ _ (@pv _ 2 _ _ (by rfl) (by walk_at "v") (by decide) (by decide)) (@ze _) (by rfl)) (by decide) (by decide) (by rfl) (by rfl)) (@ze _) (by rfl)) (by rfl))))) (@zW _)) (@zm _ _ _ (@zP _ _ _ _ (@q5 _ _ _ _ (@za _ _ _ _ _ (@zj _ _ _ _) (@za _ _ _ _ _ (@zO _ _ _ _ _ _ _ _ (@qV _) (@zO _ _ _ _ _ _ _ _ (@Zx _) (@zO _ _ _ _ _ _ _ _ (@qV _) (@zO _ _ _ _ _ _ _ _ (@Zx _) (@pv _ 2 _ _ (by rfl) (by walk_at "v") (by decide) (by decide)) (@zj _ _ _ _)) (@zO _ _ _ _ _ _ _ _ (@Z0 _) (@zj _ _ _ _) (@pv _ 1 _ _ (by rfl) (by walk_at "v") (by decide) (by decide)))) (@zj _ _ _ _)) (@zj _ _ _ _)) (@ze _) (by rfl)) (by rfl)))))))), ?_⟩
 refine ⟨_, rfl, _, rfl, _, rfl, _, rfl, _, _, rfl, rfl, _, rfl, .inl ⟨a, _, rfl, hS, fun y hy => ?_⟩⟩
 obtain ⟨ms, em⟩ := cut_ints ns (some pl) (some (pl + 1))
 rw [em] at *
 refine ⟨y, rfl, ⟨_, SqL.of zd⟩, ?_⟩
 refine qN (xs := ms.map V.int) (fun _ σ H' => (∃ (c : Int) (x : Option V), σ = [some (.ref a), some (.int pl), some (.int c), x]) /\ zR H H' /\ H' y = some (.lst (ms.map V.int))) ⟨⟨_, _, rfl⟩, zf hy _, zd⟩ (fun i σ H' _ h => SqL.of h.2.2) ?_ ?_
 ·rintro i x σ H1 hx ⟨⟨c, x', rfl⟩, s1, h1⟩
  rw [List.getElem?_map] at hx
  obtain ⟨cv, _, rfl⟩ := Option.map_eq_some_iff.mp hx
  exact ⟨_, rfl, ⟨_, _, rfl⟩, s1, h1⟩
 ·rintro σ H1 ⟨⟨c, x', rfl⟩, s1, h1⟩
  walk_at "rd"
  refine ite2 (fun c1 => ?_) (fun c1 => ?_)
  ·walk_at "rd"
   exact ⟨zy (by show 2 <= 1000; decide), fun p hp => q p _ (s1.free hp) (s1.trans (zf hp _)) Wel.put⟩
  ·walk_at "rd"
   refine ite2 (fun c2 => ?_) (fun c2 => ?_)
   ·walk_at "rd"
    exact ⟨zy (by show 2 <= 1000; decide), fun p hp => q p _ (s1.free hp) (s1.trans (zf hp _)) Wel.put⟩
   ·walk_at "rd"
    exact ⟨zy (by show 2 <= 1000; decide), fun p hp => q p _ (s1.free hp) (s1.trans (zf hp _)) Wel.put⟩
abbrev jr : Stmt := top 28
theorem jx : zH ["_law_well_here", "_law_many", "_law_found", "_law_turn", "_law_upper", "_law_lower"] ["_law_well_here", "_law_many"] (zg jr) := ⟨rfl, rfl, rfl, by decide +kernel, rfl, by decide +kernel, by decide +kernel⟩
theorem Wn {P : Program} {w : World} {K : PySem.W.Frag} {mg : Str -> Option Value} {base : Heap} {f : Addr} {fd : FuncData} (F : Fun K "_law_draw" "_law_draw" jr f fd) (gb : Gb mg) {c : Nat -> Addr} (cl : Cl K mg c) : jY P w K mg base CX0 1 f fd ["_law_well_here", "_law_many"] jQ := by
 refine F.ok jx (fun vs H Q E h => ?_) (fun cdv A outer s H vs Q E hr h => ?_)
 ·obtain ⟨p, m, rfl, _⟩ := h
  rfl
 obtain ⟨p, m, rfl, w, m0, m1, q⟩ := h
 refine ⟨_, (@zh _ _ _ _ _ (@jk _ _ _ _ _ _ _ _ (@zL _ _ _ _ _ _ _ _ (@Zg _) (@zQ _ _ _ _ _ _ _ (@zq _ K (by rfl)) (@pv _ 0 _ _ (by rfl) (by walk_at "v") (by decide) (by decide)) (@zj _ _ _ _) (fun _ _ => rfl)) (@zj _ _ _ _) (@qh _ _ (by decide) (by decide))) (@zh _ _ _ _ _ (@zv _ _ 2 _ _ _ _ jx.nd rfl (Or.inl rfl) (@zO _ _ _ _ _ _ _ _ (@Zx _) (@zQ _ _ _ _ _ _ _ (@zq _ K (by rfl)) (@pv _ 0 _ _ (by rfl) (by walk_at "v") (by decide) (by decide)) (@zj _ _ _ _) (fun _ _ => rfl)) (@pv _ 1 _ _ (by rfl) (by walk_at "v") (by decide) (by decide))) (by rfl) (by walk_at "f")) (@zh _ _ _ _ _ (@Ws _ _ _ _ _ _ (@zO _ _ _ _ _ _ _ _ (@wE _) (@zQ _ _ _ _ _ _ _ (@zq _ K (by rfl)) (@pv _ 0 _ _ (by rfl) (by walk_at "v") (by decide) (by decide)) (@zj _ _ _ _) (fun _ _ => rfl)) (@pv _ 1 _ _ (by rfl) (by walk_at "v") (by decide) (by decide))) (@pg_sub _ _ _ _ _ _ _ (@pv _ 0 _ _ (by rfl) (by walk_at "v") (by decide) (by decide)) (@zj _ _ _ _) (@Wy _) (by intro _; rfl)) (by rfl) (by rfl) (by rfl)) (@zm _ _ _ (@zP _ _ _ _ (@pv _ 2 _ _ (by rfl) (by walk_at "v") (by decide) (by decide)))))) (@zW _)) (@zh _ _ _ _ _ (@qU _ _ _ _ _ _ _ _ PassesOwn.never rfl (@zS _ _ _ _ _ _ rfl gb.range (@za _ _ _ _ _ (@zj _ _ _ _) (@ze _) (by rfl)) (by rfl)) (@zp _ _ 3 _ jx.nd rfl (Or.inl rfl) (by walk_at "f")) (@zh _ _ _ _ _ (@Ws _ _ _ _ _ _ (@zA _ _ _ _ _ _ _ _ _ (@wF _) rfl gb.divmod Ya (@za _ _ _ _ _ (@zQ _ _ _ _ _ _ _ (@zq _ K (by rfl)) (@pv _ 0 _ _ (by rfl) (by walk_at "v") (by decide) (by decide)) (@zj _ _ _ _) (fun _ _ => rfl)) (@za _ _ _ _ _ (@zj _ _ _ _) (@ze _) (by rfl)) (by rfl)) (by decide) (by decide) (by rfl) (by rfl)) (@jP _ K _ _ _ _ 2 rfl (@zK _ _ _ _ _ (@zp _ _ 4 _ jx.nd rfl (Or.inl rfl) (by walk_at "f")) (@zK _ _ _ _ _ (@zp _ _ 5 _ jx.nd rfl (Or.inl rfl) (by walk_at "f")) (@jM _) (by rfl)) (by rfl)) (by rfl) (by rfl) (by rfl)) (by rfl) (by rfl) (by rfl)) (@zm _ _ _ (@Ws _ _ _ _ _ _ (@zO _ _ _ _ _ _ _ _ (@Zx _) (@zO _ _ _ _ _ _ _ _ (@qV _) (@zO _ _ _ _ _ _ _ _ (@qV _) (@zO _ _ _ _ _ _ _ _ (@Z0 _) (@pv _ 5 _ _ (by rfl) (by walk_at "v") (by decide) (by decide)) (@zj _ _ _ _)) (@zO _ _ _ _ _ _ _ _ (@Z0 _) (@pv _ 4 _ _ (by rfl) (by walk_at "v") (by decide) (by decide)) (@zj _ _ _ _))) (@zj _ _ _ _)) (@zj _ _ _ _)) (@pg_sub _ _ _ _ _ _ _ (@pv _ 0 _ _ (by rfl) (by walk_at "v") (by decide) (by decide)) (@zj _ _ _ _) (@Wy _) (by intro _; rfl)) (by rfl) (by rfl) (by rfl)))) (by intro _; rfl)) (@zm _ _ _ (@zP _ _ _ _ (@zO _ _ _ _ _ _ _ _ (@Zx _) (@zO _ _ _ _ _ _ _ _ (@wE _) (@zQ _ _ _ _ _ _ _ (@zq _ K (by rfl)) (@pv _ 0 _ _ (by rfl) (by walk_at "v") (by decide) (by decide)) (@zj _ _ _ _) (fun _ _ => rfl)) (@zj _ _ _ _)) (@pv _ 1 _ _ (by rfl) (by walk_at "v") (by decide) (by decide))))))), ?_⟩
 obtain ⟨x, y, hp⟩ := id w
 refine ⟨_, rfl, .inl ⟨p, _, 0, _, rfl, rfl, SqL.of hp, rfl, rfl, _, rfl, ite2 (fun c => ?_) (fun c => ?_)⟩⟩
 ·walk_at "rd"
  have e := Int.emod_nonneg y (show (m : Int) ≠ 0 by omega)
  have l := Int.emod_lt_of_pos y (show (0 : Int) < m by omega)
  have q1 := q (y % (m : Int)).toNat _ (by omega) (Off.put (o := .lst [.int x, .int (y / (m : Int))])) ⟨_, _, zd⟩
  rw [show nV (y % (m : Int)).toNat = V.int (y % (m : Int)) by show V.int _ = _; rw [Int.toNat_of_nonneg e]] at q1
  exact q1
 ·refine ⟨2, rfl, by decide, by decide, ?_⟩
  refine Zw (fun _ σ H' => (∃ x2 x3 x4 x5, σ = [some (.ref p), some (.int (m : Int)), x2, x3, x4, x5]) /\ Off p H H' /\ Wel H' p) ⟨⟨_, _, _, _, rfl⟩, Off.refl, w⟩ ?_ ?_
  ·rintro i σ H1 hi ⟨⟨x2, x3, x4, x5, rfl⟩, o1, ⟨a, b, h1⟩⟩
   refine ⟨_, rfl, .inl ⟨p, _, 1, _, rfl, rfl, SqL.of h1, rfl, _, _, rfl, ⟨by decide, by decide⟩, fun t ht => ?_⟩⟩
   refine ⟨t, _, rfl, SqT.of zd, rfl, _, _, rfl, _, _, rfl, rfl, ?_⟩
   have h2 := zf ht (.tup [.int (b / 4099), .int (b % 4099)]) _ _ h1
   walk_at "rd"
   exact ⟨⟨_, _, _, _, rfl⟩, (o1.trans (Off.of (zf ht _))).trans Off.put, Wel.put⟩
  ·rintro σ H1 ⟨⟨x2, x3, x4, x5, rfl⟩, o1, ⟨a, b, h1⟩⟩
   walk_at "rd"
   have e := Int.emod_nonneg (b / 5) (show (m : Int) ≠ 0 by omega)
   have l := Int.emod_lt_of_pos (b / 5) (show (0 : Int) < m by omega)
   have q1 := q (b / 5 % (m : Int)).toNat _ (by omega) o1 ⟨a, b, h1⟩
   rw [show nV (b / 5 % (m : Int)).toNat = V.int (b / 5 % (m : Int)) by show V.int _ = _; rw [Int.toNat_of_nonneg e]] at q1
   exact q1
abbrev qG : Stmt := top 29
theorem qH : zH ["_law_well_here", "_law_many", "_law_signs", "_law_first", "_law_pick", "_law_some", "_law_size", "_law_at"] ["_law_well_here", "_law_many"] (zg qG) := ⟨rfl, rfl, rfl, by decide +kernel, rfl, by decide +kernel, by decide +kernel⟩
theorem wg {P : Program} {w : World} {K : PySem.W.Frag} {mg : Str -> Option Value} {base : Heap} {f : Addr} {fd : FuncData} (F : Fun K "_law_names" "_law_names" qG f fd) (gb : Gb mg) {c : Nat -> Addr} (cl : Cl K mg c) (d_law_draw : Def P w K mg base 1 "_law_draw" ["_law_well_here", "_law_many"] jQ) : jY P w K mg base CX0 2 f fd ["_law_well_here", "_law_many"] wZ := by
 refine F.ok qH (fun vs H Q E h => ?_) (fun cdv A outer s H vs Q E hr h => ?_)
 ·obtain ⟨p, k, rfl, _⟩ := h
  rfl
 obtain ⟨p, k, rfl, w, k8, q⟩ := h
 have nd0 : (["_law_k", "_law_signs", "_law_first"] : List Str).Nodup := by decide +kernel
 have nd1 : (["_law_k", "_law_at", "_law_signs", "_law_first", "_law_size"] : List Str).Nodup := by decide +kernel
 refine ⟨_, (@zh _ _ _ _ _ (@zv _ _ 2 _ _ _ _ qH.nd rfl (Or.inr rfl) (@qz _ _ _ _) (by rfl) (by walk_at "f")) (@zh _ _ _ _ _ (@zv _ _ 3 _ _ _ _ qH.nd rfl (Or.inr rfl) (@zr _ _ _ _ _ _ _ _ _ _ _ d_law_draw hr (by omega) rfl (@za _ _ _ _ _ (@pv _ 0 _ _ (by rfl) (by walk_at "v") (by decide) (by decide)) (@za _ _ _ _ _ (@zj _ _ _ _) (@ze _) (by rfl)) (by rfl)) (by decide) (by rfl) (by rfl)) (by rfl) (by walk_at "f")) (@zh _ _ _ _ _ (@zv _ _ 4 _ _ _ _ qH.nd rfl (Or.inl rfl) (@zr _ _ _ _ _ _ _ _ _ _ _ d_law_draw hr (by omega) rfl (@za _ _ _ _ _ (@pv _ 0 _ _ (by rfl) (by walk_at "v") (by decide) (by decide)) (@za _ _ _ _ _ (@zj _ _ _ _) (@ze _) (by rfl)) (by rfl)) (by decide) (by rfl) (by rfl)) (by rfl) (by walk_at "f")) (@zh _ _ _ _ _ (@jk _ _ _ _ _ _ _ _ (@zL _ _ _ _ _ _ _ _ (@Zg _) (@pv _ 4 _ _ (by rfl) (by walk_at "v") (by decide) (by decide)) (@zj _ _ _ _) (@qh _ _ (by decide) (by decide))) (@zh _ _ _ _ _ (@zv _ _ 5 _ _ _ _ qH.nd rfl (Or.inl rfl) (@q5 _ _ _ _ (@za _ _ _ _ _ (@qz _ _ _ _) (@za _ _ _ _ _ (@qz _ _ _ _) (@za _ _ _ _ _ (@qz _ _ _ _) (@za _ _ _ _ _ (@qz _ _ _ _) (@za _ _ _ _ _ (@qz _ _ _ _) (@za _ _ _ _ _ (@qz _ _ _ _) (@za _ _ _ _ _ (@qz _ _ _ _) (@za _ _ _ _ _ (@qz _ _ _ _) (@ze _) (by rfl)) (by rfl)) (by rfl)) (by rfl)) (by rfl)) (by rfl)) (by rfl)) (by rfl))) (by rfl) (by walk_at "f")) (@zm _ _ _ (@zP _ _ _ _ (@qO _ _ _ _ _ _ _ _ _ _ (@Zq _ K (by rfl)) (@zO _ _ _ _ _ _ _ _ (@op_cat _) (@qO _ _ _ _ _ _ _ _ _ _ (@Zq _ K (by rfl)) (@pv _ 5 _ _ (by rfl) (by walk_at "v") (by decide) (by decide)) (@ja _ _ _ (@zO _ _ _ _ _ _ _ _ (@Zx _) (@pv _ 3 _ _ (by rfl) (by walk_at "v") (by decide) (by decide)) (@zj _ _ _ _))) (@jt _)) (@qO _ _ _ _ _ _ _ _ _ _ (@Zq _ K (by rfl)) (@pv _ 5 _ _ (by rfl) (by walk_at "v") (by decide) (by decide)) (@jt _) (@ja _ _ _ (@zO _ _ _ _ _ _ _ _ (@Zx _) (@pv _ 3 _ _ (by rfl) (by walk_at "v") (by decide) (by decide)) (@zj _ _ _ _))))) (@jt _) (@ja _ _ _ (@pv _ 1 _ _ (by rfl) (by walk_at "v") (by decide) (by decide))))))) (@zW _)) (@zh _ _ _ _ _ (@jk _ _ _ _ _ _ _ _ (@zL _ _ _ _ _ _ _ _ (@Zg _) (@pv _ 4 _ _ (by rfl) (by walk_at "v") (by decide) (by decide)) (@zj _ _ _ _) (@qh _ _ (by decide) (by decide))) (@zm _ _ _ (@zP _ _ _ _ (@zO _ _ _ _ _ _ _ _ (@op_cat _) (@qO _ _ _ _ _ _ _ _ _ _ (@Zq _ K (by rfl)) (@zX _ ["_law_k", "_law_signs", "_law_first"] [none, some 2, some 3] _ _ _ _ _ _ _ _ _ _ (by exact (show zN ["_law_well_here", "_law_many", "_law_signs", "_law_first", "_law_pick", "_law_some", "_law_size", "_law_at"] (zg qG) ["_law_k", "_law_signs", "_law_first"] [none, some 2, some 3] _ from ⟨rfl, by decide +kernel, by decide +kernel, by decide +kernel, by decide +kernel, rfl, by decide +kernel⟩)) rfl (@zS _ _ _ _ _ _ rfl gb.range (@za _ _ _ _ _ (@zj _ _ _ _) (@ze _) (by rfl)) (by rfl)) (fun _ _ _ _ => (@zp _ _ 0 _ nd0 rfl (Or.inl rfl) (by walk_at "f"))) (fun _ _ _ _ => (@qi _)) (fun _ _ _ _ => (@zO _ _ _ _ _ _ _ _ (@Q7 _) (@zQ _ _ _ _ _ _ _ (@zq _ K (by rfl)) (@pv _ 1 _ _ (by rfl) (by walk_at "v") (by decide) (by decide)) (@pv _ 2 _ _ (by rfl) (by walk_at "v") (by decide) (by decide)) (fun _ _ => rfl)) (@zO _ _ _ _ _ _ _ _ (@qV _) (@pv _ 0 _ _ (by rfl) (by walk_at "v") (by decide) (by decide)) (@zj _ _ _ _)))) (by intro _; rfl)) (@jt _) (@ja _ _ _ (@pv _ 1 _ _ (by rfl) (by walk_at "v") (by decide) (by decide)))) (@zO _ _ _ _ _ _ _ _ (@op_repL _ K) (@q5 _ _ _ _ (@za _ _ _ _ _ (@zO _ _ _ _ _ _ _ _ (@Q7 _) (@zQ _ _ _ _ _ _ _ (@zq _ K (by rfl)) (@pv _ 2 _ _ (by rfl) (by walk_at "v") (by decide) (by decide)) (@zO _ _ _ _ _ _ _ _ (@QI _) (@pv _ 3 _ _ (by rfl) (by walk_at "v") (by decide) (by decide)) (@zj _ _ _ _)) (fun _ _ => rfl)) (@zj _ _ _ _)) (@ze _) (by rfl))) (@zx _ _ _ _ _ _ _ _ _ (@JE _) rfl gb.int bt_int (@za _ _ _ _ _ (@Z1 _ _ _ _ _ _ _ _ (@Zg _) (@pv _ 1 _ _ (by rfl) (by walk_at "v") (by decide) (by decide)) (@zj _ _ _ _) (@qh _ _ (by decide) (by decide))) (@ze _) (by rfl)) (by decide) (by decide) (by rfl) (by rfl)))))) (@zW _)) (@zh _ _ _ _ _ (@zv _ _ 6 _ _ _ _ qH.nd rfl (Or.inr rfl) (@zO _ _ _ _ _ _ _ _ (@qV _) (@zj _ _ _ _) (@zr _ _ _ _ _ _ _ _ _ _ _ d_law_draw hr (by omega) rfl (@za _ _ _ _ _ (@pv _ 0 _ _ (by rfl) (by walk_at "v") (by decide) (by decide)) (@za _ _ _ _ _ (@zj _ _ _ _) (@ze _) (by rfl)) (by rfl)) (by decide) (by rfl) (by rfl))) (by rfl) (by walk_at "f")) (@zh _ _ _ _ _ (@zv _ _ 7 _ _ _ _ qH.nd rfl (Or.inr rfl) (@zr _ _ _ _ _ _ _ _ _ _ _ d_law_draw hr (by omega) rfl (@za _ _ _ _ _ (@pv _ 0 _ _ (by rfl) (by walk_at "v") (by decide) (by decide)) (@za _ _ _ _ _ (@zO _ _ _ _ _ _ _ _ (@qV _) (@pv _ 6 _ _ (by rfl) (by walk_at "v") (by decide) (by decide)) (@zj _ _ _ _)) (@ze _) (by rfl)) (by rfl)) (by decide) (by rfl) (by rfl)) (by rfl) (by walk_at "f")) (@zm _ _ _ (@zP _ _ _ _ (@zX _ ["_law_k", "_law_at", "_law_signs", "_law_first", "_law_size"] [none, some 7, some 2, some 3, some 6] _ _ _ _ _ _ _ _ _ _ (by exact (show zN ["_law_well_here", "_law_many", "_law_signs", "_law_first", "_law_pick", "_law_some", "_law_size", "_law_at"] (zg qG) ["_law_k", "_law_at", "_law_signs", "_law_first", "_law_size"] [none, some 7, some 2, some 3, some 6] _ from ⟨rfl, by decide +kernel, by decide +kernel, by decide +kernel, by decide +kernel, rfl, by decide +kernel⟩)) rfl (@zS _ _ _ _ _ _ rfl gb.range (@za _ _ _ _ _ (@pv _ 1 _ _ (by rfl) (by walk_at "v") (by decide) (by decide)) (@ze _) (by rfl)) (by rfl)) (fun _ _ _ _ => (@zp _ _ 0 _ nd1 rfl (Or.inl rfl) (by walk_at "f"))) (fun _ _ _ _ => (@qi _)) (fun _ _ _ _ => (@zO _ _ _ _ _ _ _ _ (@QJ _) (@zO _ _ _ _ _ _ _ _ (@QJ _) (@zO _ _ _ _ _ _ _ _ (@Q7 _) (@qz _ _ _ _) (@pv _ 1 _ _ (by rfl) (by walk_at "v") (by decide) (by decide))) (@zQ _ _ _ _ _ _ _ (@zq _ K (by rfl)) (@pv _ 2 _ _ (by rfl) (by walk_at "v") (by decide) (by decide)) (@zO _ _ _ _ _ _ _ _ (@Zx _) (@zO _ _ _ _ _ _ _ _ (@qV _) (@pv _ 3 _ _ (by rfl) (by walk_at "v") (by decide) (by decide)) (@pv _ 0 _ _ (by rfl) (by walk_at "v") (by decide) (by decide))) (@zj _ _ _ _)) (fun _ _ => rfl))) (@zO _ _ _ _ _ _ _ _ (@Q7 _) (@qz _ _ _ _) (@zO _ _ _ _ _ _ _ _ (@QI _) (@pv _ 4 _ _ (by rfl) (by walk_at "v") (by decide) (by decide)) (@pv _ 1 _ _ (by rfl) (by walk_at "v") (by decide) (by decide)))))) (by intro _; rfl))))))))))), ?_⟩
 refine ⟨_, rfl, p, 26, rfl, w, by decide, by decide, fun f H1 f1 o1 w1 => ?_⟩
 refine ⟨_, rfl, p, 3, rfl, w1, by decide, by decide, fun g H2 g1 o2 w2 => ?_⟩
 have o12 := o1.trans o2
 refine ⟨_, rfl, rfl, _, rfl, ite2 (fun c => ?_) (fun c => ?_)⟩
 ·refine ⟨zy (by show 8 <= 1000; decide), fun L hL => ?_⟩
  have hN := rot8 f
  have hT : TL 8 [.str "and", .str "or", .str "not", .str "then", .str "grades", .str "wished", .str "false", .str "true"] := ⟨["and", "or", "not", "then", "grades", "wished", "false", "true"], rfl, by decide, by decide +kernel⟩
  generalize ([.str "and", .str "or", .str "not", .str "then", .str "grades", .str "wished", .str "false", .str "true"] : List V) = xs at *
  have n1 := zf hL (.lst xs)
  refine ⟨_, rfl, _, rfl, _, _, rfl, rfl, (show (0 : Int) < 8 by decide), _, rfl, .inl ⟨L, _, rfl, SqL.of zd, fun y hy => ?_⟩⟩
  have n2 := zf hy (.lst (j5 xs (some ((f : Int) % 8)) none))
  refine ⟨_, rfl, _, rfl, _, _, rfl, rfl, (show (0 : Int) < 8 by decide), _, rfl, .inl ⟨L, _, rfl, SqL.of (n2 _ _ zd), fun z hz => ?_⟩⟩
  have n3 := zf hz (.lst (j5 xs none (some ((f : Int) % 8))))
  have t1 := hT.cut (some ((f : Int) % 8)) none
  have t2 := hT.cut none (some ((f : Int) % 8))
  have l1 := t1.len
  have l2 := t2.len
  refine ⟨y, z, _, _, rfl, rfl, n3 _ _ zd, zd, zy (by omega), fun v hv => ?_⟩
  have n4 := zf hv (.lst (j5 xs (some ((f : Int) % 8)) none ++ j5 xs none (some ((f : Int) % 8))))
  refine ⟨_, rfl, _, rfl, .inl ⟨v, _, rfl, SqL.of zd, fun r hr' => ?_⟩⟩
  have n5 := zf hr' (.lst (j5 (j5 xs (some ((f : Int) % 8)) none ++ j5 xs none (some ((f : Int) % 8))) none (some (k : Int))))
  have sN := n1.trans (n2.trans (n3.trans (n4.trans n5)))
  exact q r _ _ (o12.trans (Off.of sN)) (w2.same sN) zd ((t1.app t2).cut _ _) (nd_cut hN _ _) (Ne.symm ((w2.same (n1.trans (n2.trans (n3.trans n4)))).ne hr'))
 refine ⟨_, rfl, rfl, _, rfl, ite2 (fun c => ?_) (fun c => ?_)⟩
 ·refine ⟨7, rfl, by decide, by decide, fun D hD => ?_⟩
  obtain ⟨cc, ec⟩ := wY (i := (f : Int)) (by omega) (by omega)
  refine qv (fun i ys H' => zR H2 H' /\ TL i ys /\ ys = (List.range i).map (nm1 cc)) ⟨zf hD _, ⟨[], rfl, Nat.le_refl _, fun y h => by cases h⟩, rfl⟩ ?_ ?_
  ·rintro i ys H3 hi ⟨s3, t3, ey⟩ hD3
   have i7 : i < 7 := hi
   refine yes ⟨_, rfl, _, rfl, .inr (.inr ⟨wX, _, cc, rfl, rfl, zy (by decide +kernel), ec, _, rfl, _, _, rfl, rfl, _, _, rfl, rfl, by omega, by omega, (show (Str.mk #[cc]).length <= 10 from (show 1 <= 10 by decide)), ?_⟩)⟩
   have l3 := t3.len
   refine ZL hi jy hD3 (zo (by omega)) ⟨s3.put hD, ?_, by rw [ey, List.range_succ, List.map_append]; rfl⟩
   refine t3.app ⟨[_], rfl, Nat.le_refl _, fun y hy => ?_⟩
   rw [List.mem_singleton.mp hy]
   refine Nat.le_trans (Q9 _ _) ?_
   show 1 * _ <= 100
   omega
  ·rintro ys H3 ⟨s3, t3, ey⟩ hD3
   have hN : ys.Nodup := by rw [ey]; exact nm1_nd _ _
   refine ⟨_, rfl, _, rfl, .inl ⟨D, _, rfl, SqL.of hD3, fun y hy => ?_⟩⟩
   have n1 := zf hy (.lst (j5 ys none (some (k : Int))))
   obtain ⟨cd, ed⟩ := wY (i := (f : Int) - 1) (by omega) (by omega)
   refine ⟨_, rfl, _, rfl, _, _, rfl, rfl, .inr (.inr ⟨wX, _, cd, rfl, rfl, zy (by decide +kernel), ed, _, _, rfl, rfl, by decide, by decide, (show (Str.mk #[cd]).length <= 10 from (show 1 <= 10 by decide)), zy (by show 1 <= 1000; decide), fun z hz => ?_⟩)⟩
   have n2 := zf hz (.lst [.str (Txt.mul (Str.mk #[cd]) 2)])
   have tz : TL 1 [.str (Txt.mul (Str.mk #[cd]) 2)] := ⟨[_], rfl, Nat.le_refl _, fun y hy => by rw [List.mem_singleton.mp hy]; exact Nat.le_trans (Q9 _ _) (by show 1 * 2 <= 100; decide)⟩
   refine ⟨_, rfl, rfl, .inr ⟨_, rfl, z, _, _, rfl, rfl, zd, by split <;> decide, by split <;> decide, by (show 1 * _ <= 1000; split <;> decide), fun v hv => ?_⟩⟩
   dsimp only at hv ⊢
   have trep : TL 1 (List.replicate (if decide (V.int (k : Int) = V.int 8) = true then (1 : Int) else 0).toNat [V.str (Txt.mul (Str.mk #[cd]) 2)]).flatten := by
    split
    ·exact tz
    ·exact ⟨[], rfl, by decide, fun y h => by cases h⟩
   have hNz : (j5 ys none (some (k : Int)) ++ (List.replicate (if decide (V.int (k : Int) = V.int 8) = true then (1 : Int) else 0).toNat [V.str (Txt.mul (Str.mk #[cd]) 2)]).flatten).Nodup := by
    rw [List.nodup_append]
    refine ⟨nd_cut hN _ _, ?_, fun x hx z hz e => ?_⟩
    ·split
     ·show ([V.str (Txt.mul (Str.mk #[cd]) 2)] : List V).Nodup
      simp
     ·exact List.nodup_nil
    ·have hz' : z = V.str (Txt.mul (Str.mk #[cd]) 2) := by
      revert hz
      split
      ·intro hz
       exact List.mem_singleton.mp hz
      ·intro hz
       cases hz
     have hx' := cut_mem hx
     rw [ey] at hx'
     obtain ⟨jj, _, rfl⟩ := List.mem_map.mp hx'
     rw [hz', sg_of ec, sg_of ed] at e
     exact nm1_z (by omega) jj e
   generalize (List.replicate (if decide (V.int (k : Int) = V.int 8) = true then (1 : Int) else 0).toNat [V.str (Txt.mul (Str.mk #[cd]) 2)]).flatten = zs at *
   have n3 := zf hv (.lst zs)
   have t1 := t3.cut none (some (k : Int))
   have l1 := t1.len
   have l2 := trep.len
   refine ⟨y, v, _, _, rfl, rfl, n3 _ _ (n2 _ _ zd), zd, zy (by show _ <= 1000; have : (7 : Int).toNat = 7 := rfl; omega), fun r hr' => ?_⟩
   have n4 := zf hr' (.lst (j5 ys none (some (k : Int)) ++ zs))
   have sN := s3.trans (n1.trans (n2.trans (n3.trans n4)))
   exact q r _ _ (o12.trans (Off.of sN)) (w2.same sN) zd ((t1.app trep).mono (by decide)) hNz (Ne.symm ((w2.same (s3.trans (n1.trans (n2.trans n3)))).ne hr'))
 refine ⟨_, rfl, p, 7, rfl, w2, by decide, by decide, fun sz H3 z1 o3 w3 => ?_⟩
 refine ⟨_, _, rfl, rfl, ?_⟩
 dsimp only
 refine ⟨_, rfl, _, rfl, _, _, rfl, rfl, p, sz + 2, by (show [V.ref p, V.int (1 + (sz : Int) + 1)] = _; rw [show (1 + (sz : Int) + 1) = ((sz + 2 : Nat) : Int) by omega]), w3, by omega, by omega, fun at_ H4 a1 o4 w4 => ?_⟩
 have o14 := o12.trans (o3.trans o4)
 refine ⟨_, rfl, (k : Int), rfl, by omega, by omega, fun D hD => ?_⟩
 rw [Int.toNat_natCast]
 refine qv (fun i ys H' => zR H4 H' /\ TL i ys /\ ys = (List.range i).map (nm2 f (Txt.mul (Str.ofString "a") (at_ : Int)) (Txt.mul (Str.ofString "b") (1 + (sz : Int) - (at_ : Int))))) ⟨zf hD _, ⟨[], rfl, Nat.le_refl _, fun y h => by cases h⟩, rfl⟩ ?_ ?_
 ·rintro i ys H5 hi ⟨s5, t5, ey⟩ hD5
  obtain ⟨cc, ec⟩ := wY (i := ((f : Int) + (0 + (i : Int))) % 26) (by omega) (by omega)
  have la := Q9 (Str.ofString "a") (at_ : Int)
  have lb := Q9 (Str.ofString "b") (1 + (sz : Int) - (at_ : Int))
  rw [show (Str.ofString "a").length = 1 by decide +kernel] at la
  rw [show (Str.ofString "b").length = 1 by decide +kernel] at lb
  refine yes ⟨_, rfl, _, _, rfl, rfl, by omega, by omega, by decide +kernel, ?_⟩
  refine ⟨_, rfl, _, rfl, _, rfl, _, _, rfl, rfl, _, _, rfl, rfl, (show (0 : Int) < 26 by decide), .inr (.inr ⟨wX, _, cc, rfl, rfl, zy (by decide +kernel), ec, _, _, rfl, rfl, ?_, ?_⟩)⟩
  ·show _ + 1 <= _
   exact zy (by omega)
  refine ⟨_, rfl, _, rfl, _, _, rfl, rfl, _, _, rfl, rfl, by omega, by omega, by decide +kernel, _, _, rfl, rfl, ?_, ?_⟩
  ·rw [wM]
   show _ + 1 + _ <= _
   exact zy (by omega)
  have l5 := t5.len
  refine ZL hi jy hD5 (zo (by omega)) ⟨s5.put hD, ?_, by rw [ey, List.range_succ, List.map_append, sg_of ec]; rfl⟩
  refine t5.app ⟨[_], rfl, Nat.le_refl _, fun y hy => ?_⟩
  rw [List.mem_singleton.mp hy, wM, wM]
  show _ + 1 + _ <= 100
  omega
 ·rintro ys H5 ⟨s5, t5, ey⟩ hD5
  exact q D _ _ (o14.trans (Off.of s5)) (w4.same s5) hD5 (t5.mono (by omega)) (by rw [ey]; exact nm2_nd _ _ _ _ (by omega)) (Ne.symm (w4.ne hD))
abbrev qq : Stmt := top 30
theorem jh : zH ["_law_well_here", "_law_many", "_law_places", "_law_size", "_law_kept", "_law_found"] ["_law_well_here", "_law_many", "_law_places"] (zg qq) := ⟨rfl, rfl, rfl, by decide +kernel, rfl, by decide +kernel, by decide +kernel⟩
theorem wj {P : Program} {w : World} {K : PySem.W.Frag} {mg : Str -> Option Value} {base : Heap} {f : Addr} {fd : FuncData} (F : Fun K "_law_cells" "_law_cells" qq f fd) (gb : Gb mg) {c : Nat -> Addr} (cl : Cl K mg c) (d_law_draw : Def P w K mg base 1 "_law_draw" ["_law_well_here", "_law_many"] jQ) : jY P w K mg base CX0 2 f fd ["_law_well_here", "_law_many", "_law_places"] Wa := by
 refine F.ok jh (fun vs H Q E h => ?_) (fun cdv A outer s H vs Q E hr h => ?_)
 ·obtain ⟨p, m, pl, rfl, _⟩ := h
  rfl
 obtain ⟨p, m, pl, rfl, w, m1, m9, pl2, q⟩ := h
 have nd0 : (["_law_k", "_law_well_here", "_law_many"] : List Str).Nodup := by decide +kernel
 have nd1 : (["_law_k", "_law_well_here", "_law_many"] : List Str).Nodup := by decide +kernel
 have nd2 : (["_law_mark", "_law_kept"] : List Str).Nodup := by decide +kernel
 refine ⟨_, (@zh _ _ _ _ _ (@zv _ _ 3 _ _ _ _ jh.nd rfl (Or.inl rfl) (@zQ _ _ _ _ _ _ _ (@zq _ K (by rfl)) (@q5 _ _ _ _ (@za _ _ _ _ _ (@zj _ _ _ _) (@za _ _ _ _ _ (@pv _ 1 _ _ (by rfl) (by walk_at "v") (by decide) (by decide)) (@za _ _ _ _ _ (@zO _ _ _ _ _ _ _ _ (@Z0 _) (@pv _ 1 _ _ (by rfl) (by walk_at "v") (by decide) (by decide)) (@pv _ 1 _ _ (by rfl) (by walk_at "v") (by decide) (by decide))) (@ze _) (by rfl)) (by rfl)) (by rfl))) (@pv _ 2 _ _ (by rfl) (by walk_at "v") (by decide) (by decide)) (fun _ _ => rfl)) (by rfl) (by walk_at "f")) (@zh _ _ _ _ _ (@zv _ _ 4 _ _ _ _ jh.nd rfl (Or.inr rfl) (@zX _ ["_law_k", "_law_well_here", "_law_many"] [none, some 0, some 1] _ _ _ _ _ _ _ _ _ _ (by exact (show zN ["_law_well_here", "_law_many", "_law_places", "_law_size", "_law_kept", "_law_found"] (zg qq) ["_law_k", "_law_well_here", "_law_many"] [none, some 0, some 1] _ from ⟨rfl, by decide +kernel, by decide +kernel, by decide +kernel, by decide +kernel, rfl, by decide +kernel⟩)) rfl (@zS _ _ _ _ _ _ rfl gb.range (@za _ _ _ _ _ (@zO _ _ _ _ _ _ _ _ (@qV _) (@zj _ _ _ _) (@zr _ _ _ _ _ _ _ _ _ _ _ d_law_draw hr (by omega) rfl (@za _ _ _ _ _ (@pv _ 0 _ _ (by rfl) (by walk_at "v") (by decide) (by decide)) (@za _ _ _ _ _ (@zj _ _ _ _) (@ze _) (by rfl)) (by rfl)) (by decide) (by rfl) (by rfl))) (@ze _) (by rfl)) (by rfl)) (fun _ _ _ _ => (@zp _ _ 0 _ nd0 rfl (Or.inl rfl) (by walk_at "f"))) (fun _ _ _ _ => (@qi _)) (fun _ _ _ _ => (@zr _ _ _ _ _ _ _ _ _ _ _ d_law_draw hr (by omega) rfl (@za _ _ _ _ _ (@pv _ 1 _ _ (by rfl) (by walk_at "v") (by decide) (by decide)) (@za _ _ _ _ _ (@pv _ 2 _ _ (by rfl) (by walk_at "v") (by decide) (by decide)) (@ze _) (by rfl)) (by rfl)) (by decide) (by rfl) (by rfl))) (by intro _; rfl)) (by rfl) (by walk_at "f")) (@zh _ _ _ _ _ (@jp _ ["_law_k", "_law_well_here", "_law_many"] [none, some 0, some 1] _ 5 _ _ _ _ _ _ _ _ _ _ _ _ (by exact (show zN ["_law_well_here", "_law_many", "_law_places", "_law_size", "_law_kept", "_law_found"] (zg qq) ["_law_k", "_law_well_here", "_law_many"] [none, some 0, some 1] _ from ⟨rfl, by decide +kernel, by decide +kernel, by decide +kernel, by decide +kernel, rfl, by decide +kernel⟩)) rfl (@zS _ _ _ _ _ _ rfl gb.range (@za _ _ _ _ _ (@pv _ 3 _ _ (by rfl) (by walk_at "v") (by decide) (by decide)) (@ze _) (by rfl)) (by rfl)) (fun _ _ _ _ => (@zp _ _ 0 _ nd1 rfl (Or.inl rfl) (by walk_at "f"))) (fun _ _ _ _ => (@qi _)) (fun _ _ _ _ => (@zr _ _ _ _ _ _ _ _ _ _ _ d_law_draw hr (by omega) rfl (@za _ _ _ _ _ (@pv _ 1 _ _ (by rfl) (by walk_at "v") (by decide) (by decide)) (@za _ _ _ _ _ (@pv _ 2 _ _ (by rfl) (by walk_at "v") (by decide) (by decide)) (@ze _) (by rfl)) (by rfl)) (by decide) (by rfl) (by rfl))) jh.nd rfl rfl rfl (by intro _; rfl)) (@zh _ _ _ _ _ (@jk _ _ _ _ _ _ _ _ (@zL _ _ _ _ _ _ _ _ (@Zg _) (@zr _ _ _ _ _ _ _ _ _ _ _ d_law_draw hr (by omega) rfl (@za _ _ _ _ _ (@pv _ 0 _ _ (by rfl) (by walk_at "v") (by decide) (by decide)) (@za _ _ _ _ _ (@zj _ _ _ _) (@ze _) (by rfl)) (by rfl)) (by decide) (by rfl) (by rfl)) (@zj _ _ _ _) (@qh _ _ (by decide) (by decide))) (@zm _ _ _ (@jp _ ["_law_mark", "_law_kept"] [none, some 4] _ 5 _ _ _ _ _ _ _ _ _ _ _ _ (by exact (show zN ["_law_well_here", "_law_many", "_law_places", "_law_size", "_law_kept", "_law_found"] (zg qq) ["_law_mark", "_law_kept"] [none, some 4] _ from ⟨rfl, by decide +kernel, by decide +kernel, by decide +kernel, by decide +kernel, rfl, by decide +kernel⟩)) rfl (@zZ _ K _ _ _ (@pv _ 5 _ _ (by rfl) (by walk_at "v") (by decide) (by decide)) (by rfl)) (fun _ _ _ _ => (@zp _ _ 0 _ nd2 rfl (Or.inl rfl) (by walk_at "f"))) (fun _ _ _ _ => (@qi _)) (fun _ _ _ _ => (@zQ _ _ _ _ _ _ _ (@zq _ K (by rfl)) (@pv _ 1 _ _ (by rfl) (by walk_at "v") (by decide) (by decide)) (@zO _ _ _ _ _ _ _ _ (@Zx _) (@pv _ 0 _ _ (by rfl) (by walk_at "v") (by decide) (by decide)) (@zA _ _ _ _ _ _ _ _ _ (@qf _ K (by rfl)) rfl gb.len jg (@za _ _ _ _ _ (@pv _ 1 _ _ (by rfl) (by walk_at "v") (by decide) (by decide)) (@ze _) (by rfl)) (by decide) (by decide) (by rfl) (by rfl))) (fun _ _ => rfl))) jh.nd rfl rfl rfl (by intro _; rfl))) (@zW _)) (@zm _ _ _ (@zP _ _ _ _ (@zx _ _ _ _ _ _ _ _ _ (@zt _ K (by rfl)) rfl gb.tuple qm (@za _ _ _ _ _ (@pv _ 5 _ _ (by rfl) (by walk_at "v") (by decide) (by decide)) (@ze _) (by rfl)) (by decide) (by decide) (by rfl) (by rfl)))))))), ?_⟩
 have mp := YF m9 pl2
 refine ⟨_, rfl, _, rfl, _, rfl, _, _, rfl, rfl, .inr ⟨by omega, by omega⟩, zy (by show 3 <= 1000; decide), fun L hL => ?_⟩
 have nL := zf hL (.lst [.int 1, nV m, .int ((m : Int) * (m : Int))])
 refine ⟨_, rfl, .inl ⟨L, _, _, nV (m ^ pl), rfl, rfl, SqL.of zd, ?_, ?_⟩⟩
 ·have h : pl = 0 \/ pl = 1 \/ pl = 2 := by omega
  rcases h with rfl | rfl | rfl
  ·exact qC (by rw [Nat.pow_zero]; rfl)
  ·exact qC (by rw [Nat.pow_one]; rfl)
  ·exact qC (by rw [Nat.pow_two, show nV (m * m) = V.int ((m : Int) * (m : Int)) by show V.int _ = _; rw [Int.natCast_mul]]; rfl)
 refine ⟨_, rfl, p, 3, rfl, w.same nL, by decide, by decide, fun kc H1 kc1 o1 w1 => ?_⟩
 refine ⟨_, _, rfl, rfl, _, rfl, by omega, by omega, fun D hD => ?_⟩
 rw [show (1 + (kc : Int)).toNat = kc + 1 by omega]
 have oA := (Off.of (p := p) nL).trans o1
 refine QQ (m := m) w1 hD (by omega) (fun i H' Q' hi w' k' => ⟨_, rfl, _, rfl, p, m, rfl, w', by omega, by omega, k'⟩) (fun ks H2 kl kv o2 w2 hD2 => ?_)
 have pD := w1.ne hD
 refine ⟨_, rfl, _, rfl, by omega, by omega, fun D2 hD3 => ?_⟩
 rw [Int.toNat_natCast]
 refine QQ (m := m) w2 hD3 (by omega) (fun i H' Q' hi w' k' => ⟨_, rfl, _, rfl, p, m, rfl, w', by omega, by omega, k'⟩) (fun fs H3 fl fv o3 w3 hD4 => ?_)
 have pD2 := w2.ne hD3
 refine ⟨_, rfl, p, 3, rfl, w3, by decide, by decide, fun dd H4 d1 o4 w4 => ⟨rfl, _, rfl, ?_⟩⟩
 have hk4 := o4 D _ (Ne.symm pD) (o3 D _ (Ne.symm pD) hD2)
 have hf4 := o4 D2 _ (Ne.symm pD2) hD4
 have oB := oA.trans (o2.trans (o3.trans o4))
 refine ite2 (fun c => ?_) (fun c => ?_)
 ·refine ⟨_, rfl, D2, rfl, ⟨_, SqL.of hf4⟩, fun D3 hD5 => ?_⟩
  have kpos : 0 < ks.length := by omega
  refine map_list fs nV (fun x => nV (Tn.at' ks (x % ks.length))) hf4 (by omega) hD5 (fun z hz H' Q' s5 q' => ?_) (fun H5 s5 hD6 => ?_)
  ·have hlen : ((ks.map nV).length : Int) = (ks.length : Int) := by rw [List.length_map]
   have e : atI (ks.map nV) ((z : Int) % ((ks.map nV).length : Int)) = some (nV (Tn.at' ks (z % ks.length))) := by
    rw [hlen, <- Int.natCast_emod]
    exact ym (Nat.mod_lt _ kpos)
   exact ⟨_, rfl, _, rfl, _, rfl, _, _, rfl, .inl ⟨_, SqL.of (s5 _ _ hk4), rfl⟩, _, _, rfl, rfl, (by rw [hlen]; omega), .inl ⟨D, _, _, _, rfl, rfl, SqL.of (s5 _ _ hk4), e, q' H' zR.rfl'⟩⟩
  ·refine ⟨_, rfl, D3, _, rfl, .inl ⟨SqL.of hD6, fun t ht => ?_⟩⟩
   have n6 := zf ht (.tup (fs.map fun x => nV (Tn.at' ks (x % ks.length))))
   refine q t (fs.map fun x => Tn.at' ks (x % ks.length)) _ (oB.trans (Off.of (s5.trans n6))) (w4.same (s5.trans n6)) ⟨by rw [List.length_map]; exact fl, fun x hx => ?_⟩ (by rw [List.map_map]; exact zd)
   obtain ⟨y, hy, rfl⟩ := List.mem_map.mp hx
   have hl := Nat.mod_lt y kpos
   unfold Tn.at'
   rw [List.getD_eq_getElem?_getD, List.getElem?_eq_getElem hl]
   exact kv _ (List.getElem_mem _)
 ·refine ⟨_, rfl, D2, _, rfl, .inl ⟨SqL.of hf4, fun t ht => ?_⟩⟩
  have n6 := zf ht (.tup (fs.map nV))
  exact q t fs _ (oB.trans (Off.of n6)) (w4.same n6) ⟨fl, fv⟩ zd
abbrev qQ : Stmt := top 31
theorem qI : zH ["_law_well_here", "_law_most", "_law_some", "_law_many", "_law_wished", "_law_names_here", "_law_connectives", "_law_name", "_law_places"] ["_law_well_here", "_law_most", "_law_some"] (zg qQ) := ⟨rfl, rfl, rfl, by decide +kernel, rfl, by decide +kernel, by decide +kernel⟩
theorem wk {P : Program} {w : World} {K : PySem.W.Frag} {mg : Str -> Option Value} {base : Heap} {f : Addr} {fd : FuncData} (F : Fun K "_law_table" "_law_table" qQ f fd) (gb : Gb mg) {c : Nat -> Addr} (cl : Cl K mg c) (d_law_draw : Def P w K mg base 1 "_law_draw" ["_law_well_here", "_law_many"] jQ) (d_law_names : Def P w K mg base 2 "_law_names" ["_law_well_here", "_law_many"] wZ) (d_law_cells : Def P w K mg base 2 "_law_cells" ["_law_well_here", "_law_many", "_law_places"] Wa) : jY P w K mg base CX0 3 f fd ["_law_well_here", "_law_most", "_law_some"] Wb := by
 refine F.ok qI (fun vs H Q E h => ?_) (fun cdv A outer s H vs Q E hr h => ?_)
 ·obtain ⟨p, mo, so, rfl, _⟩ := h
  rfl
 obtain ⟨p, mo, so, rfl, w, mo1, mo9, so8, q⟩ := h
 have nd0 : (["_law_mark", "_law_well_here"] : List Str).Nodup := by decide +kernel
 refine ⟨_, (@zh _ _ _ _ _ (@zv _ _ 3 _ _ _ _ qI.nd rfl (Or.inl rfl) (@zO _ _ _ _ _ _ _ _ (@qV _) (@zj _ _ _ _) (@zr _ _ _ _ _ _ _ _ _ _ _ d_law_draw hr (by omega) rfl (@za _ _ _ _ _ (@pv _ 0 _ _ (by rfl) (by walk_at "v") (by decide) (by decide)) (@za _ _ _ _ _ (@pv _ 1 _ _ (by rfl) (by walk_at "v") (by decide) (by decide)) (@ze _) (by rfl)) (by rfl)) (by decide) (by rfl) (by rfl))) (by rfl) (by walk_at "f")) (@zh _ _ _ _ _ (@zv _ _ 4 _ _ _ _ qI.nd rfl (Or.inl rfl) (@zx _ _ _ _ _ _ _ _ _ (@zt _ K (by rfl)) rfl gb.tuple qm (@za _ _ _ _ _ (@zX _ ["_law_mark", "_law_well_here"] [none, some 0] _ _ _ _ _ _ _ _ _ _ (by exact (show zN ["_law_well_here", "_law_most", "_law_some", "_law_many", "_law_wished", "_law_names_here", "_law_connectives", "_law_name", "_law_places"] (zg qQ) ["_law_mark", "_law_well_here"] [none, some 0] _ from ⟨rfl, by decide +kernel, by decide +kernel, by decide +kernel, by decide +kernel, rfl, by decide +kernel⟩)) rfl (@zS _ _ _ _ _ _ rfl gb.range (@za _ _ _ _ _ (@pv _ 3 _ _ (by rfl) (by walk_at "v") (by decide) (by decide)) (@ze _) (by rfl)) (by rfl)) (fun _ _ _ _ => (@zp _ _ 0 _ nd0 rfl (Or.inl rfl) (by walk_at "f"))) (fun _ _ _ _ => (@pf_one _ _ _ (@zL _ _ _ _ _ _ _ _ (@Zg _) (@zr _ _ _ _ _ _ _ _ _ _ _ d_law_draw hr (by omega) rfl (@za _ _ _ _ _ (@pv _ 1 _ _ (by rfl) (by walk_at "v") (by decide) (by decide)) (@za _ _ _ _ _ (@zj _ _ _ _) (@ze _) (by rfl)) (by rfl)) (by decide) (by rfl) (by rfl)) (@zj _ _ _ _) (@qh _ _ (by decide) (by decide))))) (fun _ _ _ _ => (@pv _ 0 _ _ (by rfl) (by walk_at "v") (by decide) (by decide))) (by intro _; rfl)) (@ze _) (by rfl)) (by decide) (by decide) (by rfl) (by rfl)) (by rfl) (by walk_at "f")) (@zh _ _ _ _ _ (@zv _ _ 5 _ _ _ _ qI.nd rfl (Or.inl rfl) (@zr _ _ _ _ _ _ _ _ _ _ _ d_law_names hr (by omega) rfl (@za _ _ _ _ _ (@pv _ 0 _ _ (by rfl) (by walk_at "v") (by decide) (by decide)) (@za _ _ _ _ _ (@zr _ _ _ _ _ _ _ _ _ _ _ d_law_draw hr (by omega) rfl (@za _ _ _ _ _ (@pv _ 0 _ _ (by rfl) (by walk_at "v") (by decide) (by decide)) (@za _ _ _ _ _ (@zO _ _ _ _ _ _ _ _ (@qV _) (@pv _ 2 _ _ (by rfl) (by walk_at "v") (by decide) (by decide)) (@zj _ _ _ _)) (@ze _) (by rfl)) (by rfl)) (by decide) (by rfl) (by rfl)) (@ze _) (by rfl)) (by rfl)) (by decide) (by rfl) (by rfl)) (by rfl) (by walk_at "f")) (@zh _ _ _ _ _ (@zv _ _ 6 _ _ _ _ qI.nd rfl (Or.inl rfl) (@q5 _ _ _ _ (@ze _)) (by rfl) (by walk_at "f")) (@zh _ _ _ _ _ (@qU _ _ _ _ _ _ _ _ PassesOwn.never rfl (@zZ _ K _ _ _ (@pv _ 5 _ _ (by rfl) (by walk_at "v") (by decide) (by decide)) (by rfl)) (@zp _ _ 7 _ qI.nd rfl (Or.inl rfl) (by walk_at "f")) (@zh _ _ _ _ _ (@zv _ _ 8 _ _ _ _ qI.nd rfl (Or.inl rfl) (@zQ _ _ _ _ _ _ _ (@zq _ K (by rfl)) (@q5 _ _ _ _ (@za _ _ _ _ _ (@zj _ _ _ _) (@za _ _ _ _ _ (@zj _ _ _ _) (@za _ _ _ _ _ (@zj _ _ _ _) (@za _ _ _ _ _ (@zj _ _ _ _) (@za _ _ _ _ _ (@zj _ _ _ _) (@ze _) (by rfl)) (by rfl)) (by rfl)) (by rfl)) (by rfl))) (@zr _ _ _ _ _ _ _ _ _ _ _ d_law_draw hr (by omega) rfl (@za _ _ _ _ _ (@pv _ 0 _ _ (by rfl) (by walk_at "v") (by decide) (by decide)) (@za _ _ _ _ _ (@zj _ _ _ _) (@ze _) (by rfl)) (by rfl)) (by decide) (by rfl) (by rfl)) (fun _ _ => rfl)) (by rfl) (by walk_at "f")) (@zm _ _ _ (@qy _ _ _ _ (@jD _ K _ _ _ _ _ _ _ _ _ _ _ PySem.F.plainAttrs_list PySem.F.slot_list_append PySem.F.type_list_append (@qE _) (@pv _ 6 _ _ (by rfl) (by walk_at "v") (by decide) (by decide)) (@za _ _ _ _ _ (@qB _ _ _ _ _ (@za _ _ _ _ _ (@pv _ 7 _ _ (by rfl) (by walk_at "v") (by decide) (by decide)) (@za _ _ _ _ _ (@pv _ 8 _ _ (by rfl) (by walk_at "v") (by decide) (by decide)) (@za _ _ _ _ _ (@zr _ _ _ _ _ _ _ _ _ _ _ d_law_cells hr (by omega) rfl (@za _ _ _ _ _ (@pv _ 0 _ _ (by rfl) (by walk_at "v") (by decide) (by decide)) (@za _ _ _ _ _ (@pv _ 3 _ _ (by rfl) (by walk_at "v") (by decide) (by decide)) (@za _ _ _ _ _ (@pv _ 8 _ _ (by rfl) (by walk_at "v") (by decide) (by decide)) (@ze _) (by rfl)) (by rfl)) (by rfl)) (by decide) (by rfl) (by rfl)) (@ze _) (by rfl)) (by rfl)) (by rfl))) (@ze _) (by rfl)) (by rfl) (by rfl) (by rfl) (by rfl) (by rfl) (by rfl)) (by rfl)))) (by intro _; rfl)) (@zm _ _ _ (@zP _ _ _ _ (@qB _ _ _ _ _ (@za _ _ _ _ _ (@pv _ 3 _ _ (by rfl) (by walk_at "v") (by decide) (by decide)) (@za _ _ _ _ _ (@pv _ 4 _ _ (by rfl) (by walk_at "v") (by decide) (by decide)) (@za _ _ _ _ _ (@zx _ _ _ _ _ _ _ _ _ (@zt _ K (by rfl)) rfl gb.tuple qm (@za _ _ _ _ _ (@pv _ 6 _ _ (by rfl) (by walk_at "v") (by decide) (by decide)) (@ze _) (by rfl)) (by decide) (by decide) (by rfl) (by rfl)) (@ze _) (by rfl)) (by rfl)) (by rfl)))))))))), ?_⟩
 refine ⟨_, rfl, _, rfl, p, mo, rfl, w, by omega, by omega, fun mm H1 mm1 o1 w1 => ?_⟩
 refine ⟨_, _, rfl, rfl, ?_⟩
 dsimp only
 rw [show (1 + (mm : Int)) = ((mm + 1 : Nat) : Int) by omega]
 refine ⟨_, rfl, ((mm + 1 : Nat) : Int), rfl, by omega, by omega, fun D hD => ?_⟩
 rw [Int.toNat_natCast]
 have pD := w1.ne hD
 refine qv (fun i ys H' => ∃ ws : List Nat, ys = ws.map nV /\ ws.Pairwise (· < ·) /\ (∀ x ∈ ws, x < i) /\ ws.length <= i /\ Off p H1 H' /\ Wel H' p) ⟨[], rfl, .nil, (fun x h => by cases h), Nat.le_refl _, Off.new hD, w1.off pD⟩ ?_ ?_
 ·rintro i ys H2 hi ⟨ws, rfl, wr, wl, wn, o2, w2⟩ hD2
  refine ⟨_, rfl, p, 2, rfl, w2, by decide, by decide, fun v H3 v1 o3 w3 => ⟨rfl, _, rfl, ?_⟩⟩
  have hD3 := o3 D _ (Ne.symm pD) hD2
  refine ite2 (fun c => ?_) (fun c => ?_)
  ·refine ⟨_, rfl, ZL hi jy hD3 (by rw [List.length_map]; exact zo (by omega)) ⟨ws ++ [i], by rw [List.map_append, Int.zero_add]; rfl, ?_, fun x hx => ?_, by rw [List.length_append]; exact Nat.succ_le_succ wn, (o2.trans o3).fresh hD, w3.off pD⟩⟩
   ·rw [List.pairwise_append]
    exact ⟨wr, List.pairwise_singleton _ _, fun a ha b hb => by rw [List.mem_singleton.mp hb]; exact wl a ha⟩
   ·rcases List.mem_append.mp hx with h | h
    ·have := wl x h
     omega
    ·rw [List.mem_singleton.mp h]
     omega
  ·exact cno hi jy hD3 ⟨ws, rfl, wr, fun x hx => Nat.lt_succ_of_lt (wl x hx), Nat.le_succ_of_le wn, o2.trans o3, w3⟩
 rintro ys H2 ⟨ws, rfl, wr, wl, wn, o2, w2⟩ hD2
 refine ⟨D, _, rfl, .inl ⟨SqL.of hD2, fun tw htw => ?_⟩⟩
 have n3 := zf htw (.tup (ws.map nV))
 refine ⟨_, rfl, _, rfl, _, rfl, _, _, rfl, rfl, p, so + 1, rfl, w2.same n3, by omega, by omega, fun kk H3 kk1 o3 w3 => ?_⟩
 refine ⟨p, kk, rfl, w3, by omega, fun l xs H4 o4 w4 hl hT hN lp => ?_⟩
 have oA := o1.trans (o2.trans ((Off.of (p := p) n3).trans (o3.trans o4)))
 have htw4 : H4 tw = some (.tup (ws.map nV)) := (w3.tk o4) _ _ (((w2.same n3).tk o3) _ _ zd)
 refine ⟨zy (by show 0 <= 1000; decide), fun cn hcn => ?_⟩
 have pcn := w4.ne hcn
 have n5 := zf hcn (.lst [])
 refine ⟨_, rfl, l, rfl, ⟨_, SqL.of (n5 _ _ hl)⟩, ?_⟩
 have hTl := hT.len
 refine qN (xs := xs) (fun i σ H' => (∃ x7 x8, σ = [some (.ref p), some (nV mo), some (nV so), some (nV (mm + 1)), some (.ref tw), some (.ref l), some (.ref cn), x7, x8]) /\ Off p H4 H' /\ Wel H' p /\ ∃ cs ys, H' cn = some (.lst ys) /\ Cns H' cs ys /\ cs.length = i /\ (∀ c ∈ cs, c.nm.length <= 100 /\ c.pl <= 2 /\ Tn.Cs (mm + 1) c.pl c.cs) /\ (cs.map fun c => V.str c.nm) = xs.take i) ⟨⟨_, _, rfl⟩, Off.of n5, w4.same n5, [], [], zd, .nil, rfl, (fun c h => by cases h), rfl⟩ (fun i σ H' _ h => SqL.of (h.2.1 _ _ lp hl)) ?_ ?_
 ·rintro i x σ H5 hx ⟨⟨x7, x8, rfl⟩, o5, w5, cs, ys, hy, hC, cl, hg, en⟩
  obtain ⟨ts, rfl, tl, tb⟩ := id hT
  have hil : i < (ts.map V.str).length := (List.getElem?_eq_some_iff.mp hx).1
  have hx0 := hx
  rw [List.getElem?_map] at hx
  obtain ⟨nm, hnm, rfl⟩ := Option.map_eq_some_iff.mp hx
  refine ⟨zy (by show 5 <= 1000; decide), fun L hL => ?_⟩
  have nL := zf hL (.lst [.int 0, .int 1, .int 1, .int 2, .int 2])
  have pL := w5.ne hL
  refine ⟨_, rfl, p, 5, rfl, w5.same nL, by decide, by decide, fun v H7 v1 o7 w7 => ?_⟩
  obtain ⟨pl, e, p2⟩ : ∃ pl : Nat, atI [V.int 0, .int 1, .int 1, .int 2, .int 2] (v : Int) = some (nV pl) /\ pl <= 2 := by
   match v, v1 with
   | 0, _ => exact ⟨0, qC rfl, by decide⟩
   | 1, _ => exact ⟨1, qC rfl, by decide⟩
   | 2, _ => exact ⟨1, qC rfl, by decide⟩
   | 3, _ => exact ⟨2, qC rfl, by decide⟩
   | 4, _ => exact ⟨2, qC rfl, by decide⟩
  refine .inl ⟨L, _, _, _, rfl, rfl, SqL.of (o7 L _ (Ne.symm pL) zd), e, ?_⟩
  have hy7 := o7 cn _ (Ne.symm pcn) (nL _ _ hy)
  refine ⟨_, rfl, .inl ⟨rfl, _, SqL.of hy7⟩, _, rfl, _, rfl, _, rfl, _, rfl, _, rfl, p, mm + 1, pl, rfl, w7, by omega, by omega, p2, fun t cs8 H8 o8 w8 hcs ht => ?_⟩
  refine ⟨zy (by show 3 <= 1000; decide), fun t3 ht3 => ?_⟩
  have n9 := zf ht3 (.tup [.str nm, nV pl, .ref t])
  have hy9 := n9 _ _ (o8 cn _ (Ne.symm pcn) hy7)
  have hyl := hC.len
  have oN := (o5.trans (Off.of nL)).trans (o7.trans (o8.trans (Off.of n9)))
  have tN : Tk H5 (upd H8 t3 (.tup [.str nm, nV pl, .ref t])) := ((Tk.of nL).trans ((w5.same nL).tk o7)).trans ((w7.tk o8).trans (Tk.of n9))
  refine ⟨cn, _, _, rfl, rfl, hy9, zo (by omega), ⟨⟨_, _, rfl⟩, oN.fresh hcn, (w8.same n9).off pcn, cs ++ [⟨nm, pl, cs8⟩], _, zd, ?_, by rw [List.length_append, cl]; rfl, fun c hc => ?_, by rw [List.map_append, en, take_snoc hx0]; rfl⟩⟩
  ·exact (Cns.snoc (c := ⟨nm, pl, cs8⟩) (hC.tk tN) zd (n9 _ _ ht)).tk (Tk.put hy9)
  ·rcases List.mem_append.mp hc with h | h
   ·exact hg c h
   ·rw [List.mem_singleton.mp h]
    exact ⟨tb nm (List.mem_of_getElem? hnm), p2, hcs⟩
 ·rintro σ H5 ⟨⟨x7, x8, rfl⟩, o5, w5, cs, ys, hy, hC, cl, hg, en⟩
  refine ⟨_, rfl, _, rfl, _, rfl, cn, _, rfl, .inl ⟨SqL.of hy, fun tc htc => ?_⟩⟩
  have n6 := zf htc (.tup ys)
  refine ⟨zy (by show 3 <= 1000; decide), fun t ht => ?_⟩
  have n7 := zf ht (.tup [nV (mm + 1), .ref tw, .ref tc])
  have n67 := n6.trans n7
  refine q _ ⟨mm + 1, ws, cs⟩ _ ((oA.trans o5).trans (Off.of n67)) (w5.same n67) ⟨by show 1 <= mm + 1; omega, by show mm + 1 <= 9; omega, wr, wl, by show cs.length <= 16; omega, hg⟩ (by show mm + 1 <= mo; omega) ?_ ⟨t, tw, tc, ys, rfl, zd, n67 _ _ ((w4.tk o5) _ _ htw4), n7 _ _ zd, hC.same n67⟩
  rw [List.take_length] at en
  rw [<- en] at hN
  refine YI ?_
  unfold nmsOf'
  rw [List.map_map]
  exact hN
abbrev js : Stmt := top 32
theorem jX : zH ["_law_many", "_law_cells_here", "_law_grades_here", "_law_place", "_law_mark"] ["_law_many", "_law_cells_here", "_law_grades_here"] (zg js) := ⟨rfl, rfl, rfl, by decide +kernel, rfl, by decide +kernel, by decide +kernel⟩
theorem Wo {P : Program} {w : World} {K : PySem.W.Frag} {mg : Str -> Option Value} {base : Heap} {f : Addr} {fd : FuncData} (F : Fun K "_law_cell" "_law_cell" js f fd) (gb : Gb mg) {c : Nat -> Addr} (cl : Cl K mg c) : jY P w K mg base CX0 1 f fd ["_law_many", "_law_cells_here", "_law_grades_here"] YH := by
 refine F.ok jX (fun vs H Q E h => ?_) (fun cdv A outer s H vs Q E hr h => ?_)
 ·obtain ⟨m, k, c, g, cs, r, rfl, _⟩ := h
  rfl
 obtain ⟨m, k, c, g, cs, r, rfl, m9, k2, hc, hg, hrw, hl, q⟩ := h
 refine ⟨_, (@zh _ _ _ _ _ (@zv _ _ 3 _ _ _ _ jX.nd rfl (Or.inl rfl) (@zj _ _ _ _) (by rfl) (by walk_at "f")) (@zh _ _ _ _ _ (@qU _ _ _ _ _ _ _ _ PassesOwn.never rfl (@piOr _ _ _ _ _ (@zZ _ K _ _ _ (@pv _ 2 _ _ (by rfl) (by walk_at "v") (by decide) (by decide)) (by rfl)) (@ji _ K _ _ _ (@pv _ 2 _ _ (by rfl) (by walk_at "v") (by decide) (by decide)) (by rfl))) (@zp _ _ 4 _ jX.nd rfl (Or.inl rfl) (by walk_at "f")) (@zm _ _ _ (@zv _ _ 3 _ _ _ _ jX.nd rfl (Or.inl rfl) (@zO _ _ _ _ _ _ _ _ (@qV _) (@zO _ _ _ _ _ _ _ _ (@Z0 _) (@pv _ 3 _ _ (by rfl) (by walk_at "v") (by decide) (by decide)) (@pv _ 0 _ _ (by rfl) (by walk_at "v") (by decide) (by decide))) (@pv _ 4 _ _ (by rfl) (by walk_at "v") (by decide) (by decide))) (by rfl) (by walk_at "f"))) (by intro _; rfl)) (@zm _ _ _ (@zP _ _ _ _ (@zQ _ _ _ _ _ _ _ (@zq _ K (by rfl)) (@pv _ 1 _ _ (by rfl) (by walk_at "v") (by decide) (by decide)) (@pv _ 3 _ _ (by rfl) (by walk_at "v") (by decide) (by decide)) (fun _ _ => rfl)))))), ?_⟩
 rcases hg with hg | hg
 ·refine .inl ⟨_, rfl, g, rfl, ⟨_, SqL.of hg⟩, ?_⟩
  refine qN (xs := r.map nV) (fun i σ H' => H' = H /\ ∃ x, σ = [some (nV m), some (.ref c), some (.ref g), some (nV (Tn.place m (r.take i))), x]) ⟨rfl, _, rfl⟩ (fun i σ H' _ h => by rw [h.1]; exact SqL.of hg) ?_ ?_
  ·rintro i x σ H' hx ⟨rfl, x', rfl⟩
   rw [List.getElem?_map] at hx
   obtain ⟨a, ha, rfl⟩ := Option.map_eq_some_iff.mp hx
   refine ⟨_, rfl, _, rfl, _, _, rfl, rfl, .inr ⟨by omega, by omega⟩, _, rfl, _, _, rfl, rfl, rfl, some (nV a), ?_⟩
   rw [take_snoc ha, Tn.place_snoc]
   rw [show nV (Tn.place m (r.take i) * m + a) = V.int ((Tn.place m (r.take i) : Int) * (m : Int) + (a : Int)) by show V.int _ = _; rw [Int.natCast_add, Int.natCast_mul]]
   rfl
  ·rintro σ H' ⟨rfl, x', rfl⟩
   rw [List.length_map, List.take_length]
   exact ⟨_, rfl, _, rfl, .inr (.inl ⟨c, _, _, _, rfl, rfl, SqT.of hc, ym (by rw [hl]; exact Tn.place_lt k r hrw), q⟩)⟩
 ·refine .inr ⟨_, rfl, g, rfl, ⟨_, SqT.of hg⟩, ?_⟩
  refine Q0 (xs := r.map nV) (fun i σ H' => H' = H /\ ∃ x, σ = [some (nV m), some (.ref c), some (.ref g), some (nV (Tn.place m (r.take i))), x]) ⟨rfl, _, rfl⟩ (fun i σ H' _ h => by rw [h.1]; exact SqT.of hg) ?_ ?_
  ·rintro i x σ H' hx ⟨rfl, x', rfl⟩
   rw [List.getElem?_map] at hx
   obtain ⟨a, ha, rfl⟩ := Option.map_eq_some_iff.mp hx
   refine ⟨_, rfl, _, rfl, _, _, rfl, rfl, .inr ⟨by omega, by omega⟩, _, rfl, _, _, rfl, rfl, rfl, some (nV a), ?_⟩
   rw [take_snoc ha, Tn.place_snoc]
   rw [show nV (Tn.place m (r.take i) * m + a) = V.int ((Tn.place m (r.take i) : Int) * (m : Int) + (a : Int)) by show V.int _ = _; rw [Int.natCast_add, Int.natCast_mul]]
   rfl
  ·rintro σ H' ⟨rfl, x', rfl⟩
   rw [List.length_map, List.take_length]
   exact ⟨_, rfl, _, rfl, .inr (.inl ⟨c, _, _, _, rfl, rfl, SqT.of hc, ym (by rw [hl]; exact Tn.place_lt k r hrw), q⟩)⟩
abbrev qR : Stmt := top 33
theorem qT : zH ["_law_well_here", "_law_table_here", "_law_letters", "_law_more", "_law_lines_here", "_law_turn", "_law_name", "_law_places", "_law_cells_here"] ["_law_well_here", "_law_table_here", "_law_letters", "_law_more"] (zg qR) := ⟨rfl, rfl, rfl, by decide +kernel, rfl, by decide +kernel, by decide +kernel⟩
theorem wm {P : Program} {w : World} {K : PySem.W.Frag} {mg : Str -> Option Value} {base : Heap} {f : Addr} {fd : FuncData} (F : Fun K "_law_lines" "_law_lines" qR f fd) (gb : Gb mg) {c : Nat -> Addr} (cl : Cl K mg c) (d_law_draw : Def P w K mg base 1 "_law_draw" ["_law_well_here", "_law_many"] jQ) : jY P w K mg base CX0 2 f fd ["_law_well_here", "_law_table_here", "_law_letters", "_law_more"] Wf := by
 refine F.ok qT (fun vs H Q E h => ?_) (fun cdv A outer s H vs Q E hr h => ?_)
 ·obtain ⟨p, v, T, la, LT, k, rfl, _⟩ := h
  rfl
 obtain ⟨p, v, T, la, LT, k, rfl, w, ia, gT, hla, lp, l1, l2, k8, q⟩ := h
 have nd0 : (["_law_k", "_law_well_here", "_law_lines_here"] : List Str).Nodup := by decide +kernel
 refine ⟨_, (@zh _ _ _ _ _ (@zv _ _ 4 _ _ _ _ qT.nd rfl (Or.inr rfl) (@zx _ _ _ _ _ _ _ _ _ (@jO _ K (by rfl)) rfl gb.list j7 (@za _ _ _ _ _ (@pv _ 2 _ _ (by rfl) (by walk_at "v") (by decide) (by decide)) (@ze _) (by rfl)) (by decide) (by decide) (by rfl) (by rfl)) (by rfl) (by walk_at "f")) (@zh _ _ _ _ _ (@qU _ _ _ _ _ _ _ _ PassesOwn.never rfl (@zS _ _ _ _ _ _ rfl gb.range (@za _ _ _ _ _ (@zO _ _ _ _ _ _ _ _ (@Z0 _) (@pv _ 3 _ _ (by rfl) (by walk_at "v") (by decide) (by decide)) (@zx _ _ _ _ _ _ _ _ _ (@JE _) rfl gb.int bt_int (@za _ _ _ _ _ (@Z1 _ _ _ _ _ _ _ _ (@op_neE _ _ hr) (@zQ _ _ _ _ _ _ _ (@zq _ K (by rfl)) (@pv _ 1 _ _ (by rfl) (by walk_at "v") (by decide) (by decide)) (@zj _ _ _ _) (fun _ _ => rfl)) (@qB _ _ _ _ _ (@ze _)) (@qh _ _ (by decide) (by decide))) (@ze _) (by rfl)) (by decide) (by decide) (by rfl) (by rfl))) (@ze _) (by rfl)) (by rfl)) (@zp _ _ 5 _ qT.nd rfl (Or.inl rfl) (by walk_at "f")) (@zh _ _ _ _ _ (@Ws _ _ _ _ _ _ (@zQ _ _ _ _ _ _ _ (@zq _ K (by rfl)) (@zQ _ _ _ _ _ _ _ (@zq _ K (by rfl)) (@pv _ 1 _ _ (by rfl) (by walk_at "v") (by decide) (by decide)) (@zj _ _ _ _) (fun _ _ => rfl)) (@zr _ _ _ _ _ _ _ _ _ _ _ d_law_draw hr (by omega) rfl (@za _ _ _ _ _ (@pv _ 0 _ _ (by rfl) (by walk_at "v") (by decide) (by decide)) (@za _ _ _ _ _ (@zA _ _ _ _ _ _ _ _ _ (@qf _ K (by rfl)) rfl gb.len jg (@za _ _ _ _ _ (@zQ _ _ _ _ _ _ _ (@zq _ K (by rfl)) (@pv _ 1 _ _ (by rfl) (by walk_at "v") (by decide) (by decide)) (@zj _ _ _ _) (fun _ _ => rfl)) (@ze _) (by rfl)) (by decide) (by decide) (by rfl) (by rfl)) (@ze _) (by rfl)) (by rfl)) (by decide) (by rfl) (by rfl)) (fun _ _ => rfl)) (@jP _ K _ _ _ _ 3 rfl (@zK _ _ _ _ _ (@zp _ _ 6 _ qT.nd rfl (Or.inl rfl) (by walk_at "f")) (@zK _ _ _ _ _ (@zp _ _ 7 _ qT.nd rfl (Or.inl rfl) (by walk_at "f")) (@zK _ _ _ _ _ (@zp _ _ 8 _ qT.nd rfl (Or.inl rfl) (by walk_at "f")) (@jM _) (by rfl)) (by rfl)) (by rfl)) (by rfl) (by rfl) (by rfl)) (by rfl) (by rfl) (by rfl)) (@zm _ _ _ (@jk _ _ _ _ _ _ _ _ (@PW.pt _ _ _ (@yE _ _ _ _ _ _ _ (@zL _ _ _ _ _ _ _ _ (@op_neNil _ K _ hr (by rfl)) (@pv _ 4 _ _ (by rfl) (by walk_at "v") (by decide) (by decide)) (@q5 _ _ _ _ (@ze _)) (@qh _ _ (by decide) (by decide))) (@Wr _ _ _ _ (@zL _ _ _ _ _ _ _ _ (@Zg _) (@pv _ 7 _ _ (by rfl) (by walk_at "v") (by decide) (by decide)) (@zj _ _ _ _) (@qh _ _ (by decide) (by decide)))))) (@zm _ _ _ (@qy _ _ _ _ (@jD _ K _ _ _ _ _ _ _ _ _ _ _ PySem.F.plainAttrs_list PySem.F.slot_list_append PySem.F.type_list_append (@qE _) (@pv _ 4 _ _ (by rfl) (by walk_at "v") (by decide) (by decide)) (@za _ _ _ _ _ (@zO _ _ _ _ _ _ _ _ (@wL _ K (by rfl)) (@qB _ _ _ _ _ (@za _ _ _ _ _ (@pv _ 6 _ _ (by rfl) (by walk_at "v") (by decide) (by decide)) (@ze _) (by rfl))) (@zx _ _ _ _ _ _ _ _ _ (@zt _ K (by rfl)) rfl gb.tuple qm (@za _ _ _ _ _ (@zX _ ["_law_k", "_law_well_here", "_law_lines_here"] [none, some 0, some 4] _ _ _ _ _ _ _ _ _ _ (by exact (show zN ["_law_well_here", "_law_table_here", "_law_letters", "_law_more", "_law_lines_here", "_law_turn", "_law_name", "_law_places", "_law_cells_here"] (zg qR) ["_law_k", "_law_well_here", "_law_lines_here"] [none, some 0, some 4] _ from ⟨rfl, by decide +kernel, by decide +kernel, by decide +kernel, by decide +kernel, rfl, by decide +kernel⟩)) rfl (@zS _ _ _ _ _ _ rfl gb.range (@za _ _ _ _ _ (@pv _ 7 _ _ (by rfl) (by walk_at "v") (by decide) (by decide)) (@ze _) (by rfl)) (by rfl)) (fun _ _ _ _ => (@zp _ _ 0 _ nd0 rfl (Or.inl rfl) (by walk_at "f"))) (fun _ _ _ _ => (@qi _)) (fun _ _ _ _ => (@zr _ _ _ _ _ _ _ _ _ _ _ d_law_draw hr (by omega) rfl (@za _ _ _ _ _ (@pv _ 1 _ _ (by rfl) (by walk_at "v") (by decide) (by decide)) (@za _ _ _ _ _ (@zA _ _ _ _ _ _ _ _ _ (@qf _ K (by rfl)) rfl gb.len jg (@za _ _ _ _ _ (@pv _ 2 _ _ (by rfl) (by walk_at "v") (by decide) (by decide)) (@ze _) (by rfl)) (by decide) (by decide) (by rfl) (by rfl)) (@ze _) (by rfl)) (by rfl)) (by decide) (by rfl) (by rfl))) (by intro _; rfl)) (@ze _) (by rfl)) (by decide) (by decide) (by rfl) (by rfl))) (@ze _) (by rfl)) (by rfl) (by rfl) (by rfl) (by rfl) (by rfl) (by rfl)) (by rfl))) (@zW _)))) (by intro _; rfl)) (@zm _ _ _ (@zP _ _ _ _ (@pv _ 4 _ _ (by rfl) (by walk_at "v") (by decide) (by decide)))))), ?_⟩
 obtain ⟨a, w0, c, vs, rfl, h1, h2, h3, h4⟩ := id ia
 have gcl := gT.cl
 have vl := h4.len
 refine ⟨_, rfl, la, _, rfl, .inl (SqL.of hla), fun l hl => ?_⟩
 have n1 := zf hl (.lst (LT.map V.str))
 have lp' : l ≠ p := Ne.symm (w.ne hl)
 have hl1 : (upd H l (.lst (LT.map V.str))) l = some (.lst (LT.map V.str)) := zd
 have w1 := w.same n1
 have o1 : Off p H (upd H l (.lst (LT.map V.str))) := Off.of n1
 generalize upd H l (.lst (LT.map V.str)) = H1 at *
 refine ⟨_, rfl, _, rfl, .inr (.inl ⟨a, _, 2, _, rfl, rfl, SqT.of (n1 _ _ h1), rfl, zy (by show 0 <= 1000; decide), fun te hte => ?_⟩)⟩
 have n2 := zf hte (.tup [])
 refine ⟨c, te, _, rfl, rfl, (n1.trans n2) _ _ h3, zd, .inr ⟨_, rfl, ?_⟩⟩
 have hl2 := n2 _ _ hl1
 have w2 := w1.same n2
 have o2 : Off p H (upd H1 te (.tup [])) := o1.trans (Off.of n2)
 have k2 : Tk H (upd H1 te (.tup [])) := w.tk o2
 generalize upd H1 te (.tup []) = H2 at *
 obtain ⟨N, eN, N0, N8, hN⟩ : ∃ N : Int, (k : Int) * (if (!vs.isEmpty) = true then 1 else 0) = N /\ 0 <= N /\ N <= 10 /\ (0 < N -> 1 <= vs.length) := by
  refine ⟨_, rfl, ?_, ?_, ?_⟩
  ·split <;> omega
  ·split <;> omega
  ·intro h
   cases vs with
   | nil => simp at h
   | cons x xs => simp
 refine ⟨_, _, rfl, rfl, .inl ⟨by omega, by omega⟩, N, by (show [V.int _] = _; rw [eN]), by omega, by omega, ?_⟩
 refine Zw (fun i σ H' => ∃ x5 x6 x7 x8 ls us, σ = [some (.ref p), some (.ref a), some (.ref la), some (nV k), some (.ref l), x5, x6, x7, x8] /\ Off p H H' /\ Wel H' p /\ H' l = some (.lst us) /\ Lns H' ls us /\ jz T LT ls /\ LT.length <= ls.length /\ ls.length <= LT.length + i) ⟨none, none, none, none, LT.map Sum.inl, _, rfl, o2, w2, hl2, Qi LT, J6 T LT, by rw [List.length_map]; exact Nat.le_refl _, by rw [List.length_map]; exact Nat.le_refl _⟩ ?_ ?_
 ·rintro i σ H3 hi ⟨x5, x6, x7, x8, ls, us, rfl, o3, w3, hl3, hLs, hG, lA, lB⟩
  have v1 : 1 <= vs.length := hN (by omega)
  have k3 := w.tk o3
  have hul := Paired.length hLs
  refine ⟨_, rfl, .inr (.inl ⟨a, _, 2, _, rfl, rfl, SqT.of (k3 _ _ h1), rfl, ?_⟩)⟩
  refine ⟨_, rfl, _, rfl, .inr (.inl ⟨a, _, 2, _, rfl, rfl, SqT.of (k3 _ _ h1), rfl, _, _, rfl, .inr ⟨_, SqT.of (k3 _ _ h3), rfl⟩, ?_⟩)⟩
  refine ⟨p, vs.length, rfl, w3, by omega, by omega, fun v H4 v4 o4 w4 => ?_⟩
  have hc : T.cs[v]? = some T.cs[v] := List.getElem?_eq_getElem (by omega)
  generalize T.cs[v] = cn at hc
  obtain ⟨t, u, ev, ht, hu⟩ := h4.get hc
  have hcm := List.mem_of_getElem? hc
  obtain ⟨_, p2, _⟩ := gT.cn cn hcm
  have k4 := k3.trans (w3.tk o4)
  refine .inr (.inl ⟨c, _, _, _, rfl, rfl, SqT.of (k4 _ _ h3), qC ev, ?_⟩)
  refine ⟨t, _, rfl, SqT.of (k4 _ _ ht), rfl, _, _, rfl, _, _, rfl, _, _, rfl, rfl, ?_⟩
  have hl4 := o4 l _ lp' hl3
  refine ⟨_, rfl, zy (by show 0 <= 1000; decide), fun e he => ?_⟩
  have n5 := zf he (.lst [])
  refine ⟨l, e, us, rfl, rfl, SqL.of (n5 _ _ hl4), SqL.of zd, _, rfl, ?_⟩
  have une : (!us.isEmpty) = true := by
   cases us with
   | nil =>
    have h0 : ls.length = 0 := hul
    omega
   | cons x xs => rfl
  rw [une]
  refine yv (yv ?_)
  have hl5 := n5 _ _ hl4
  have w5 := w4.same n5
  have o5 := (o3.trans o4).trans (Off.of n5)
  have k5 := k4.trans (Tk.of n5)
  have hLs5 : Lns _ ls us := Lns.tk ((w3.tk o4).trans (Tk.of n5)) hLs
  generalize upd H4 e (.lst []) = H5 at *
  refine ⟨_, rfl, .inl ⟨rfl, _, SqL.of hl5⟩, _, rfl, zy (by show 1 <= 1000; decide), fun t1 ht1 => ?_⟩
  have n6 := zf ht1 (.tup [.str cn.nm])
  refine ⟨_, rfl, (cn.pl : Int), rfl, by omega, by omega, fun D hD => ?_⟩
  rw [Int.toNat_natCast]
  have w6 := w5.same n6
  have pD := w6.ne hD
  have hl6 := n6 _ _ hl5
  refine qv (fun m ys H' => ∃ ns : List Nat, ys = ns.map nV /\ ns.length = m /\ (∀ n ∈ ns, n < us.length) /\ Off p (upd H5 t1 (.tup [.str cn.nm])) H' /\ Wel H' p) ⟨[], rfl, rfl, (fun n h => by cases h), Off.new hD, w6.off pD⟩ ?_ ?_
  ·rintro m ys H7 hm ⟨ns, rfl, nl, nb, o7, w7⟩ hD7
   have hl7 := o7 l _ lp' hl6
   refine yes ⟨_, rfl, _, rfl, _, _, rfl, .inl ⟨_, SqL.of hl7, rfl⟩, p, us.length, rfl, w7, by omega, by omega, fun v' H8 v8 o8 w8 => ?_⟩
   have hD8 := o8 D _ (Ne.symm pD) hD7
   refine ZL hm jy hD8 (by rw [List.length_map]; exact zo (by omega)) ⟨ns ++ [v'], by rw [List.map_append]; rfl, by rw [List.length_append, nl]; rfl, fun n hn => ?_, (o7.trans o8).fresh hD, w8.off pD⟩
   rcases List.mem_append.mp hn with h | h
   ·exact nb n h
   ·rw [List.mem_singleton.mp h]
    exact v8
  rintro ys H7 ⟨ns, rfl, nl, nb, o7, w7⟩ hD7
  refine ⟨D, _, rfl, .inl ⟨SqL.of hD7, fun t2 ht2 => ?_⟩⟩
  have n8 := zf ht2 (.tup (ns.map nV))
  have k7 := w6.tk o7
  refine Wd ((k7.trans (Tk.of n8)) _ _ zd) zd (by rw [List.length_map]; show 1 + _ <= 1000; omega) fun t3 H9 s9 ht3 => ?_
  have w9 := (w7.same n8).same s9
  have o9 : Off p H5 H9 := (Off.of n6).trans (o7.trans ((Off.of n8).trans (Off.of s9)))
  have hl9 := o9 l _ lp' hl5
  have k9 : Tk H5 H9 := w5.tk o9
  refine ⟨l, _, _, rfl, rfl, hl9, zo (by omega), ?_⟩
  refine ⟨_, _, _, _, ls ++ [.inr (cn.nm, ns)], us ++ [.ref t3], rfl, (o5.trans o9).fresh hl, w9.off (Ne.symm lp'), zd, ?_, ?_, by rw [List.length_append]; omega, by rw [List.length_append]; show ls.length + 1 <= _; omega⟩
  ·exact Lns.tk (Tk.put hl9) (Lns.snoc (Lns.tk k9 hLs5) ⟨t3, rfl, ht3⟩)
  ·exact YK hG ⟨fun n hn => by have := nb n hn; omega, cn, hcm, rfl, nl.symm⟩
 ·rintro σ H3 ⟨x5, x6, x7, x8, ls, us, rfl, o3, w3, hl3, hLs, hG, lA, lB⟩
  exact ⟨_, rfl, q l ls us H3 o3 w3 lp' hl3 hLs hG (by omega) (by omega)⟩
abbrev qk : Stmt := top 34
theorem jo : zH ["_law_table_here", "_law_lines_here", "_law_grading", "_law_known", "_law_found", "_law_line"] ["_law_table_here", "_law_lines_here", "_law_grading"] (zg qk) := ⟨rfl, rfl, rfl, by decide +kernel, rfl, by decide +kernel, by decide +kernel⟩
theorem Jx {P : Program} {w : World} {K : PySem.W.Frag} {mg : Str -> Option Value} {base : Heap} {f : Addr} {fd : FuncData} (F : Fun K "_law_grades" "_law_grades" qk f fd) (gb : Gb mg) {c : Nat -> Addr} (cl : Cl K mg c) (d_law_cell : Def P w K mg base 1 "_law_cell" ["_law_many", "_law_cells_here", "_law_grades_here"] YH) : jY P w K mg base CX0 2 f fd ["_law_table_here", "_law_lines_here", "_law_grading"] Jj := by
 refine F.ok jo (fun vs H Q E h => ?_) (fun cdv A outer s H vs Q E hr h => ?_)
 ·obtain ⟨v, ll, g, T, ls, us, γ, LT, rfl, _⟩ := h
  rfl
 obtain ⟨v, ll, g, T, ls, us, γ, LT, rfl, ia, gT, nT, hl, hls, hgd, l12, ig, hb, q⟩ := h
 have nd0 : (["_law_name", "_law_places", "_law_cells_here"] : List Str).Nodup := by decide +kernel
 have nd1 : (["_law_number", "_law_found"] : List Str).Nodup := by decide +kernel
 refine ⟨_, (@zh _ _ _ _ _ (@zv _ _ 3 _ _ _ _ jo.nd rfl (Or.inl rfl) (@WG _ K _ _ _ _ rfl gb.dict (@za _ _ _ _ _ (@zX _ ["_law_name", "_law_places", "_law_cells_here"] [none, none, none] _ _ _ _ _ _ _ _ _ _ (by exact (show zN ["_law_table_here", "_law_lines_here", "_law_grading", "_law_known", "_law_found", "_law_line"] (zg qk) ["_law_name", "_law_places", "_law_cells_here"] [none, none, none] _ from ⟨rfl, by decide +kernel, by decide +kernel, by decide +kernel, by decide +kernel, rfl, by decide +kernel⟩)) rfl (@ji _ K _ _ _ (@zQ _ _ _ _ _ _ _ (@zq _ K (by rfl)) (@pv _ 0 _ _ (by rfl) (by walk_at "v") (by decide) (by decide)) (@zj _ _ _ _) (fun _ _ => rfl)) (by rfl)) (fun _ _ _ _ => (@jP _ K _ _ _ _ 3 rfl (@zK _ _ _ _ _ (@zp _ _ 0 _ nd0 rfl (Or.inl rfl) (by walk_at "f")) (@zK _ _ _ _ _ (@zp _ _ 1 _ nd0 rfl (Or.inl rfl) (by walk_at "f")) (@zK _ _ _ _ _ (@zp _ _ 2 _ nd0 rfl (Or.inl rfl) (by walk_at "f")) (@jM _) (by rfl)) (by rfl)) (by rfl)) (by rfl) (by rfl) (by rfl))) (fun _ _ _ _ => (@qi _)) (fun _ _ _ _ => (@qB _ _ _ _ _ (@za _ _ _ _ _ (@pv _ 0 _ _ (by rfl) (by walk_at "v") (by decide) (by decide)) (@za _ _ _ _ _ (@pv _ 2 _ _ (by rfl) (by walk_at "v") (by decide) (by decide)) (@ze _) (by rfl)) (by rfl)))) (by intro _; rfl)) (@ze _) (by rfl)) (by rfl) (by rfl) (by rfl)) (by rfl) (by walk_at "f")) (@zh _ _ _ _ _ (@zv _ _ 4 _ _ _ _ jo.nd rfl (Or.inr rfl) (@q5 _ _ _ _ (@ze _)) (by rfl) (by walk_at "f")) (@zh _ _ _ _ _ (@qU _ _ _ _ _ _ _ _ PassesOwn.never rfl (@zZ _ K _ _ _ (@pv _ 1 _ _ (by rfl) (by walk_at "v") (by decide) (by decide)) (by rfl)) (@zp _ _ 5 _ jo.nd rfl (Or.inl rfl) (by walk_at "f")) (@zm _ _ _ (@jk _ _ _ _ _ _ _ _ (@ZZ _ _ _ (@zA _ _ _ _ _ _ _ _ _ (@QN _ K (by rfl)) rfl gb.isinstance Zy (@za _ _ _ _ _ (@pv _ 5 _ _ (by rfl) (by walk_at "v") (by decide) (by decide)) (@za _ _ _ _ _ (@yC _ _ (.ty "str") _ _ rfl gb.str bt_str rfl (by decide) (by decide)) (@ze _) (by rfl)) (by rfl)) (by decide) (by decide) (by rfl) (by rfl)) (by intro _; rfl)) (@zm _ _ _ (@qy _ _ _ _ (@jD _ K _ _ _ _ _ _ _ _ _ _ _ PySem.F.plainAttrs_list PySem.F.slot_list_append PySem.F.type_list_append (@qE _) (@pv _ 4 _ _ (by rfl) (by walk_at "v") (by decide) (by decide)) (@za _ _ _ _ _ (@wP _ _ _ _ _ _ (@pv _ 2 _ _ (by rfl) (by walk_at "v") (by decide) (by decide)) (@pv _ 5 _ _ (by rfl) (by walk_at "v") (by decide) (by decide)) (fun _ _ => rfl)) (@ze _) (by rfl)) (by rfl) (by rfl) (by rfl) (by rfl) (by rfl) (by rfl)) (by rfl))) (@zm _ _ _ (@qy _ _ _ _ (@jD _ K _ _ _ _ _ _ _ _ _ _ _ PySem.F.plainAttrs_list PySem.F.slot_list_append PySem.F.type_list_append (@qE _) (@pv _ 4 _ _ (by rfl) (by walk_at "v") (by decide) (by decide)) (@za _ _ _ _ _ (@zr _ _ _ _ _ _ _ _ _ _ _ d_law_cell hr (by omega) rfl (@za _ _ _ _ _ (@zQ _ _ _ _ _ _ _ (@zq _ K (by rfl)) (@pv _ 0 _ _ (by rfl) (by walk_at "v") (by decide) (by decide)) (@zj _ _ _ _) (fun _ _ => rfl)) (@za _ _ _ _ _ (@wP _ _ _ _ _ _ (@pv _ 3 _ _ (by rfl) (by walk_at "v") (by decide) (by decide)) (@zQ _ _ _ _ _ _ _ (@zq _ K (by rfl)) (@pv _ 5 _ _ (by rfl) (by walk_at "v") (by decide) (by decide)) (@zj _ _ _ _) (fun _ _ => rfl)) (fun _ _ => rfl)) (@za _ _ _ _ _ (@zX _ ["_law_number", "_law_found"] [none, some 4] _ _ _ _ _ _ _ _ _ _ (by exact (show zN ["_law_table_here", "_law_lines_here", "_law_grading", "_law_known", "_law_found", "_law_line"] (zg qk) ["_law_number", "_law_found"] [none, some 4] _ from ⟨rfl, by decide +kernel, by decide +kernel, by decide +kernel, by decide +kernel, rfl, by decide +kernel⟩)) rfl (@ji _ K _ _ _ (@qO _ _ _ _ _ _ _ _ _ _ (@kslT _ K (by rfl)) (@pv _ 5 _ _ (by rfl) (by walk_at "v") (by decide) (by decide)) (@ja _ _ _ (@zj _ _ _ _)) (@jt _)) (by rfl)) (fun _ _ _ _ => (@zp _ _ 0 _ nd1 rfl (Or.inl rfl) (by walk_at "f"))) (fun _ _ _ _ => (@qi _)) (fun _ _ _ _ => (@zQ _ _ _ _ _ _ _ (@zq _ K (by rfl)) (@pv _ 1 _ _ (by rfl) (by walk_at "v") (by decide) (by decide)) (@pv _ 0 _ _ (by rfl) (by walk_at "v") (by decide) (by decide)) (fun _ _ => rfl))) (by intro _; rfl)) (@ze _) (by rfl)) (by rfl)) (by rfl)) (by decide) (by rfl) (by rfl)) (@ze _) (by rfl)) (by rfl) (by rfl) (by rfl) (by rfl) (by rfl) (by rfl)) (by rfl))))) (by intro _; rfl)) (@zm _ _ _ (@zP _ _ _ _ (@pv _ 4 _ _ (by rfl) (by walk_at "v") (by decide) (by decide))))))), ?_⟩
 obtain ⟨a, w0, c, vs, rfl, h1, h2, h3, h4⟩ := id ia
 have gcl := gT.cl
 have gx : ∀ i, ∃ t u : Addr, i < T.cs.length -> vs[i]? = some (.ref t) /\ H t = some (.tup [.str (T.cs.getD i d0).nm, nV (T.cs.getD i d0).pl, .ref u]) /\ H u = some (.tup ((T.cs.getD i d0).cs.map nV)) := fun i => by
  by_cases hi : i < T.cs.length
  ·have hc : T.cs[i]? = some (T.cs.getD i d0) := by simp [List.getD, hi]
   obtain ⟨t, u, h⟩ := h4.get hc
   exact ⟨t, u, fun _ => h⟩
  ·exact ⟨0, 0, fun h => absurd h hi⟩
 obtain ⟨ad, gx⟩ := Classical.axiomOfChoice gx
 obtain ⟨au, gx⟩ := Classical.axiomOfChoice gx
 have ge : ∀ i, i < T.cs.length -> T.cs[i]? = some (T.cs.getD i d0) := fun i hi => by simp [List.getD, hi]
 refine ⟨_, rfl, .inr (.inl ⟨a, _, 2, _, rfl, rfl, SqT.of h1, rfl, c, rfl, ⟨_, SqT.of h3⟩, fun D hD => ?_⟩)⟩
 refine Z9 (n := T.cs.length) (ad := ad) (v1 := fun i => .str (T.cs.getD i d0).nm) (v2 := fun i => nV (T.cs.getD i d0).pl) (v3 := fun i => .ref (au i)) (more := []) (fun i ys H' => zR H H' /\ ys.length = i /\ Prs H' ys (yn T au i)) ⟨zf hD _, rfl, .nil⟩ h4.len.symm (fun i hi => (gx i hi).1) (fun i ys H' h _ => SqT.of (h.1 _ _ h3)) (fun i ys H' hi h => SqT.of (h.1 _ _ (gx i hi).2.1)) ?_ ?_
 ·rintro i ys H1 hi ⟨s1, yl, hP⟩ hD1
  refine yes ⟨_, rfl, _, rfl, zy (by show 2 <= 1000; decide), fun t ht => ?_⟩
  have n1 := zf ht (.tup [.str (T.cs.getD i d0).nm, .ref (au i)])
  have hD2 := n1 _ _ hD1
  refine ZL hi ⟨_, _, _, rfl⟩ hD2 (zo (by omega)) ⟨(s1.trans n1).put hD, by rw [List.length_append, yl]; rfl, ?_⟩
  rw [kn_snoc]
  exact Prs.snoc (p := (Sum.inr (T.cs.getD i d0).nm, .ref (au i))) (Prs.tk (Tk.put hD2) (Prs.tk (Tk.of n1) hP)) (Tk.put hD2 _ _ zd)
 rintro ys H1 ⟨s1, yl, hP⟩ hD1
 refine ⟨D, ys, _, rfl, hD1, hP, fun kd hkd => ?_⟩
 have n2 := zf hkd (.dK (putAll [] (yn T au T.cs.length)))
 have S2 := s1.trans n2
 have hkd2 : (upd H1 kd (.dK (putAll [] (yn T au T.cs.length)))) kd = some (.dK (putAll [] (yn T au T.cs.length))) := zd
 have hkn : ∀ i, i < T.cs.length -> jb (putAll [] (yn T au T.cs.length)) (Sum.inr (T.cs.getD i d0).nm) = some (.ref (au i)) := fun i hi => Jf _ [] (Sum.inr (T.cs.getD i d0).nm, .ref (au i)) (kn_nd nT) (List.mem_map.mpr ⟨i, List.mem_range.mpr hi, rfl⟩)
 generalize putAll [] (yn T au T.cs.length) = kvs at *
 generalize upd H1 kd (.dK kvs) = HK at *
 refine ⟨zy (by show 0 <= 1000; decide), fun fd hfd => ?_⟩
 have n3 := zf hfd (.lst [])
 have hll := S2 _ _ hl
 have hLn : Lns HK ls us := Lns.tk (Tk.of S2) hls
 have hul := Paired.length hLn
 obtain ⟨gvs, hg1, hg2, hg3⟩ := ig.same S2
 refine ⟨_, rfl, ll, rfl, ⟨_, SqL.of (n3 _ _ hll)⟩, ?_⟩
 refine qN (xs := us) (fun i σ H' => (∃ x5, σ = [some (.ref a), some (.ref ll), some (.ref g), some (.ref kd), some (.ref fd), x5]) /\ zR HK H' /\ H' fd = some (.lst ((zM T γ (ls.take i)).map nV))) ⟨⟨_, rfl⟩, n3, zd⟩ (fun i σ H' _ h => SqL.of (h.2.1 _ _ hll)) ?_ ?_
 ·rintro i x σ H3 hx ⟨⟨x5, rfl⟩, s3, hf⟩
  have hi : i < us.length := (List.getElem?_eq_some_iff.mp hx).1
  have hl' : ls[i]? = some ls[i] := List.getElem?_eq_getElem (by omega)
  generalize ls[i] = l at hl'
  have hix := Paired.at hLn i _ _ hl' hx
  have gl := hgd i l hl'
  have gll := Zd T γ ls i (by omega)
  have fin : ∀ y, y = YJ T γ (zM T γ (ls.take i)) l -> (zM T γ (ls.take i)).map nV ++ [nV y] = (zM T γ (ls.take (i + 1))).map nV := fun y e => by rw [take_snoc hl', Zv, List.map_append, e]; rfl
  cases l with
  | inl y =>
   obtain rfl : x = .str y := hix
   refine ⟨_, rfl, _, _, _, true, rfl, .str _, Q4 "str", _, rfl, yv ?_⟩
   refine ⟨_, rfl, .inl ⟨rfl, _, SqL.of hf⟩, _, rfl, _, rfl, g, gvs, Sum.inr y, _, rfl, s3 _ _ hg1, rfl, hg3 y gl, ?_⟩
   refine ⟨fd, _, _, rfl, rfl, hf, by rw [List.length_map]; exact zo (by omega), ⟨⟨_, rfl⟩, s3.put hfd, ?_⟩⟩
   rw [zd, fin (γ y) rfl]
  | inr z =>
   obtain ⟨t, rfl, ht⟩ := hix
   obtain ⟨hz, cn, hcn, e1, e2⟩ := gl
   have ht3 := s3 _ _ ht
   refine ⟨_, rfl, _, _, _, false, rfl, .tup ht3, y8 (K := K) (.tup []), _, rfl, Wz ?_⟩
   obtain ⟨j, hj⟩ := List.mem_iff_getElem?.mp hcn
   have hjl := (List.getElem?_eq_some_iff.mp hj).1
   have ecn : T.cs.getD j d0 = cn := by
    have := ge j hjl
    rw [hj] at this
    exact (Option.some.inj this).symm
   have hv := hkn j hjl
   rw [ecn, e1] at hv
   have hau := (S2.trans s3) _ _ (gx j hjl).2.2
   rw [ecn] at hau
   obtain ⟨q1, q2, q3⟩ := gT.cn cn hcn
   refine ⟨_, rfl, .inl ⟨rfl, _, SqL.of hf⟩, ?_⟩
   refine ⟨_, rfl, .inr (.inl ⟨a, _, 0, _, rfl, rfl, SqT.of ((S2.trans s3) _ _ h1), rfl, ?_⟩)⟩
   refine ⟨_, rfl, _, rfl, .inr (.inl ⟨t, _, _, _, rfl, rfl, SqT.of ht3, at0, ?_⟩)⟩
   refine ⟨kd, kvs, Sum.inr z.1, _, rfl, s3 _ _ hkd2, rfl, hv, ?_⟩
   refine ⟨_, rfl, _, rfl, ?_⟩
   refine J5 ht3 fun t4 H4 s4 ht4 => ?_
   rw [Zb (by simp)] at ht4
   refine ⟨t4, rfl, ⟨_, SqT.of ht4⟩, fun D2 hD2 => ?_⟩
   have hf4 := s4 _ _ hf
   refine ZR (xs := z.2.map nV) (fun m ys H' => zR H4 H' /\ ys = ((z.2.take m).map (Tn.at' (zM T γ (ls.take i)))).map nV) ⟨zf hD2 _, rfl⟩ (fun m ys H' h _ => SqT.of (h.1 _ _ ht4)) ?_ ?_
   ·rintro m ys H5 x hx5 ⟨s5, rfl⟩ hD5
    have hm : m < (z.2.map nV).length := (List.getElem?_eq_some_iff.mp hx5).1
    rw [List.getElem?_map] at hx5
    obtain ⟨nn, hnn, rfl⟩ := Option.map_eq_some_iff.mp hx5
    have hni := hz nn (List.mem_of_getElem? hnn)
    refine yes ⟨_, rfl, _, rfl, .inl ⟨fd, _, _, _, rfl, rfl, SqL.of (s5 _ _ hf4), ym (by omega), ?_⟩⟩
    rw [List.length_map] at hm
    refine ZL (by rw [List.length_map]; exact hm) jy hD5 (by rw [List.length_map, List.length_map, List.length_take]; exact zo (by omega)) ⟨s5.put hD2, ?_⟩
    rw [take_snoc hnn, List.map_append, List.map_append]
    rfl
   rintro ys H5 ⟨s5, rfl⟩ hD5
   rw [List.length_map, List.take_length] at hD5
   have S5 := s3.trans (s4.trans s5)
   have hrw : Tn.Rw T.m cn.pl (z.2.map (Tn.at' (zM T γ (ls.take i)))) := ⟨by rw [List.length_map]; exact e2.symm, fun x hx => by
    obtain ⟨nn, hn', rfl⟩ := List.mem_map.mp hx
    have hni := hz nn hn'
    have hnl : ls[nn]? = some ls[nn] := List.getElem?_eq_getElem (by omega)
    have e5 := qu T γ ls hnl i hni (by omega)
    have e6 := qu T γ ls hnl ls.length (by omega) (Nat.le_refl _)
    rw [List.take_length] at e6
    rw [e5, <- e6]
    exact Ji gT nT hgd hb (nn + 1) nn (Nat.lt_succ_self _) (by omega)⟩
   refine ⟨T.m, cn.pl, au j, D2, cn.cs, z.2.map (Tn.at' (zM T γ (ls.take i))), rfl, gT.m9, q2, (s4.trans s5) _ _ hau, .inl hD5, hrw, q3.1, ?_⟩
   have hf5 := (s4.trans s5) _ _ hf
   refine ⟨fd, _, _, rfl, rfl, hf5, by rw [List.length_map]; exact zo (by omega), ⟨⟨_, rfl⟩, S5.put hfd, ?_⟩⟩
   rw [zd, fin _ ?_]
   show _ = cellOf T z.1 _
   unfold cellOf
   rw [<- e1, ZD nT hcn]
 ·rintro σ H3 ⟨⟨x5, rfl⟩, s3, hf⟩
  rw [<- hul, List.take_length] at hf
  exact ⟨_, rfl, q fd H3 (S2.trans s3) hf⟩
abbrev qr : Stmt := top 35
theorem jI : zH ["_law_well_here", "_law_many", "_law_size", "_law_letters", "_law_found", "_law_letter"] ["_law_well_here", "_law_many", "_law_size", "_law_letters"] (zg qr) := ⟨rfl, rfl, rfl, by decide +kernel, rfl, by decide +kernel, by decide +kernel⟩
theorem QG {P : Program} {w : World} {K : PySem.W.Frag} {mg : Str -> Option Value} {base : Heap} {f : Addr} {fd : FuncData} (F : Fun K "_law_columns" "_law_columns" qr f fd) (gb : Gb mg) {c : Nat -> Addr} (cl : Cl K mg c) (d_law_draw : Def P w K mg base 1 "_law_draw" ["_law_well_here", "_law_many"] jQ) : jY P w K mg base CX0 2 f fd ["_law_well_here", "_law_many", "_law_size", "_law_letters"] Jo := by
 refine F.ok jI (fun vs H Q E h => ?_) (fun cdv A outer s H vs Q E hr h => ?_)
 ·obtain ⟨p, m, len, la, LT, rfl, _⟩ := h
  rfl
 obtain ⟨p, m, len, la, LT, rfl, w, m1, m9, n1, n9, hla, lp, l1, l3, nL, q⟩ := h
 have nd0 : (["_law_k", "_law_well_here", "_law_many"] : List Str).Nodup := by decide +kernel
 refine ⟨_, (@zh _ _ _ _ _ (@zv _ _ 4 _ _ _ _ jI.nd rfl (Or.inl rfl) (@q5 _ _ _ _ (@ze _)) (by rfl) (by walk_at "f")) (@zh _ _ _ _ _ (@qU _ _ _ _ _ _ _ _ PassesOwn.never rfl (@zZ _ K _ _ _ (@pv _ 3 _ _ (by rfl) (by walk_at "v") (by decide) (by decide)) (by rfl)) (@zp _ _ 5 _ jI.nd rfl (Or.inl rfl) (by walk_at "f")) (@zm _ _ _ (@qy _ _ _ _ (@jD _ K _ _ _ _ _ _ _ _ _ _ _ PySem.F.plainAttrs_list PySem.F.slot_list_append PySem.F.type_list_append (@qE _) (@pv _ 4 _ _ (by rfl) (by walk_at "v") (by decide) (by decide)) (@za _ _ _ _ _ (@qB _ _ _ _ _ (@za _ _ _ _ _ (@pv _ 5 _ _ (by rfl) (by walk_at "v") (by decide) (by decide)) (@za _ _ _ _ _ (@zx _ _ _ _ _ _ _ _ _ (@zt _ K (by rfl)) rfl gb.tuple qm (@za _ _ _ _ _ (@zX _ ["_law_k", "_law_well_here", "_law_many"] [none, some 0, some 1] _ _ _ _ _ _ _ _ _ _ (by exact (show zN ["_law_well_here", "_law_many", "_law_size", "_law_letters", "_law_found", "_law_letter"] (zg qr) ["_law_k", "_law_well_here", "_law_many"] [none, some 0, some 1] _ from ⟨rfl, by decide +kernel, by decide +kernel, by decide +kernel, by decide +kernel, rfl, by decide +kernel⟩)) rfl (@zS _ _ _ _ _ _ rfl gb.range (@za _ _ _ _ _ (@pv _ 2 _ _ (by rfl) (by walk_at "v") (by decide) (by decide)) (@ze _) (by rfl)) (by rfl)) (fun _ _ _ _ => (@zp _ _ 0 _ nd0 rfl (Or.inl rfl) (by walk_at "f"))) (fun _ _ _ _ => (@qi _)) (fun _ _ _ _ => (@zr _ _ _ _ _ _ _ _ _ _ _ d_law_draw hr (by omega) rfl (@za _ _ _ _ _ (@pv _ 1 _ _ (by rfl) (by walk_at "v") (by decide) (by decide)) (@za _ _ _ _ _ (@pv _ 2 _ _ (by rfl) (by walk_at "v") (by decide) (by decide)) (@ze _) (by rfl)) (by rfl)) (by decide) (by rfl) (by rfl))) (by intro _; rfl)) (@ze _) (by rfl)) (by decide) (by decide) (by rfl) (by rfl)) (@ze _) (by rfl)) (by rfl))) (@ze _) (by rfl)) (by rfl) (by rfl) (by rfl) (by rfl) (by rfl) (by rfl)) (by rfl))) (by intro _; rfl)) (@zm _ _ _ (@zP _ _ _ _ (@zx _ _ _ _ _ _ _ _ _ (@zt _ K (by rfl)) rfl gb.tuple qm (@za _ _ _ _ _ (@pv _ 4 _ _ (by rfl) (by walk_at "v") (by decide) (by decide)) (@ze _) (by rfl)) (by decide) (by decide) (by rfl) (by rfl)))))), ?_⟩
 refine ⟨zy (by show 0 <= 1000; decide), fun fd hfd => ?_⟩
 have n1' := zf hfd (.lst [])
 have fp : fd ≠ p := Ne.symm (w.ne hfd)
 refine ⟨_, rfl, la, rfl, ⟨_, SqL.of (n1' _ _ hla)⟩, ?_⟩
 refine qN (xs := LT.map V.str) (fun i σ H' => (∃ x5, σ = [some (.ref p), some (nV m), some (nV len), some (.ref la), some (.ref fd), x5]) /\ Off p H H' /\ Wel H' p /\ ∃ (γ : Nat -> Str -> Nat) (cps : List (Key × V)) (cvs : List V), H' fd = some (.lst cvs) /\ Prs H' cvs cps /\ cps.length = i /\ (∀ k x, x ∈ LT.take i -> γ k x < m) /\ ∀ (j : Nat) (x : Str), (LT.take i)[j]? = some x -> ∃ t : Addr, cps[j]? = some ((Sum.inr x : Key), V.ref t) /\ H' t = some (.tup (((List.range len).map fun k => γ k x).map nV))) ⟨⟨_, rfl⟩, Off.of n1', w.same n1', (fun _ _ => 0), [], [], zd, .nil, rfl, (fun k x hx => by cases hx), (fun j x hx => by simp at hx)⟩ (fun i σ H' _ h => SqL.of (h.2.1 la _ lp hla)) ?_ ?_
 ·rintro i x σ H2 hx ⟨⟨x5, rfl⟩, o2, w2, γ, cps, cvs, hfd2, hpr, cl, gm, hg⟩
  rw [List.getElem?_map] at hx
  obtain ⟨y, hy, rfl⟩ := Option.map_eq_some_iff.mp hx
  have hi := (List.getElem?_eq_some_iff.mp hy).1
  have hcl := Paired.length hpr
  refine ⟨_, rfl, .inl ⟨rfl, _, SqL.of hfd2⟩, _, rfl, _, rfl, (len : Int), rfl, by omega, by omega, fun D hD => ?_⟩
  rw [Int.toNat_natCast]
  have pD := w2.ne hD
  refine qv (fun j ys H' => ∃ cs : List Nat, ys = cs.map nV /\ cs.length = j /\ (∀ c ∈ cs, c < m) /\ Off p H2 H' /\ Wel H' p) ⟨[], rfl, rfl, (fun c h => by cases h), Off.new hD, w2.off pD⟩ ?_ ?_
  ·rintro j ys H3 hj ⟨cs, rfl, cl3, cm, o3, w3⟩ hD3
   refine yes ⟨_, rfl, _, rfl, p, m, rfl, w3, by omega, by omega, fun v H4 v1 o4 w4 => ?_⟩
   have hD4 := o4 D _ (Ne.symm pD) hD3
   refine ZL hj jy hD4 (by rw [List.length_map]; exact zo (by omega)) ⟨cs ++ [v], by rw [List.map_append]; rfl, by rw [List.length_append, cl3]; rfl, fun c hc => ?_, (o3.trans o4).fresh hD, w4.off pD⟩
   rcases List.mem_append.mp hc with h | h
   ·exact cm c h
   ·rw [List.mem_singleton.mp h]
    exact v1
  rintro ys H3 ⟨cs, rfl, cl3, cm, o3, w3⟩ hD3
  refine ⟨D, _, rfl, .inl ⟨SqL.of hD3, fun t ht => ?_⟩⟩
  have n4 := zf ht (.tup (cs.map nV))
  refine ⟨zy (by show 2 <= 1000; decide), fun b hb => ?_⟩
  have n5 := zf hb (.tup [.str y, .ref t])
  have o5 : Off p H2 (upd (upd H3 t (.tup (cs.map nV))) b (.tup [.str y, .ref t])) := o3.trans (Off.of (n4.trans n5))
  have k5 := w2.tk o5
  have w5 := w3.same (n4.trans n5)
  have hfd5 := o5 fd _ fp hfd2
  have ht5 := n5 _ _ (@zd H3 t (.tup (cs.map nV)))
  have hb5 := @zd (upd H3 t (.tup (cs.map nV))) b (.tup [.str y, .ref t])
  generalize upd (upd H3 t (.tup (cs.map nV))) b (.tup [.str y, .ref t]) = H5 at *
  refine ⟨fd, cvs, _, rfl, rfl, hfd5, zo (by omega), ?_⟩
  have hyn : y ∉ LT.take i := fun hm => by
   obtain ⟨j, hj, e⟩ := List.mem_take_iff_getElem.mp hm
   obtain ⟨h1, h2⟩ := List.getElem?_eq_some_iff.mp hy
   exact (List.pairwise_iff_getElem.mp nL) j i (by omega) h1 (by omega) (by rw [e, h2])
  refine ⟨⟨_, rfl⟩, (o2.trans o5).fresh hfd, w5.off (Ne.symm fp), (fun k z => if z = y then Tn.at' cs k else γ k z), cps ++ [((Sum.inr y : Key), V.ref t)], cvs ++ [.ref b], zd, ?_, by rw [List.length_append, cl]; rfl, fun k x hx => ?_, fun j x hx => ?_⟩
  ·exact Prs.snoc (p := (Sum.inr y, .ref t)) (Prs.tk (Tk.put hfd5) (Prs.tk k5 hpr)) (Tk.put hfd5 _ _ hb5)
  ·show (if x = y then Tn.at' cs k else γ k x) < m
   by_cases e : x = y
   ·rw [if_pos e]
    exact at_lt0 m1 cm k
   ·rw [if_neg e]
    rw [take_snoc hy] at hx
    rcases List.mem_append.mp hx with h | h
    ·exact gm k x h
    ·exact absurd (List.mem_singleton.mp h) e
  ·rw [take_snoc hy] at hx
   by_cases hj : j < (LT.take i).length
   ·rw [List.getElem?_append_left hj] at hx
    obtain ⟨t', e1, e2⟩ := hg j x hx
    have ne : x ≠ y := fun e => hyn (e ▸ List.mem_of_getElem? hx)
    refine ⟨t', by rw [List.getElem?_append_left (by rw [List.length_take] at hj; omega)]; exact e1, ?_⟩
    rw [show ((List.range len).map fun k => if x = y then Tn.at' cs k else γ k x) = (List.range len).map fun k => γ k x from List.map_congr_left fun k _ => if_neg ne]
    exact Tk.put hfd5 _ _ (k5 _ _ e2)
   ·have hjl := (List.getElem?_eq_some_iff.mp hx).1
    rw [List.length_append, List.length_take] at hjl
    rw [List.length_take] at hj
    have hjl : j < min i LT.length + 1 := hjl
    have ej : j = i := by omega
    subst ej
    rw [List.getElem?_append_right (by rw [List.length_take]; omega), List.length_take, show j - min j LT.length = 0 by omega] at hx
    have exy : y = x := by simpa using hx
    subst exy
    refine ⟨t, by rw [List.getElem?_append_right (by omega), cl, Nat.sub_self]; rfl, ?_⟩
    rw [show ((List.range len).map fun k => if y = y then Tn.at' cs k else γ k y) = cs by
     rw [show ((List.range len).map fun k => if y = y then Tn.at' cs k else γ k y) = (List.range len).map fun k => Tn.at' cs k from List.map_congr_left fun k _ => if_pos rfl, <- cl3, rng_at]]
    exact Tk.put hfd5 _ _ ht5
 ·rintro σ H2 ⟨⟨x5, rfl⟩, o2, w2, γ, cps, cvs, hfd2, hpr, cl, gm, hg⟩
  rw [List.length_map] at cl
  rw [List.length_map, List.take_length] at gm hg
  refine ⟨_, rfl, fd, _, rfl, .inl ⟨SqL.of hfd2, fun ct hct => ?_⟩⟩
  have n3 := zf hct (.tup cvs)
  exact q ct γ cps cvs _ (o2.trans (Off.of n3)) (w2.same n3) gm ⟨zd, Prs.tk (Tk.of n3) hpr, cl, (fun i x h => by obtain ⟨t, e1, e2⟩ := hg i x h; exact ⟨t, e1, n3 _ _ e2⟩), nL, l1, l3⟩
abbrev jd : Stmt := top 36
theorem jG : zH ["_law_table_here", "_law_columns_here", "_law_wish", "_law_found"] ["_law_table_here", "_law_columns_here", "_law_wish"] (zg jd) := ⟨rfl, rfl, rfl, by decide +kernel, rfl, by decide +kernel, by decide +kernel⟩
theorem wo {P : Program} {w : World} {K : PySem.W.Frag} {mg : Str -> Option Value} {base : Heap} {f : Addr} {fd : FuncData} (F : Fun K "_law_asked" "_law_asked" jd f fd) (gb : Gb mg) {c : Nat -> Addr} (cl : Cl K mg c) (d_sayable : Def P w K mg base 5 "sayable" ["T", "columns", "wish"] Wl) : jY P w K mg base CX0 6 f fd ["_law_table_here", "_law_columns_here", "_law_wish"] Wl := by
 refine F.ok jG (fun vs H Q E h => ?_) (fun cdv A outer s H vs Q E hr h => ?_)
 ·obtain ⟨v, ct, wt, T, cps, cvs, wish, rfl, _⟩ := h
  rfl
 obtain ⟨v, ct, wt, T, cps, cvs, wish, rfl, ia, gT, nT, hct, hpc, hgc, hwt, w1, w9, p16, q1, q0⟩ := h
 refine ⟨_, (@zh _ _ _ _ _ (@zv _ _ 3 _ _ _ _ jG.nd rfl (Or.inl rfl) (@pe_non _ _ _) (by rfl) (by walk_at "f")) (@zh _ _ _ _ _ (@ps_try _ _ _ _ _ _ _ _ _ _ _ rfl rfl rfl cl.g_TooMany (@psx_set _ 3 _ _ _ _ _ jG.nd rfl (Or.inl rfl) (@pex_nox _ _ _ (@zr _ _ _ _ _ _ _ _ _ _ _ d_sayable hr (by omega) rfl (@za _ _ _ _ _ (@pv _ 0 _ _ (by rfl) (by walk_at "v") (by decide) (by decide)) (@za _ _ _ _ _ (@pv _ 1 _ _ (by rfl) (by walk_at "v") (by decide) (by decide)) (@za _ _ _ _ _ (@pv _ 2 _ _ (by rfl) (by walk_at "v") (by decide) (by decide)) (@ze _) (by rfl)) (by rfl)) (by rfl)) (by decide) (by rfl) (by rfl))) (by rfl) (by walk_at "f")) (fun _ => (@zm _ _ _ (@zv _ _ 3 _ _ _ _ jG.nd rfl (Or.inl rfl) (@qB _ _ _ _ _ (@za _ _ _ _ _ (@qz _ _ _ _) (@za _ _ _ _ _ (@qB _ _ _ _ _ (@ze _)) (@ze _) (by rfl)) (by rfl))) (by rfl) (by walk_at "f")))) (by decide)) (@zm _ _ _ (@zP _ _ _ _ (@pv _ 3 _ _ (by rfl) (by walk_at "v") (by decide) (by decide)))))), ?_⟩
 refine ⟨_, rfl, _, rfl, _, rfl, v, ct, wt, T, cps, cvs, wish, rfl, ia, gT, nT, hct, hpc, hgc, hwt, w1, w9, p16, fun hs t lt us L H' s' ht hlt hls hG l1 l2 htd => ?_, fun hs t ut bs ks H' s' ht hut hP asc hks hk => ?_⟩
 ·exact ⟨_, rfl, q1 hs t lt us L H' s' ht hlt hls hG l1 l2 htd⟩
 ·exact ⟨_, rfl, q0 hs t ut bs ks H' s' ht hut hP asc hks hk⟩
abbrev ql : Stmt := top 37
theorem qL : zH ["_law_well_here", "_law_table_here", "_law_columns_here", "_law_size", "_law_kept", "_law_turn", "_law_wish", "_law_found", "_law_more", "_law_fewer"] ["_law_well_here", "_law_table_here", "_law_columns_here", "_law_size", "_law_kept"] (zg ql) := ⟨rfl, rfl, rfl, by decide +kernel, rfl, by decide +kernel, by decide +kernel⟩
theorem Jy {P : Program} {w : World} {K : PySem.W.Frag} {mg : Str -> Option Value} {base : Heap} {f : Addr} {fd : FuncData} (F : Fun K "_law_unsaid" "_law_unsaid" ql f fd) (gb : Gb mg) {c : Nat -> Addr} (cl : Cl K mg c) (d_law_draw : Def P w K mg base 1 "_law_draw" ["_law_well_here", "_law_many"] jQ) (d_law_asked : Def P w K mg base 6 "_law_asked" ["_law_table_here", "_law_columns_here", "_law_wish"] Wl) : jY P w K mg base CX0 7 f fd ["_law_well_here", "_law_table_here", "_law_columns_here", "_law_size", "_law_kept"] Jt := by
 refine F.ok qL (fun vs H Q E h => ?_) (fun cdv A outer s H vs Q E hr h => ?_)
 ·obtain ⟨p, v, T, ct, cps, cvs, len, kt, kept, rfl, _⟩ := h
  rfl
 obtain ⟨p, v, T, ct, cps, cvs, len, kt, kept, rfl, w, ia, gT, nT, m3, hct, hpc, cp3, hgc, l1, l3, hkt, hsk, gk, q⟩ := h
 have nd0 : (["_law_k", "_law_well_here", "_law_table_here"] : List Str).Nodup := by decide +kernel
 have nd1 : (["_law_column", "_law_found"] : List Str).Nodup := by decide +kernel
 refine ⟨_, (@zh _ _ _ _ _ (@qU _ _ _ _ _ _ _ _ PassesOwn.never rfl (@zS _ _ _ _ _ _ rfl gb.range (@za _ _ _ _ _ (@zj _ _ _ _) (@ze _) (by rfl)) (by rfl)) (@zp _ _ 5 _ qL.nd rfl (Or.inl rfl) (by walk_at "f")) (@zh _ _ _ _ _ (@zv _ _ 6 _ _ _ _ qL.nd rfl (Or.inl rfl) (@zx _ _ _ _ _ _ _ _ _ (@zt _ K (by rfl)) rfl gb.tuple qm (@za _ _ _ _ _ (@zX _ ["_law_k", "_law_well_here", "_law_table_here"] [none, some 0, some 1] _ _ _ _ _ _ _ _ _ _ (by exact (show zN ["_law_well_here", "_law_table_here", "_law_columns_here", "_law_size", "_law_kept", "_law_turn", "_law_wish", "_law_found", "_law_more", "_law_fewer"] (zg ql) ["_law_k", "_law_well_here", "_law_table_here"] [none, some 0, some 1] _ from ⟨rfl, by decide +kernel, by decide +kernel, by decide +kernel, by decide +kernel, rfl, by decide +kernel⟩)) rfl (@zS _ _ _ _ _ _ rfl gb.range (@za _ _ _ _ _ (@pv _ 3 _ _ (by rfl) (by walk_at "v") (by decide) (by decide)) (@ze _) (by rfl)) (by rfl)) (fun _ _ _ _ => (@zp _ _ 0 _ nd0 rfl (Or.inl rfl) (by walk_at "f"))) (fun _ _ _ _ => (@qi _)) (fun _ _ _ _ => (@zr _ _ _ _ _ _ _ _ _ _ _ d_law_draw hr (by omega) rfl (@za _ _ _ _ _ (@pv _ 1 _ _ (by rfl) (by walk_at "v") (by decide) (by decide)) (@za _ _ _ _ _ (@zQ _ _ _ _ _ _ _ (@zq _ K (by rfl)) (@pv _ 2 _ _ (by rfl) (by walk_at "v") (by decide) (by decide)) (@zj _ _ _ _) (fun _ _ => rfl)) (@ze _) (by rfl)) (by rfl)) (by decide) (by rfl) (by rfl))) (by intro _; rfl)) (@ze _) (by rfl)) (by decide) (by decide) (by rfl) (by rfl)) (by rfl) (by walk_at "f")) (@zh _ _ _ _ _ (@zv _ _ 7 _ _ _ _ qL.nd rfl (Or.inr rfl) (@zr _ _ _ _ _ _ _ _ _ _ _ d_law_asked hr (by omega) rfl (@za _ _ _ _ _ (@pv _ 1 _ _ (by rfl) (by walk_at "v") (by decide) (by decide)) (@za _ _ _ _ _ (@pv _ 2 _ _ (by rfl) (by walk_at "v") (by decide) (by decide)) (@za _ _ _ _ _ (@pv _ 6 _ _ (by rfl) (by walk_at "v") (by decide) (by decide)) (@ze _) (by rfl)) (by rfl)) (by rfl)) (by decide) (by rfl) (by rfl)) (by rfl) (by walk_at "f")) (@zm _ _ _ (@jk _ _ _ _ _ _ _ _ (@zL _ _ _ _ _ _ _ _ (@Zg _) (@zQ _ _ _ _ _ _ _ (@zq _ K (by rfl)) (@pv _ 7 _ _ (by rfl) (by walk_at "v") (by decide) (by decide)) (@zj _ _ _ _) (fun _ _ => rfl)) (@qz _ _ _ _) (@qh _ _ (by decide) (by decide))) (@zh _ _ _ _ _ (@zv _ _ 8 _ _ _ _ qL.nd rfl (Or.inl rfl) (@zO _ _ _ _ _ _ _ _ (@wL _ K (by rfl)) (@pv _ 2 _ _ (by rfl) (by walk_at "v") (by decide) (by decide)) (@qB _ _ _ _ _ (@za _ _ _ _ _ (@qB _ _ _ _ _ (@za _ _ _ _ _ (@qz _ _ _ _) (@za _ _ _ _ _ (@pv _ 4 _ _ (by rfl) (by walk_at "v") (by decide) (by decide)) (@ze _) (by rfl)) (by rfl))) (@ze _) (by rfl)))) (by rfl) (by walk_at "f")) (@zh _ _ _ _ _ (@jk _ _ _ _ _ _ _ _ (@PW.pt _ _ _ (@yE _ _ _ _ _ _ _ (@zL _ _ _ _ _ _ _ _ (@op_neD _ 3 _ hr (by decide)) (@zr _ _ _ _ _ _ _ _ _ _ _ d_law_asked hr (by omega) rfl (@za _ _ _ _ _ (@pv _ 1 _ _ (by rfl) (by walk_at "v") (by decide) (by decide)) (@za _ _ _ _ _ (@pv _ 8 _ _ (by rfl) (by walk_at "v") (by decide) (by decide)) (@za _ _ _ _ _ (@pv _ 6 _ _ (by rfl) (by walk_at "v") (by decide) (by decide)) (@ze _) (by rfl)) (by rfl)) (by rfl)) (by decide) (by rfl) (by rfl)) (@pv _ 7 _ _ (by rfl) (by walk_at "v") (by decide) (by decide)) (@qh _ _ (by decide) (by decide))) (@yE _ _ _ _ _ _ _ (@zL _ _ _ _ _ _ _ _ (@yk _ K _ hr (by rfl)) (@pv _ 4 _ _ (by rfl) (by walk_at "v") (by decide) (by decide)) (@zQ _ _ _ _ _ _ _ (@zq _ K (by rfl)) (@pv _ 7 _ _ (by rfl) (by walk_at "v") (by decide) (by decide)) (@zj _ _ _ _) (fun _ _ => rfl)) (by with_unfolding_all rfl)) (@Wr _ _ _ _ (@zL _ _ _ _ _ _ _ _ (@YE _ K _ hr (by rfl)) (@pv _ 6 _ _ (by rfl) (by walk_at "v") (by decide) (by decide)) (@zQ _ _ _ _ _ _ _ (@zq _ K (by rfl)) (@pv _ 7 _ _ (by rfl) (by walk_at "v") (by decide) (by decide)) (@zj _ _ _ _) (fun _ _ => rfl)) (by with_unfolding_all rfl)))))) (@zm _ _ _ (@zP _ _ _ _ (@wz _ _ _ _))) (@zW _)) (@zh _ _ _ _ _ (@zv _ _ 9 _ _ _ _ qL.nd rfl (Or.inl rfl) (@zr _ _ _ _ _ _ _ _ _ _ _ d_law_asked hr (by omega) rfl (@za _ _ _ _ _ (@qB _ _ _ _ _ (@za _ _ _ _ _ (@zQ _ _ _ _ _ _ _ (@zq _ K (by rfl)) (@pv _ 1 _ _ (by rfl) (by walk_at "v") (by decide) (by decide)) (@zj _ _ _ _) (fun _ _ => rfl)) (@za _ _ _ _ _ (@zQ _ _ _ _ _ _ _ (@zq _ K (by rfl)) (@pv _ 1 _ _ (by rfl) (by walk_at "v") (by decide) (by decide)) (@zj _ _ _ _) (fun _ _ => rfl)) (@za _ _ _ _ _ (@qO _ _ _ _ _ _ _ _ _ _ (@kslT _ K (by rfl)) (@zQ _ _ _ _ _ _ _ (@zq _ K (by rfl)) (@pv _ 1 _ _ (by rfl) (by walk_at "v") (by decide) (by decide)) (@zj _ _ _ _) (fun _ _ => rfl)) (@ja _ _ _ (@zj _ _ _ _)) (@jt _)) (@ze _) (by rfl)) (by rfl)) (by rfl))) (@za _ _ _ _ _ (@pv _ 2 _ _ (by rfl) (by walk_at "v") (by decide) (by decide)) (@za _ _ _ _ _ (@pv _ 6 _ _ (by rfl) (by walk_at "v") (by decide) (by decide)) (@ze _) (by rfl)) (by rfl)) (by rfl)) (by decide) (by rfl) (by rfl)) (by rfl) (by walk_at "f")) (@zm _ _ _ (@jk _ _ _ _ _ _ _ _ (@PW.pt _ _ _ (@yE _ _ _ _ _ _ _ (@zL _ _ _ _ _ _ _ _ (@op_ne _) (@zQ _ _ _ _ _ _ _ (@zq _ K (by rfl)) (@pv _ 9 _ _ (by rfl) (by walk_at "v") (by decide) (by decide)) (@zj _ _ _ _) (fun _ _ => rfl)) (@qz _ _ _ _) (@qh _ _ (by decide) (by decide))) (@Wr _ _ _ _ (@yF _ _ _ _ (@ZZ _ _ _ (@zA _ _ _ _ _ _ _ _ _ (@Z7 _ K rfl (by rfl)) rfl gb.all yZ (@za _ _ _ _ _ (@zX _ ["_law_column", "_law_found"] [none, some 7] _ _ _ _ _ _ _ _ _ _ (by exact (show zN ["_law_well_here", "_law_table_here", "_law_columns_here", "_law_size", "_law_kept", "_law_turn", "_law_wish", "_law_found", "_law_more", "_law_fewer"] (zg ql) ["_law_column", "_law_found"] [none, some 7] _ from ⟨rfl, by decide +kernel, by decide +kernel, by decide +kernel, by decide +kernel, rfl, by decide +kernel⟩)) rfl (@ji _ K _ _ _ (@zQ _ _ _ _ _ _ _ (@zq _ K (by rfl)) (@pv _ 9 _ _ (by rfl) (by walk_at "v") (by decide) (by decide)) (@zj _ _ _ _) (fun _ _ => rfl)) (by rfl)) (fun _ _ _ _ => (@zp _ _ 0 _ nd1 rfl (Or.inl rfl) (by walk_at "f"))) (fun _ _ _ _ => (@qi _)) (fun _ _ _ _ => (@Z1 _ _ _ _ _ _ _ _ (@YE _ K _ hr (by rfl)) (@pv _ 0 _ _ (by rfl) (by walk_at "v") (by decide) (by decide)) (@zQ _ _ _ _ _ _ _ (@zq _ K (by rfl)) (@pv _ 1 _ _ (by rfl) (by walk_at "v") (by decide) (by decide)) (@zj _ _ _ _) (fun _ _ => rfl)) (by with_unfolding_all rfl))) (by intro _; rfl)) (@ze _) (by rfl)) (by decide) (by decide) (by rfl) (by rfl)) (by intro _; rfl)))))) (@zm _ _ _ (@zP _ _ _ _ (@wz _ _ _ _))) (@zW _)))))) (@zW _))))) (by intro _; rfl)) (@zm _ _ _ (@zP _ _ _ _ (@wz _ _ _ _)))), ?_⟩
 obtain ⟨a, w0, c0, vs0, rfl, h1, h2, h3, h4⟩ := id ia
 have m1 := gT.m1
 refine ⟨(1 : Int), rfl, by decide, by decide, ?_⟩
 refine Zw (fun i σ H' => (∃ x5 x6 x7 x8 x9, σ = [some (.ref p), some (.ref a), some (.ref ct), some (nV len), some (.ref kt), x5, x6, x7, x8, x9]) /\ Off p H H' /\ Wel H' p) ⟨⟨_, _, _, _, _, rfl⟩, Off.refl, w⟩ ?_ ?_
 ·rintro i σ H1 hi ⟨⟨x5, x6, x7, x8, x9, rfl⟩, o1, w1⟩
  have k1 := w.tk o1
  refine ⟨_, rfl, (len : Int), rfl, by omega, by omega, fun D3 hD3 => ?_⟩
  rw [Int.toNat_natCast]
  have pD3 := w1.ne hD3
  refine qv (fun j zs H' => ∃ col : List Nat, zs = col.map nV /\ col.length = j /\ (∀ x ∈ col, x < T.m) /\ Off p H1 H' /\ Wel H' p) ⟨[], rfl, rfl, (fun x h => by cases h), Off.new hD3, w1.off pD3⟩ ?_ ?_
  ·rintro j zs HB hj ⟨col, rfl, cj, hcm, oB, wB⟩ hDB
   refine yes ⟨_, rfl, _, rfl, .inr (.inl ⟨a, _, 0, _, rfl, rfl, SqT.of ((k1.trans (w1.tk oB)) _ _ h1), rfl, p, T.m, rfl, wB, by omega, by omega, fun v3 HC v31 oC wC => ?_⟩)⟩
   have hDC := oC D3 _ (Ne.symm pD3) hDB
   refine ZL hj jy hDC (by rw [List.length_map]; exact zo (by omega)) ⟨col ++ [v3], by rw [List.map_append]; rfl, by rw [List.length_append, cj]; rfl, fun x hx => ?_, (oB.trans oC).fresh hD3, wC.off pD3⟩
   rcases List.mem_append.mp hx with h | h
   ·exact hcm x h
   ·rw [List.mem_singleton.mp h]
    exact v31
  rintro zs HB ⟨wish, rfl, cj, hcm, oB, wB⟩ hDB
  refine ⟨D3, _, rfl, .inl ⟨SqL.of hDB, fun wt hwt => ?_⟩⟩
  have nC := zf hwt (.tup (wish.map nV))
  have kC := (k1.trans (w1.tk oB)).trans (Tk.of nC)
  have oC : Off p H (upd HB wt (.tup (wish.map nV))) := o1.trans (oB.trans (Off.of nC))
  have wC := wB.same nC
  have hwtC : (upd HB wt (.tup (wish.map nV))) wt = some (.tup (wish.map nV)) := zd
  generalize upd HB wt (.tup (wish.map nV)) = HC at *
  have mp : T.m ^ len <= 27 := Nat.le_trans (Nat.pow_le_pow_left m3 len) (Nat.le_trans (Nat.pow_le_pow_right (by decide) l3) (by decide))
  refine ⟨_, rfl, _, rfl, _, rfl, .ref a, ct, wt, T, cps, cvs, wish, rfl, ia.tk kC, gT, nT, kC _ _ hct, hpc.tk kC, by rw [cj]; exact hgc, hwtC, by omega, by omega, by rw [cj]; exact mp, fun hs t lt us L HD sD ht hlt hls hG l1' l2 htd => ?_, fun hs t ut bs ks HD sD ht hut hP asc hks hk => ?_⟩
  ·refine ⟨_, rfl, .inr (.inl ⟨t, _, 0, _, rfl, rfl, SqT.of ht, rfl, rfl, _, rfl, iteN (by simp; decide +kernel) ?_⟩)⟩
   exact ⟨⟨_, _, _, _, _, rfl⟩, oC.trans (Off.of sD), wC.same sD⟩
  refine ⟨_, rfl, .inr (.inl ⟨t, _, 0, _, rfl, rfl, SqT.of ht, rfl, rfl, _, rfl, iteP (by simp) ?_⟩)⟩
  have cvl := Paired.length hpc
  have kD := kC.trans (Tk.of sD)
  refine ⟨_, rfl, _, rfl, zy (by show 2 <= 1000; decide), fun z1 hz1 => ⟨zy (by show 1 <= 1000; decide), fun z2 hz2 => ?_⟩⟩
  have m1' := zf hz1 (.tup [.str "z", .ref kt])
  have m2' := zf hz2 (.tup [.ref z1])
  refine Wd ((m1'.trans m2') _ _ (kD _ _ hct)) zd (by show cvs.length + 1 <= 1000; omega) fun tm HE sE htm => ?_
  have S1 := m1'.trans (m2'.trans sE)
  have kE := kD.trans (Tk.of S1)
  have lz : Ltr (Str.ofString "z") := YV (c := 122) (by decide +kernel) (by decide) (by decide)
  have hBl : ∀ b ∈ cps.map Prod.snd, b.length = wish.length := fun b hb => by
   obtain ⟨q, hq, rfl⟩ := List.mem_map.mp hb
   rw [cj]
   exact (hgc q hq).2.1
  have hsk' : Sd T wish.length (cps.map Prod.snd) kept := by rw [cj]; exact hsk
  have eB : (cps ++ [((Str.ofString "z"), kept)]).map Prod.snd = cps.map Prod.snd ++ [kept] := by rw [List.map_append]; rfl
  have hwtE := S1 _ _ (sD _ _ hwtC)
  refine ⟨_, rfl, _, rfl, _, rfl, .ref a, tm, wt, T, cps ++ [(Str.ofString "z", kept)], cvs ++ [.ref z1], wish, rfl, ia.tk kE, gT, nT, htm, PCs.snoc (hpc.tk kE) ((m2'.trans sE) _ _ zd) (kE _ _ hkt), fun q hq => ?_, hwtE, by omega, by omega, by rw [cj]; exact mp, fun hs2 => ?_, fun hs2 t2 ut2 bs2 ks2 HF sF ht2 hut2 hP2 asc2 hks2 hk2 => ?_⟩
  ·rw [cj]
   rcases List.mem_append.mp hq with h | h
   ·exact hgc q h
   ·rw [List.mem_singleton.mp h]
    exact ⟨lz, gk⟩
  ·rw [eB, Y3 hsk'] at hs2
   exact absurd hs2 hs
  have ek : ks2 = ks := yp asc2 asc fun x => by rw [hks2, hks, eB, Y3 hsk']
  subst ek
  have SF := S1.trans sF
  have htF := SF _ _ ht
  have hutF := SF _ _ hut
  have hPF : Paired (yw HF) ks2 bs := ColVs.tk (Tk.of SF) hP
  refine ⟨_, rfl, t2, t, _, _, rfl, rfl, ht2, htF, .cons (.inl ⟨rfl, rfl⟩) (.cons (.inr ⟨ut2, ut, _, _, rfl, rfl, hut2, hutF, yq hP2 hPF⟩) .nil), _, rfl, Wz ?_⟩
  have kF := kE.trans (Tk.of sF)
  have kl : ∀ k ∈ ks2, k.length = wish.length := fun k hk => sd_len hBl ((hks k).mp hk)
  have hkF := kF _ _ hkt
  refine ⟨_, rfl, _, rfl, .inr (.inl ⟨t, _, 1, _, rfl, rfl, SqT.of htF, rfl, kt, ut, _, _, ks2.map (fun k => k.map nV), rfl, rfl, SqT.of hkF, jv _, SqT.of hutF, by rw [List.length_map, gk.1, <- cj]; exact Qp hPF kl, _, rfl, ?_⟩)⟩
  rw [Js, decide_eq_true ((hks kept).mpr hsk')]
  refine Wz ?_
  refine ⟨_, rfl, _, rfl, .inr (.inl ⟨t, _, 1, _, rfl, rfl, SqT.of htF, rfl, wt, ut, _, _, ks2.map (fun k => k.map nV), rfl, rfl, SqT.of (sF _ _ hwtE), jv _, SqT.of hutF, by rw [List.length_map]; exact Qp hPF kl, _, rfl, ?_⟩)⟩
  rw [Js, decide_eq_false (fun h => hs ((hks wish).mp h))]
  refine Wz ?_
  refine ⟨_, rfl, .inr (.inl ⟨a, _, 0, _, rfl, rfl, SqT.of (kF _ _ h1), rfl, ?_⟩)⟩
  refine ⟨_, rfl, .inr (.inl ⟨a, _, 1, _, rfl, rfl, SqT.of (kF _ _ h1), rfl, ?_⟩)⟩
  refine ⟨_, rfl, .inr (.inl ⟨a, _, 2, _, rfl, rfl, SqT.of (kF _ _ h1), rfl, _, rfl, J5 (kF _ _ h3) fun ts HG sG hts => ?_⟩)⟩
  rw [cut1] at hts
  refine ⟨zy (by show 3 <= 1000; decide), fun tn htn => ?_⟩
  have n7 := zf htn (.tup [nV T.m, .ref w0, .ref ts])
  have SG := sG.trans n7
  have kG := kF.trans (Tk.of SG)
  refine ⟨_, rfl, _, rfl, .ref tn, ct, wt, yr T, cps, cvs, wish, rfl, ⟨tn, w0, ts, vs0.drop 1, rfl, zd, kG _ _ h2, n7 _ _ hts, Qq 1 (h4.tk kG)⟩, Y4 gT, Y5 nT, kG _ _ hct, hpc.tk kG, by rw [cj]; exact hgc, (sF.trans SG) _ _ hwtE, by omega, by omega, by rw [cj]; exact mp, fun hs3 => absurd (Y6 nT hs3) hs, fun hs3 t3 ut3 bs3 ks3 HH sH ht3 hut3 hP3 asc3 hks3 hk3 => ?_⟩
  have SH := SG.trans sH
  have htH := SH _ _ htF
  have hutH := SH _ _ hutF
  have hPH : Paired (yw HH) ks2 bs := ColVs.tk (Tk.of SH) hPF
  refine ⟨_, rfl, .inr (.inl ⟨t3, _, 0, _, rfl, rfl, SqT.of ht3, rfl, rfl, _, rfl, iteN (by simp) ?_⟩)⟩
  refine ⟨_, rfl, .inr (.inl ⟨t3, _, 1, _, rfl, rfl, SqT.of ht3, rfl, ut3, rfl, ⟨_, SqT.of hut3⟩, fun D4 hD4 => ?_⟩)⟩
  have bl3 := Paired.length hP3
  refine ZR (xs := bs3) (fun i ys H' => zR HH H' /\ ys = (List.replicate i true).map V.bl) ⟨zf hD4 _, rfl⟩ (fun i ys H' h _ => SqT.of (h.1 _ _ hut3)) ?_ ?_
  ·rintro j ys HI y hy ⟨sI, rfl⟩ hDI
   have hj := (List.getElem?_eq_some_iff.mp hy).1
   have hkj : ks3[j]? = some (ks3[j]'(by omega)) := List.getElem?_eq_getElem _
   generalize ks3[j]'(by omega) = col at hkj
   obtain ⟨tc, rfl, htc⟩ := Paired.at hP3 j _ _ hkj hy
   have cin := Y6 nT ((hks3 col).mp (List.mem_of_getElem? hkj))
   refine yes ⟨_, rfl, _, rfl, .inr (.inl ⟨t, _, 1, _, rfl, rfl, SqT.of (sI _ _ htH), rfl, tc, ut, _, _, ks2.map (fun k => k.map nV), rfl, rfl, SqT.of (sI _ _ htc), jv _, SqT.of (sI _ _ hutH), by rw [List.length_map, sd_len hBl cin]; exact Qp (ColVs.tk (Tk.of sI) hPH) kl, ?_⟩)⟩
   rw [Js, decide_eq_true ((hks col).mpr cin)]
   refine ZL hj jy hDI (by rw [List.length_map, List.length_replicate]; exact zo (by omega)) ⟨sI.put hD4, ?_⟩
   rw [List.replicate_succ', List.map_append]
   rfl
  rintro ys HI ⟨sI, rfl⟩ hDI
  refine ⟨D4, _, rfl, SqL.of hDI, _, rfl, ?_⟩
  rw [show (List.replicate bs3.length true).all id = true by simp]
  refine Wz ?_
  exact ⟨⟨_, _, _, _, _, rfl⟩, oC.trans (Off.of (sD.trans (SF.trans (SH.trans sI)))), wC.same (sD.trans (SF.trans (SH.trans sI)))⟩
 ·rintro σ H1 ⟨⟨x5, x6, x7, x8, x9, rfl⟩, o1, w1⟩
  exact q H1 o1
abbrev qt : Stmt := top 38
theorem zI : zH ["_law_well_here", "_law_table_here", "_law_size", "_law_letters", "_law_columns_here", "_law_lines_here", "_law_dues", "_law_k", "_law_kinds", "_law_number", "_law_wish", "_law_found", "_law_last"] ["_law_well_here"] (zg qt) := ⟨rfl, rfl, rfl, by decide +kernel, rfl, by decide +kernel, by decide +kernel⟩
theorem wq {P : Program} {w : World} {K : PySem.W.Frag} {mg : Str -> Option Value} {base : Heap} {f : Addr} {fd : FuncData} (F : Fun K "_law_right" "_law_right" qt f fd) (gb : Gb mg) {c : Nat -> Addr} (cl : Cl K mg c) (d_law_table : Def P w K mg base 3 "_law_table" ["_law_well_here", "_law_most", "_law_some"] Wb) (d_law_draw : Def P w K mg base 1 "_law_draw" ["_law_well_here", "_law_many"] jQ) (d_law_columns : Def P w K mg base 2 "_law_columns" ["_law_well_here", "_law_many", "_law_size", "_law_letters"] Jo) (d_law_lines : Def P w K mg base 2 "_law_lines" ["_law_well_here", "_law_table_here", "_law_letters", "_law_more"] Wf) (d_law_grades : Def P w K mg base 2 "_law_grades" ["_law_table_here", "_law_lines_here", "_law_grading"] Jj) (d_law_asked : Def P w K mg base 6 "_law_asked" ["_law_table_here", "_law_columns_here", "_law_wish"] Wl) (d_column_of : Def P w K mg base 5 "column_of" ["T", "columns", "lines"] Wj) (d_law_unsaid : Def P w K mg base 7 "_law_unsaid" ["_law_well_here", "_law_table_here", "_law_columns_here", "_law_size", "_law_kept"] Jt) : jY P w K mg base CX0 8 f fd ["_law_well_here"] Qr := by
 refine F.ok zI (fun vs H Q E h => ?_) (fun cdv A outer s H vs Q E hr h => ?_)
 ·obtain ⟨p, rfl, _⟩ := h
  rfl
 obtain ⟨p, rfl, w, q⟩ := h
 have nd0 : (["_law_letter", "_law_column", "_law_k"] : List Str).Nodup := by decide +kernel
 have nd1 : (["_law_grades_here", "_law_number"] : List Str).Nodup := by decide +kernel
 have nd2 : (["_law_grades_here"] : List Str).Nodup := by decide +kernel
 refine ⟨_, (@zh _ _ _ _ _ (@zv _ _ 1 _ _ _ _ zI.nd rfl (Or.inl rfl) (@zr _ _ _ _ _ _ _ _ _ _ _ d_law_table hr (by omega) rfl (@za _ _ _ _ _ (@pv _ 0 _ _ (by rfl) (by walk_at "v") (by decide) (by decide)) (@za _ _ _ _ _ (@zj _ _ _ _) (@za _ _ _ _ _ (@zj _ _ _ _) (@ze _) (by rfl)) (by rfl)) (by rfl)) (by decide) (by rfl) (by rfl)) (by rfl) (by walk_at "f")) (@zh _ _ _ _ _ (@zv _ _ 2 _ _ _ _ zI.nd rfl (Or.inl rfl) (@zO _ _ _ _ _ _ _ _ (@qV _) (@zj _ _ _ _) (@zr _ _ _ _ _ _ _ _ _ _ _ d_law_draw hr (by omega) rfl (@za _ _ _ _ _ (@pv _ 0 _ _ (by rfl) (by walk_at "v") (by decide) (by decide)) (@za _ _ _ _ _ (@zj _ _ _ _) (@ze _) (by rfl)) (by rfl)) (by decide) (by rfl) (by rfl))) (by rfl) (by walk_at "f")) (@zh _ _ _ _ _ (@zv _ _ 3 _ _ _ _ zI.nd rfl (Or.inl rfl) (@qO _ _ _ _ _ _ _ _ _ _ (@Zq _ K (by rfl)) (@q5 _ _ _ _ (@za _ _ _ _ _ (@qz _ _ _ _) (@za _ _ _ _ _ (@qz _ _ _ _) (@ze _) (by rfl)) (by rfl))) (@jt _) (@ja _ _ _ (@zO _ _ _ _ _ _ _ _ (@qV _) (@zj _ _ _ _) (@zr _ _ _ _ _ _ _ _ _ _ _ d_law_draw hr (by omega) rfl (@za _ _ _ _ _ (@pv _ 0 _ _ (by rfl) (by walk_at "v") (by decide) (by decide)) (@za _ _ _ _ _ (@zj _ _ _ _) (@ze _) (by rfl)) (by rfl)) (by decide) (by rfl) (by rfl))))) (by rfl) (by walk_at "f")) (@zh _ _ _ _ _ (@zv _ _ 4 _ _ _ _ zI.nd rfl (Or.inl rfl) (@zr _ _ _ _ _ _ _ _ _ _ _ d_law_columns hr (by omega) rfl (@za _ _ _ _ _ (@pv _ 0 _ _ (by rfl) (by walk_at "v") (by decide) (by decide)) (@za _ _ _ _ _ (@zQ _ _ _ _ _ _ _ (@zq _ K (by rfl)) (@pv _ 1 _ _ (by rfl) (by walk_at "v") (by decide) (by decide)) (@zj _ _ _ _) (fun _ _ => rfl)) (@za _ _ _ _ _ (@pv _ 2 _ _ (by rfl) (by walk_at "v") (by decide) (by decide)) (@za _ _ _ _ _ (@pv _ 3 _ _ (by rfl) (by walk_at "v") (by decide) (by decide)) (@ze _) (by rfl)) (by rfl)) (by rfl)) (by rfl)) (by decide) (by rfl) (by rfl)) (by rfl) (by walk_at "f")) (@zh _ _ _ _ _ (@zv _ _ 5 _ _ _ _ zI.nd rfl (Or.inl rfl) (@zr _ _ _ _ _ _ _ _ _ _ _ d_law_lines hr (by omega) rfl (@za _ _ _ _ _ (@pv _ 0 _ _ (by rfl) (by walk_at "v") (by decide) (by decide)) (@za _ _ _ _ _ (@pv _ 1 _ _ (by rfl) (by walk_at "v") (by decide) (by decide)) (@za _ _ _ _ _ (@pv _ 3 _ _ (by rfl) (by walk_at "v") (by decide) (by decide)) (@za _ _ _ _ _ (@zr _ _ _ _ _ _ _ _ _ _ _ d_law_draw hr (by omega) rfl (@za _ _ _ _ _ (@pv _ 0 _ _ (by rfl) (by walk_at "v") (by decide) (by decide)) (@za _ _ _ _ _ (@zj _ _ _ _) (@ze _) (by rfl)) (by rfl)) (by decide) (by rfl) (by rfl)) (@ze _) (by rfl)) (by rfl)) (by rfl)) (by rfl)) (by decide) (by rfl) (by rfl)) (by rfl) (by walk_at "f")) (@zh _ _ _ _ _ (@zv _ _ 6 _ _ _ _ zI.nd rfl (Or.inl rfl) (@q5 _ _ _ _ (@ze _)) (by rfl) (by walk_at "f")) (@zh _ _ _ _ _ (@qU _ _ _ _ _ _ _ _ PassesOwn.never rfl (@zS _ _ _ _ _ _ rfl gb.range (@za _ _ _ _ _ (@pv _ 2 _ _ (by rfl) (by walk_at "v") (by decide) (by decide)) (@ze _) (by rfl)) (by rfl)) (@zp _ _ 7 _ zI.nd rfl (Or.inr rfl) (by walk_at "f")) (@zm _ _ _ (@qy _ _ _ _ (@jD _ K _ _ _ _ _ _ _ _ _ _ _ PySem.F.plainAttrs_list PySem.F.slot_list_append PySem.F.type_list_append (@qE _) (@pv _ 6 _ _ (by rfl) (by walk_at "v") (by decide) (by decide)) (@za _ _ _ _ _ (@zr _ _ _ _ _ _ _ _ _ _ _ d_law_grades hr (by omega) rfl (@za _ _ _ _ _ (@pv _ 1 _ _ (by rfl) (by walk_at "v") (by decide) (by decide)) (@za _ _ _ _ _ (@pv _ 5 _ _ (by rfl) (by walk_at "v") (by decide) (by decide)) (@za _ _ _ _ _ (@WG _ K _ _ _ _ rfl gb.dict (@za _ _ _ _ _ (@zX _ ["_law_letter", "_law_column", "_law_k"] [none, none, some 7] _ _ _ _ _ _ _ _ _ _ (by exact (show zN ["_law_well_here", "_law_table_here", "_law_size", "_law_letters", "_law_columns_here", "_law_lines_here", "_law_dues", "_law_k", "_law_kinds", "_law_number", "_law_wish", "_law_found", "_law_last"] (zg qt) ["_law_letter", "_law_column", "_law_k"] [none, none, some 7] _ from ⟨rfl, by decide +kernel, by decide +kernel, by decide +kernel, by decide +kernel, rfl, by decide +kernel⟩)) rfl (@ji _ K _ _ _ (@pv _ 4 _ _ (by rfl) (by walk_at "v") (by decide) (by decide)) (by rfl)) (fun _ _ _ _ => (@jP _ K _ _ _ _ 2 rfl (@zK _ _ _ _ _ (@zp _ _ 0 _ nd0 rfl (Or.inl rfl) (by walk_at "f")) (@zK _ _ _ _ _ (@zp _ _ 1 _ nd0 rfl (Or.inl rfl) (by walk_at "f")) (@jM _) (by rfl)) (by rfl)) (by rfl) (by rfl) (by rfl))) (fun _ _ _ _ => (@qi _)) (fun _ _ _ _ => (@qB _ _ _ _ _ (@za _ _ _ _ _ (@pv _ 0 _ _ (by rfl) (by walk_at "v") (by decide) (by decide)) (@za _ _ _ _ _ (@zQ _ _ _ _ _ _ _ (@zq _ K (by rfl)) (@pv _ 1 _ _ (by rfl) (by walk_at "v") (by decide) (by decide)) (@pv _ 2 _ _ (by rfl) (by walk_at "v") (by decide) (by decide)) (fun _ _ => rfl)) (@ze _) (by rfl)) (by rfl)))) (by intro _; rfl)) (@ze _) (by rfl)) (by rfl) (by rfl) (by rfl)) (@ze _) (by rfl)) (by rfl)) (by rfl)) (by decide) (by rfl) (by rfl)) (@ze _) (by rfl)) (by rfl) (by rfl) (by rfl) (by rfl) (by rfl) (by rfl)) (by rfl))) (by intro _; rfl)) (@zh _ _ _ _ _ (@zv _ _ 8 _ _ _ _ zI.nd rfl (Or.inl rfl) (@q5 _ _ _ _ (@ze _)) (by rfl) (by walk_at "f")) (@zh _ _ _ _ _ (@qU _ _ _ _ _ _ _ _ PassesOwn.never rfl (@zZ _ K _ _ _ (@q5 _ _ _ _ (@za _ _ _ _ _ (@zj _ _ _ _) (@za _ _ _ _ _ (@zO _ _ _ _ _ _ _ _ (@wE _) (@zA _ _ _ _ _ _ _ _ _ (@qf _ K (by rfl)) rfl gb.len jg (@za _ _ _ _ _ (@pv _ 5 _ _ (by rfl) (by walk_at "v") (by decide) (by decide)) (@ze _) (by rfl)) (by decide) (by decide) (by rfl) (by rfl)) (@zj _ _ _ _)) (@za _ _ _ _ _ (@zO _ _ _ _ _ _ _ _ (@QI _) (@zA _ _ _ _ _ _ _ _ _ (@qf _ K (by rfl)) rfl gb.len jg (@za _ _ _ _ _ (@pv _ 5 _ _ (by rfl) (by walk_at "v") (by decide) (by decide)) (@ze _) (by rfl)) (by decide) (by decide) (by rfl) (by rfl)) (@zj _ _ _ _)) (@ze _) (by rfl)) (by rfl)) (by rfl))) (by rfl)) (@zp _ _ 9 _ zI.nd rfl (Or.inr rfl) (by walk_at "f")) (@zh _ _ _ _ _ (@zv _ _ 10 _ _ _ _ zI.nd rfl (Or.inl rfl) (@zx _ _ _ _ _ _ _ _ _ (@zt _ K (by rfl)) rfl gb.tuple qm (@za _ _ _ _ _ (@zX _ ["_law_grades_here", "_law_number"] [none, some 9] _ _ _ _ _ _ _ _ _ _ (by exact (show zN ["_law_well_here", "_law_table_here", "_law_size", "_law_letters", "_law_columns_here", "_law_lines_here", "_law_dues", "_law_k", "_law_kinds", "_law_number", "_law_wish", "_law_found", "_law_last"] (zg qt) ["_law_grades_here", "_law_number"] [none, some 9] _ from ⟨rfl, by decide +kernel, by decide +kernel, by decide +kernel, by decide +kernel, rfl, by decide +kernel⟩)) rfl (@zZ _ K _ _ _ (@pv _ 6 _ _ (by rfl) (by walk_at "v") (by decide) (by decide)) (by rfl)) (fun _ _ _ _ => (@zp _ _ 0 _ nd1 rfl (Or.inl rfl) (by walk_at "f"))) (fun _ _ _ _ => (@qi _)) (fun _ _ _ _ => (@zQ _ _ _ _ _ _ _ (@zq _ K (by rfl)) (@pv _ 0 _ _ (by rfl) (by walk_at "v") (by decide) (by decide)) (@pv _ 1 _ _ (by rfl) (by walk_at "v") (by decide) (by decide)) (fun _ _ => rfl))) (by intro _; rfl)) (@ze _) (by rfl)) (by decide) (by decide) (by rfl) (by rfl)) (by rfl) (by walk_at "f")) (@zh _ _ _ _ _ (@zv _ _ 11 _ _ _ _ zI.nd rfl (Or.inl rfl) (@zr _ _ _ _ _ _ _ _ _ _ _ d_law_asked hr (by omega) rfl (@za _ _ _ _ _ (@pv _ 1 _ _ (by rfl) (by walk_at "v") (by decide) (by decide)) (@za _ _ _ _ _ (@pv _ 4 _ _ (by rfl) (by walk_at "v") (by decide) (by decide)) (@za _ _ _ _ _ (@pv _ 10 _ _ (by rfl) (by walk_at "v") (by decide) (by decide)) (@ze _) (by rfl)) (by rfl)) (by rfl)) (by decide) (by rfl) (by rfl)) (by rfl) (by walk_at "f")) (@zh _ _ _ _ _ (@qy _ _ _ _ (@jD _ K _ _ _ _ _ _ _ _ _ _ _ PySem.F.plainAttrs_list PySem.F.slot_list_append PySem.F.type_list_append (@qE _) (@pv _ 8 _ _ (by rfl) (by walk_at "v") (by decide) (by decide)) (@za _ _ _ _ _ (@zQ _ _ _ _ _ _ _ (@zq _ K (by rfl)) (@pv _ 11 _ _ (by rfl) (by walk_at "v") (by decide) (by decide)) (@zj _ _ _ _) (fun _ _ => rfl)) (@ze _) (by rfl)) (by rfl) (by rfl) (by rfl) (by rfl) (by rfl) (by rfl)) (by rfl)) (@zh _ _ _ _ _ (@jk _ _ _ _ _ _ _ _ (@zL _ _ _ _ _ _ _ _ (@Zg _) (@zQ _ _ _ _ _ _ _ (@zq _ K (by rfl)) (@pv _ 11 _ _ (by rfl) (by walk_at "v") (by decide) (by decide)) (@zj _ _ _ _) (fun _ _ => rfl)) (@qz _ _ _ _) (@qh _ _ (by decide) (by decide))) (@zm _ _ _ (@zP _ _ _ _ (@wz _ _ _ _))) (@zW _)) (@zm _ _ _ (@jk _ _ _ _ _ _ _ _ (@PW.pt _ _ _ (@yD _ _ _ _ _ _ _ (@zL _ _ _ _ _ _ _ _ (@Zg _) (@zQ _ _ _ _ _ _ _ (@zq _ K (by rfl)) (@pv _ 11 _ _ (by rfl) (by walk_at "v") (by decide) (by decide)) (@zj _ _ _ _) (fun _ _ => rfl)) (@qz _ _ _ _) (@qh _ _ (by decide) (by decide))) (@wD _ _ _ _ (@zL _ _ _ _ _ _ _ _ (@op_neT _ K _ hr (by rfl)) (@zr _ _ _ _ _ _ _ _ _ _ _ d_column_of hr (by omega) rfl (@za _ _ _ _ _ (@pv _ 1 _ _ (by rfl) (by walk_at "v") (by decide) (by decide)) (@za _ _ _ _ _ (@pv _ 4 _ _ (by rfl) (by walk_at "v") (by decide) (by decide)) (@za _ _ _ _ _ (@zQ _ _ _ _ _ _ _ (@zq _ K (by rfl)) (@pv _ 11 _ _ (by rfl) (by walk_at "v") (by decide) (by decide)) (@zj _ _ _ _) (fun _ _ => rfl)) (@ze _) (by rfl)) (by rfl)) (by rfl)) (by decide) (by rfl) (by rfl)) (@pv _ 10 _ _ (by rfl) (by walk_at "v") (by decide) (by decide)) (@qh _ _ (by decide) (by decide)))))) (@zm _ _ _ (@zP _ _ _ _ (@wz _ _ _ _))) (@zW _))))))) (by intro _; rfl)) (@zh _ _ _ _ _ (@jk _ _ _ _ _ _ _ _ (@zL _ _ _ _ _ _ _ _ (@op_gt _) (@zA _ _ _ _ _ _ _ _ _ (@y4 _) rfl gb.len jg (@za _ _ _ _ _ (@zx _ _ _ _ _ _ _ _ _ (@W2 _ K rfl (by rfl)) rfl gb.set bt_set (@za _ _ _ _ _ (@pv _ 8 _ _ (by rfl) (by walk_at "v") (by decide) (by decide)) (@ze _) (by rfl)) (by decide) (by decide) (by rfl) (by rfl)) (@ze _) (by rfl)) (by decide) (by decide) (by rfl) (by rfl)) (@zj _ _ _ _) (@qh _ _ (by decide) (by decide))) (@zm _ _ _ (@zP _ _ _ _ (@wz _ _ _ _))) (@zW _)) (@zh _ _ _ _ _ (@zv _ _ 12 _ _ _ _ zI.nd rfl (Or.inl rfl) (@zx _ _ _ _ _ _ _ _ _ (@zt _ K (by rfl)) rfl gb.tuple qm (@za _ _ _ _ _ (@zX _ ["_law_grades_here"] [none] _ _ _ _ _ _ _ _ _ _ (by exact (show zN ["_law_well_here", "_law_table_here", "_law_size", "_law_letters", "_law_columns_here", "_law_lines_here", "_law_dues", "_law_k", "_law_kinds", "_law_number", "_law_wish", "_law_found", "_law_last"] (zg qt) ["_law_grades_here"] [none] _ from ⟨rfl, by decide +kernel, by decide +kernel, by decide +kernel, by decide +kernel, rfl, by decide +kernel⟩)) rfl (@zZ _ K _ _ _ (@pv _ 6 _ _ (by rfl) (by walk_at "v") (by decide) (by decide)) (by rfl)) (fun _ _ _ _ => (@zp _ _ 0 _ nd2 rfl (Or.inl rfl) (by walk_at "f"))) (fun _ _ _ _ => (@qi _)) (fun _ _ _ _ => (@zQ _ _ _ _ _ _ _ (@zq _ K (by rfl)) (@pv _ 0 _ _ (by rfl) (by walk_at "v") (by decide) (by decide)) (@pe_un _ _ _ _ _ _ (@un_neg _) (@zj _ _ _ _)) (fun _ _ => rfl))) (by intro _; rfl)) (@ze _) (by rfl)) (by decide) (by decide) (by rfl) (by rfl)) (by rfl) (by walk_at "f")) (@zm _ _ _ (@zP _ _ _ _ (@pe_or _ _ _ _ _ _ _ (@Z1 _ _ _ _ _ _ _ _ (@Zg _) (@zQ _ _ _ _ _ _ _ (@zq _ K (by rfl)) (@pv _ 8 _ _ (by rfl) (by walk_at "v") (by decide) (by decide)) (@zj _ _ _ _) (fun _ _ => rfl)) (@qz _ _ _ _) (@qh _ _ (by decide) (by decide))) (@pe_one _ _ _ _ _ (@zr _ _ _ _ _ _ _ _ _ _ _ d_law_unsaid hr (by omega) rfl (@za _ _ _ _ _ (@pv _ 0 _ _ (by rfl) (by walk_at "v") (by decide) (by decide)) (@za _ _ _ _ _ (@pv _ 1 _ _ (by rfl) (by walk_at "v") (by decide) (by decide)) (@za _ _ _ _ _ (@pv _ 4 _ _ (by rfl) (by walk_at "v") (by decide) (by decide)) (@za _ _ _ _ _ (@pv _ 2 _ _ (by rfl) (by walk_at "v") (by decide) (by decide)) (@za _ _ _ _ _ (@pv _ 12 _ _ (by rfl) (by walk_at "v") (by decide) (by decide)) (@ze _) (by rfl)) (by rfl)) (by rfl)) (by rfl)) (by rfl)) (by decide) (by rfl) (by rfl))))))))))))))))), ?_⟩
 rename_i ww
 refine ⟨_, rfl, p, 3, 3, rfl, w, by decide, by decide, by decide, fun v T H1 o1 w1 gT m3 nT ia => ?_⟩
 obtain ⟨a, w0, c0, vs, rfl, h1, h2, h3, h4⟩ := id ia
 have m1 := gT.m1
 have m9 := gT.m9
 refine ⟨_, rfl, p, 3, rfl, w1, by decide, by decide, fun v2 H2 v21 o2 w2 => ⟨_, _, rfl, rfl, ?_⟩⟩
 obtain ⟨len, elen, n1, n3'⟩ : ∃ len : Nat, (1 + (v2 : Int)) = ((len : Nat) : Int) /\ 1 <= len /\ len <= 3 := ⟨v2 + 1, by omega, by omega, by omega⟩
 have n9 : len <= 9 := by omega
 dsimp only
 rw [elen]
 refine ⟨zy (by show 2 <= 1000; decide), fun L0 hL0 => ?_⟩
 have n3 := zf hL0 (.lst [V.str "p", V.str "q"])
 have w3 := w2.same n3
 have p0 := w2.ne hL0
 refine ⟨_, rfl, p, 2, rfl, w3, by decide, by decide, fun v3 H4 v31 o4 w4 => ?_⟩
 have hL4 := o4 L0 _ (Ne.symm p0) zd
 refine ⟨_, _, rfl, rfl, _, rfl, .inl ⟨L0, _, rfl, SqL.of hL4, fun la hla => ?_⟩⟩
 dsimp only
 obtain ⟨LT, eL, l1, l2, nL, hL⟩ := pq v31
 have l3 : LT.length <= 3 := by omega
 rw [eL]
 have n5 := zf hla (.lst (LT.map V.str))
 have w5 := w4.same n5
 have lp : la ≠ p := Ne.symm (w4.ne hla)
 have hla5 : (upd H4 la (.lst (LT.map V.str))) la = some (.lst (LT.map V.str)) := zd
 have o15 : Off p H1 (upd H4 la (.lst (LT.map V.str))) := o2.trans ((Off.of n3).trans (o4.trans (Off.of n5)))
 have k15 := w1.tk o15
 generalize upd H4 la (.lst (LT.map V.str)) = H5 at *
 refine ⟨_, rfl, _, rfl, .inr (.inl ⟨a, _, 0, _, rfl, rfl, SqT.of (k15 _ _ h1), rfl, _, rfl, _, rfl, p, T.m, len, la, LT, rfl, w5, m1, m9, n1, n9, hla5, lp, l1, l3, nL, fun ct γ cps cvs H6 o6 w6 gm hcol6 => ?_⟩)⟩
 refine ⟨_, rfl, _, rfl, _, rfl, _, rfl, p, 11, rfl, w6, by decide, by decide, fun v7 H7 v71 o7 w7 => ?_⟩
 have k57 := w5.tk (o6.trans o7)
 refine ⟨p, .ref a, T, la, LT, v7, rfl, w7, ia.tk (k15.trans k57), gT, (o6.trans o7) la _ lp hla5, lp, l1, l2, by omega, fun ll ls us H9 o9 w9 llp hll hls hG ls1 ls12 => ?_⟩
 have ls20 : ls.length <= 20 := by omega
 have k9 := (k15.trans k57).trans (w7.tk o9)
 have ia9 := ia.tk k9
 have h19 := k9 _ _ h1
 have hcol9 : Ql H9 ct LT γ len cps cvs := hcol6.tk ((w6.tk o7).trans (w7.tk o9))
 have oH : Off p H H9 := o1.trans (o15.trans (o6.trans (o7.trans o9)))
 have hul := Paired.length hls
 have bd : ∀ k, Bd T LT (γ k) := fun k x hx => gm k x hx
 obtain ⟨hct, hpr, cpl, hget, ndL, _, _⟩ := id hcol9
 have hcvl := Paired.length hpr
 have gx : ∀ i, ∃ (b t : Addr) (x : Str), i < LT.length -> LT[i]? = some x /\ cvs[i]? = some (.ref b) /\ H9 b = some (.tup [.str x, .ref t]) /\ H9 t = some (.tup (((List.range len).map fun k => γ k x).map nV)) := fun i => by
  by_cases hi : i < LT.length
  ·have hx : LT[i]? = some LT[i] := List.getElem?_eq_getElem hi
   obtain ⟨t, e1, e2⟩ := hget i _ hx
   have hcv : cvs[i]? = some cvs[i] := List.getElem?_eq_getElem (by omega)
   obtain ⟨b, e3, e4⟩ := Paired.at hpr i _ _ hcv e1
   exact ⟨b, t, LT[i], fun _ => ⟨hx, by rw [hcv, e3], e4, e2⟩⟩
  ·exact ⟨0, 0, "", fun h => absurd h hi⟩
 obtain ⟨ab, gx⟩ := Classical.axiomOfChoice gx
 obtain ⟨at_, gx⟩ := Classical.axiomOfChoice gx
 obtain ⟨ax, gx⟩ := Classical.axiomOfChoice gx
 refine ⟨zy (by show 0 <= 1000; decide), fun du hdu => ?_⟩
 have nd := zf hdu (.lst [])
 refine ⟨_, rfl, (len : Int), rfl, by omega, by omega, ?_⟩
 rw [Int.toNat_natCast]
 refine Zw (fun i σ H' => (∃ x7 x8 x9 x10 x11 x12, σ = [some (.ref p), some (.ref a), some (nV len), some (.ref la), some (.ref ct), some (.ref ll), some (.ref du), x7, x8, x9, x10, x11, x12]) /\ zR H9 H' /\ ∃ dvs, H' du = some (.lst dvs) /\ WP H' du T γ ls (List.range i) dvs) ⟨⟨_, _, _, _, _, _, rfl⟩, nd, [], zd, .nil⟩ ?_ ?_
 ·rintro i σ Ha hi ⟨⟨x7, x8, x9, x10, x11, x12, rfl⟩, sa, dvs, hdu', hdues⟩
  have hdl := Paired.length hdues
  rw [List.length_range] at hdl
  rw [show (0 : Int) + (i : Int) = ((i : Nat) : Int) by omega]
  refine ⟨_, rfl, .inl ⟨rfl, _, SqL.of hdu'⟩, _, rfl, _, rfl, _, rfl, ct, rfl, ⟨_, SqT.of (sa _ _ hct)⟩, fun D hD => ?_⟩
  refine comp_tt2 (n := LT.length) (ad := ab) (v1 := fun j => .str (ax j)) (v2 := fun j => .ref (at_ j)) (more := [some (nV i)]) (fun j ys H' => zR Ha H' /\ ys.length = j /\ Prs H' ys ((LT.take j).map fun x => ((Sum.inr x : Key), nV (γ i x)))) ⟨zf hD _, rfl, .nil⟩ (by omega) (fun j hj => (gx j hj).2.1) (fun j ys H' h _ => SqT.of (h.1 _ _ (sa _ _ hct))) (fun j ys H' hj h => SqT.of (h.1 _ _ (sa _ _ (gx j hj).2.2.1))) ?_ ?_
  ·rintro j ys Hb hj ⟨sb, yl, hp2⟩ hDb
   obtain ⟨g1, g2, g3, g4⟩ := gx j hj
   refine yes ⟨_, rfl, _, rfl, _, rfl, .inr (.inl ⟨at_ j, _, _, _, rfl, rfl, SqT.of (sb _ _ (sa _ _ g4)), qC (j := i) (by rw [List.getElem?_map, List.getElem?_map, List.getElem?_range hi]; rfl), zy (by show 2 <= 1000; decide), fun t3 ht3 => ?_⟩)⟩
   have n4 := zf ht3 (.tup [.str (ax j), nV (γ i (ax j))])
   have hDc := n4 _ _ hDb
   refine ZL hj ⟨_, _, rfl⟩ hDc (zo (by omega)) ⟨(sb.trans n4).put hD, by rw [List.length_append, yl]; rfl, ?_⟩
   rw [take_snoc g1, List.map_append]
   exact Prs.snoc (p := (Sum.inr (ax j), nV (γ i (ax j)))) (Prs.tk (Tk.put hDc) (Prs.tk (Tk.of n4) hp2)) (Tk.put hDc _ _ zd)
  rintro ys Hb ⟨sb, yl, hp2⟩ hDb
  rw [List.take_length] at hp2
  refine ⟨D, ys, _, rfl, hDb, hp2, fun g hg => ?_⟩
  have n5 := zf hg (.dK (putAll [] (LT.map fun x => ((Sum.inr x : Key), nV (γ i x)))))
  have ign : IsGn (upd Hb g (.dK (putAll [] (LT.map fun x => ((Sum.inr x : Key), nV (γ i x)))))) g (γ i) LT := by
   refine ⟨_, zd, ?_, fun x hx => ?_⟩
   ·have := jm (LT.map fun x => ((Sum.inr x : Key), nV (γ i x))) []
    rw [List.length_map, List.length_nil] at this
    omega
   ·refine Jf _ [] ((Sum.inr x : Key), nV (γ i x)) ?_ (List.mem_map.mpr ⟨x, hx, rfl⟩)
    rw [List.map_map]
    unfold List.Nodup at ndL ⊢
    rw [List.pairwise_map]
    exact ndL.imp fun hab e => hab (Sum.inr.inj e)
  have S5 := sa.trans (sb.trans n5)
  have hdu5 := (sb.trans n5) _ _ hdu'
  refine ⟨.ref a, ll, g, T, ls, us, γ i, LT, rfl, ia9.same S5, gT, nT, S5 _ _ hll, Lns.tk (Tk.of S5) hls, hG, ls20, ign, bd i, fun gl Hc sc hgl => ?_⟩
  have hduc := sc _ _ hdu5
  have gdu : gl ≠ du := fun e => by
   rw [e, hduc] at hgl
   have e2 : dvs = (zM T (γ i) ls).map nV := HO.lst.inj (Option.some.inj hgl)
   have gll := Wc T (γ i) ls
   have dl : dvs.length = ls.length := by rw [e2, List.length_map, gll]
   have d0 : dvs[0]? = some dvs[0] := List.getElem?_eq_getElem (by omega)
   generalize dvs[0] = v0 at d0
   obtain ⟨t0, et0, _, _⟩ := Paired.at hdues 0 0 _ (by rw [List.getElem?_range (by omega)]) d0
   rw [e2, List.getElem?_map] at d0
   obtain ⟨y0, _, ey0⟩ := Option.map_eq_some_iff.mp d0
   rw [et0] at ey0
   cases ey0
  refine ⟨du, dvs, _, rfl, rfl, hduc, zo (by omega), ⟨⟨_, _, _, _, _, _, rfl⟩, (S5.trans sc).put hdu, dvs ++ [.ref gl], zd, ?_⟩⟩
  rw [List.range_succ]
  exact WP.snoc (WP.to (fun b o hb e => by rw [zE hb]; exact (sb.trans (n5.trans sc)) _ _ e) hdues) gdu (by rw [zE gdu]; exact hgl)
 ·rintro σ Ha ⟨⟨x7, x8, x9, x10, x11, x12, rfl⟩, sa, dvs, hdu', hdues⟩
  have hdl := Paired.length hdues
  rw [List.length_range] at hdl
  have hlla := sa _ _ hll
  refine ⟨zy (by show 0 <= 1000; decide), fun kd hkd => ?_⟩
  have nk := zf hkd (.lst [])
  have hllk := nk _ _ hlla
  refine ⟨_, rfl, _, _, rfl, .inl ⟨_, SqL.of hllk, rfl⟩, _, _, rfl, rfl, ⟨by decide, by decide⟩, _, rfl, _, _, rfl, .inl ⟨_, SqL.of hllk, rfl⟩, _, _, rfl, rfl, zy (by show 3 <= 1000; decide), fun ml hml => ?_⟩
  have mlk : ml ≠ kd := fun z => by
   rw [z, zd] at hml
   cases hml
  have n6 := zf hml (.lst [.int 0, .int (((us.length : Nat) : Int) / 2), .int (((us.length : Nat) : Int) - 1)])
  refine ⟨ml, rfl, ⟨_, SqL.of zd⟩, ?_⟩
  have eF : (LT.map fun x => (x, colL γ len x)).map Prod.fst = LT := by
   rw [List.map_map]
   exact List.map_id LT
  have eB : (LT.map fun x => (x, colL γ len x)).map Prod.snd = LT.map (colL γ len) := by rw [List.map_map]; rfl
  have hgc : ∀ q ∈ LT.map (fun x => (x, colL γ len x)), Ltr q.1 /\ qM T.m len q.2 := fun q hq => by
   obtain ⟨x, hx, rfl⟩ := List.mem_map.mp hq
   refine ⟨hL x hx, by show ((List.range len).map _).length = len; rw [List.length_map, List.length_range], fun y hy => ?_⟩
   obtain ⟨k, _, rfl⟩ := List.mem_map.mp hy
   exact gm k x hx
  have mp : T.m ^ len <= 27 := Nat.le_trans (Nat.pow_le_pow_left m3 len) (Nat.le_trans (Nat.pow_le_pow_right (by decide) n3') (by decide))
  refine qN (xs := [.int 0, .int (((us.length : Nat) : Int) / 2), .int (((us.length : Nat) : Int) - 1)]) (fun i σ H' => (∃ x7 x9 x10 x11 x12, σ = [some (.ref p), some (.ref a), some (nV len), some (.ref la), some (.ref ct), some (.ref ll), some (.ref du), x7, some (.ref kd), x9, x10, x11, x12]) /\ zR Ha H' /\ H' ml = some (.lst [.int 0, .int (((us.length : Nat) : Int) / 2), .int (((us.length : Nat) : Int) - 1)]) /\ H' kd = some (.lst ((List.replicate i (Str.ofString "said")).map V.str))) ⟨⟨_, _, _, _, _, rfl⟩, nk.trans n6, zd, n6 _ _ zd⟩ (fun i σ H' _ h => SqL.of h.2.2.1) ?_ ?_
  ·rintro i x σ Hb hx ⟨⟨x7, x9, x10, x11, x12, rfl⟩, sb, hmlb, hkdb⟩
   have i3 : i < 3 := (List.getElem?_eq_some_iff.mp hx).1
   obtain ⟨N, rfl, N2⟩ : ∃ N : Nat, x = nV N /\ N < ls.length := by
    match i, hx with
    | 0, hx => exact ⟨0, (Option.some.inj hx).symm, by omega⟩
    | 1, hx => exact ⟨us.length / 2, by
      rw [<- Option.some.inj hx]
      show V.int _ = V.int _
      congr 1, by omega⟩
    | 2, hx => exact ⟨us.length - 1, by
      rw [<- Option.some.inj hx]
      show V.int _ = V.int _
      congr 1 <;> omega, by omega⟩
    | i + 3, hx => simp at hx
   have hdub := sb _ _ hdu'
   have hduesb : WP Hb du T γ ls (List.range len) dvs := WP.to (fun b o _ e => sb _ _ e) hdues
   refine ⟨_, rfl, du, rfl, ⟨_, SqL.of hdub⟩, fun D2 hD2 => ?_⟩
   refine j8 (xs := dvs) (fun j ys H' => zR Hb H' /\ ys = ((List.range j).map fun k => Tn.at' (zM T (γ k) ls) N).map nV) ⟨zf hD2 _, rfl⟩ (fun j ys H' h _ => SqL.of (h.1 _ _ hdub)) ?_ ?_
   ·rintro j ys He y hy ⟨se, rfl⟩ hDe
    have hj := (List.getElem?_eq_some_iff.mp hy).1
    obtain ⟨t, rfl, _, ht⟩ := Paired.at hduesb j j _ (by rw [List.getElem?_range (by omega)]) hy
    refine yes ⟨_, rfl, _, rfl, .inl ⟨t, _, _, _, rfl, rfl, SqL.of (se _ _ ht), ym (by rw [Wc]; omega), ?_⟩⟩
    refine ZL hj jy hDe (by rw [List.length_map, List.length_map, List.length_range]; exact zo (by omega)) ⟨se.put hD2, ?_⟩
    rw [List.range_succ, List.map_append, List.map_append]
    rfl
   rintro ys He ⟨se, rfl⟩ hDe
   rw [<- hdl] at hDe
   refine ⟨D2, _, rfl, .inl ⟨SqL.of hDe, fun wt hwt => ?_⟩⟩
   have n10 := zf hwt (.tup ((jZ T γ ls len N).map nV))
   have Sw := sb.trans (se.trans n10)
   have kw := k9.trans (Tk.of (sa.trans Sw))
   have hwtw : (upd He wt (.tup ((jZ T γ ls len N).map nV))) wt = some (.tup ((jZ T γ ls len N).map nV)) := zd
   have hmlw := (se.trans n10) _ _ hmlb
   have hkdw := (se.trans n10) _ _ hkdb
   have hcolw := hcol9.tk (Tk.of (sa.trans Sw))
   have iaw := ia.tk kw
   show tSeq _ _ _ _ (upd He wt (.tup ((jZ T γ ls len N).map nV)))
   generalize upd He wt (.tup ((jZ T γ ls len N).map nV)) = Hw at *
   have cl : (jZ T γ ls len N).length = len := Jn _ _ _ _ _
   refine ⟨_, rfl, _, rfl, _, rfl, .ref a, ct, wt, T, LT.map (fun x => (x, colL γ len x)), cvs, jZ T γ ls len N, rfl, iaw, gT, nT, hcolw.1, WU hcolw, by rw [cl]; exact hgc, hwtw, by omega, by omega, by rw [cl]; exact mp, fun hs t lt us' L HD sD ht hlt hls' hG' l1' l2' htd => ?_, fun hs => ?_⟩
   rotate_left
   ·rw [cl, eB] at hs
    exact absurd (Y7 γ hG len N _ (List.getElem?_eq_getElem N2)) hs
   rw [eF] at hG'
   have hkdD := sD _ _ hkdw
   refine ⟨_, rfl, .inl ⟨rfl, _, SqL.of hkdD⟩, _, rfl, .inr (.inl ⟨t, _, 0, _, rfl, rfl, SqT.of ht, rfl, kd, _, _, rfl, rfl, hkdD, by rw [List.length_map, List.length_replicate]; exact zo (by omega), ?_⟩)⟩
   have oE : Off kd HD (upd HD kd (.lst ((List.replicate i (Str.ofString "said")).map V.str ++ [.str "said"]))) := Off.put
   have kE := tk_off hkdD oE
   have hkdE : (upd HD kd (.lst ((List.replicate i (Str.ofString "said")).map V.str ++ [.str "said"]))) kd = some (.lst ((List.replicate (i + 1) (Str.ofString "said")).map V.str)) := by
    rw [zd, List.replicate_succ', List.map_append]
    rfl
   have sE : zR Ha (upd HD kd (.lst ((List.replicate i (Str.ofString "said")).map V.str ++ [.str "said"]))) := ZY (Sw.trans sD) hkd oE
   have hmlE := oE ml _ mlk (sD _ _ hmlw)
   generalize upd HD kd (.lst ((List.replicate i (Str.ofString "said")).map V.str ++ [.str "said"])) = HE at *
   have htE := kE _ _ ht
   refine ⟨_, rfl, .inr (.inl ⟨t, _, 0, _, rfl, rfl, SqT.of htE, rfl, rfl, _, rfl, iteN (by simp; decide +kernel) ?_⟩)⟩
   refine ⟨_, rfl, .inr (.inl ⟨t, _, 0, _, rfl, rfl, SqT.of htE, rfl, rfl, _, rfl, iteP (by simp) ?_⟩)⟩
   have kDE := (Tk.of sD).trans kE
   refine ⟨_, rfl, _, rfl, _, rfl, .inr (.inl ⟨t, _, 1, _, rfl, rfl, SqT.of htE, rfl, .ref a, ct, lt, T, LT, cps, cvs, us', L, γ, len, rfl, iaw.tk kDE, gT, nT, hcolw.tk kDE, kE _ _ hlt, Lns.tk kE hls', hG', hL, l1', l2', n1, n9, bd, fun ft HF sF hft => ?_⟩)⟩
   have etd := htd γ fun q hq => by
    obtain ⟨x, hx, rfl⟩ := List.mem_map.mp hq
    rw [cl]
    rfl
   rw [cl] at etd
   rw [etd] at hft
   refine ⟨_, rfl, ft, wt, _, _, rfl, rfl, SqT.of hft, SqT.of (sF _ _ (kDE _ _ hwtw)), jv _, jv _, rfl, _, rfl, ?_⟩
   rw [Yn (jv _)]
   exact Wz ⟨⟨_, _, _, _, _, rfl⟩, sE.trans sF, sF _ _ hmlE, sF _ _ hkdE⟩
  ·rintro σ Hb ⟨⟨x7, x9, x10, x11, x12, rfl⟩, sb, hmlb, hkdb⟩
   have hkdb : Hb kd = some (.lst ((List.replicate 3 (Str.ofString "said")).map V.str)) := hkdb
   refine ⟨_, rfl, kd, List.replicate 3 (Str.ofString "said"), rfl, SqL.of hkdb, by decide, fun st hst => ?_⟩
   refine ⟨st, _, rfl, zd, _, _, rfl, rfl, _, rfl, iteN (by decide +kernel) ?_⟩
   have ns := zf hst (QP P ww st (QO (List.replicate 3 (Str.ofString "said"))))
   have Sc := sb.trans ns
   have hkdc := ns _ _ hkdb
   show tSeq _ _ _ _ (upd Hb st (QP P ww st (QO (List.replicate 3 (Str.ofString "said")))))
   generalize upd Hb st (QP P ww st (QO (List.replicate 3 (Str.ofString "said")))) = Hc at *
   have hdub := Sc _ _ hdu'
   have hduesb : WP Hc du T γ ls (List.range len) dvs := WP.to (fun b o _ e => Sc _ _ e) hdues
   refine ⟨_, rfl, du, rfl, ⟨_, SqL.of hdub⟩, fun D2 hD2 => ?_⟩
   refine j8 (xs := dvs) (fun j ys H' => zR Hc H' /\ ys = ((List.range j).map fun k => Tn.at' (zM T (γ k) ls) (ls.length - 1)).map nV) ⟨zf hD2 _, rfl⟩ (fun j ys H' h _ => SqL.of (h.1 _ _ hdub)) ?_ ?_
   ·rintro j ys He y hy ⟨se, rfl⟩ hDe
    have hj := (List.getElem?_eq_some_iff.mp hy).1
    obtain ⟨t, rfl, _, ht⟩ := Paired.at hduesb j j _ (by rw [List.getElem?_range (by omega)]) hy
    have gll := Wc T (γ j) ls
    refine yes ⟨_, rfl, _, rfl, .inl ⟨t, _, _, _, rfl, rfl, SqL.of (se _ _ ht), at_end (by rw [gll]; omega), ?_⟩⟩
    rw [gll]
    refine ZL hj jy hDe (by rw [List.length_map, List.length_map, List.length_range]; exact zo (by omega)) ⟨se.put hD2, ?_⟩
    rw [List.range_succ, List.map_append, List.map_append]
    rfl
   rintro ys He ⟨se, rfl⟩ hDe
   rw [<- hdl] at hDe
   refine ⟨D2, _, rfl, .inl ⟨SqL.of hDe, fun kt hkt => ?_⟩⟩
   have n10 := zf hkt (.tup ((jZ T γ ls len (ls.length - 1)).map nV))
   have Sw := Sc.trans (se.trans n10)
   have kw := k9.trans (Tk.of (sa.trans Sw))
   have oW : Off p H9 (upd He kt (.tup ((jZ T γ ls len (ls.length - 1)).map nV))) := Off.of (sa.trans Sw)
   have hcolw := hcol9.tk (Tk.of (sa.trans Sw))
   have hnl := List.getElem?_eq_getElem (show ls.length - 1 < ls.length by omega)
   have hsk := Y7 γ hG len (ls.length - 1) _ hnl
   refine ⟨_, rfl, .inl ⟨kd, _, 0, _, rfl, rfl, SqL.of ((se.trans n10) _ _ hkdc), rfl, rfl, _, rfl, iteN (by simp; decide +kernel) ?_⟩⟩
   refine ⟨_, rfl, _, rfl, _, rfl, _, rfl, _, rfl, p, .ref a, T, ct, LT.map (fun x => (x, colL γ len x)), cvs, len, kt, jZ T γ ls len (ls.length - 1), rfl, w9.same (sa.trans Sw), ia.tk kw, gT, nT, m3, hcolw.1, WU hcolw, by rw [List.length_map]; omega, hgc, n1, n3', zd, by rw [eB]; exact hsk, sd_good gT nT (fun b hb => ?_) hsk, fun Hz oz => ?_⟩
   ·rw [<- eB] at hb
    obtain ⟨q', hq', rfl⟩ := List.mem_map.mp hb
    exact (hgc q' hq').2
   exact q Hz (oH.trans (oW.trans oz))
abbrev QH : Stmt := top 39
theorem sc_law : zH ["_law_script"] ["_law_script"] (zg QH) := ⟨rfl, rfl, rfl, by decide +kernel, rfl, by decide +kernel, by decide +kernel⟩
theorem ok_law {P : Program} {w : World} {K : PySem.W.Frag} {mg : Str -> Option Value} {base : Heap} {f : Addr} {fd : FuncData} (F : Fun K "law" "law" QH f fd) (gb : Gb mg) {c : Nat -> Addr} (cl : Cl K mg c) (d_law_right : Def P w K mg base 8 "_law_right" ["_law_well_here"] Qr) (d_law_well : Def P w K mg base 1 "_law_well" ["_law_script", "_law_place"] (YG K)) : jY P w K mg base CX0 9 f fd ["_law_script"] (spLaw K) := by
 refine F.ok sc_law (fun vs H Q E h => ?_) (fun cdv A outer s H vs Q E hr h => ?_)
 ·obtain ⟨a, ns, rfl, _⟩ := h
  rfl
 obtain ⟨a, ns, rfl, hS, hn, q⟩ := h
 have nd0 : (["_law_k", "_law_script"] : List Str).Nodup := by decide +kernel
 refine ⟨_, (@zm _ _ _ (@zP _ _ _ _ (@zA _ _ _ _ _ _ _ _ _ (@Z7 _ K rfl (by rfl)) rfl gb.all yZ (@za _ _ _ _ _ (@zX _ ["_law_k", "_law_script"] [none, some 0] _ _ _ _ _ _ _ _ _ _ (by exact (show zN ["_law_script"] (zg QH) ["_law_k", "_law_script"] [none, some 0] _ from ⟨rfl, by decide +kernel, by decide +kernel, by decide +kernel, by decide +kernel, rfl, by decide +kernel⟩)) rfl (@zS _ _ _ _ _ _ rfl gb.range (@za _ _ _ _ _ (@zA _ _ _ _ _ _ _ _ _ (@W1 _ K rfl) rfl gb.max bt_max (@za _ _ _ _ _ (@zj _ _ _ _) (@za _ _ _ _ _ (@zA _ _ _ _ _ _ _ _ _ (@W4 _ K rfl) rfl gb.min bt_min (@za _ _ _ _ _ (@zA _ _ _ _ _ _ _ _ _ (@qf _ K (by rfl)) rfl gb.len jg (@za _ _ _ _ _ (@pv _ 0 _ _ (by rfl) (by walk_at "v") (by decide) (by decide)) (@ze _) (by rfl)) (by decide) (by decide) (by rfl) (by rfl)) (@za _ _ _ _ _ (@zj _ _ _ _) (@ze _) (by rfl)) (by rfl)) (by decide) (by decide) (by rfl) (by rfl)) (@ze _) (by rfl)) (by rfl)) (by decide) (by decide) (by rfl) (by rfl)) (@ze _) (by rfl)) (by rfl)) (fun _ _ _ _ => (@zp _ _ 0 _ nd0 rfl (Or.inl rfl) (by walk_at "f"))) (fun _ _ _ _ => (@qi _)) (fun _ _ _ _ => (@zr _ _ _ _ _ _ _ _ _ _ _ d_law_right hr (by omega) rfl (@za _ _ _ _ _ (@zr _ _ _ _ _ _ _ _ _ _ _ d_law_well hr (by omega) rfl (@za _ _ _ _ _ (@pv _ 1 _ _ (by rfl) (by walk_at "v") (by decide) (by decide)) (@za _ _ _ _ _ (@pv _ 0 _ _ (by rfl) (by walk_at "v") (by decide) (by decide)) (@ze _) (by rfl)) (by rfl)) (by decide) (by rfl) (by rfl)) (@ze _) (by rfl)) (by decide) (by rfl) (by rfl))) (by intro _; rfl)) (@ze _) (by rfl)) (by decide) (by decide) (by rfl) (by rfl)))), ?_⟩
 obtain ⟨n, en, n0, n6⟩ : ∃ n : Int, (if (if (2 : Int) < ((ns.map V.int).length : Int) then 2 else ((ns.map V.int).length : Int)) > 1 then (if (2 : Int) < ((ns.map V.int).length : Int) then 2 else ((ns.map V.int).length : Int)) else 1) = n /\ 0 <= n /\ n <= 2 := ⟨_, rfl, by split <;> omega, by split <;> (try split) <;> omega⟩
 refine ⟨_, rfl, _, (ns.map V.int).length, rfl, .inl ⟨_, hS, rfl⟩, _, _, rfl, _, _, rfl, n, by (show [V.int _] = _; rw [en]), by omega, by omega, fun D hD => ?_⟩
 refine qv (fun i ys H' => zR H H' /\ ys = (List.replicate i true).map V.bl) ⟨zf hD _, rfl⟩ ?_ ?_
 ·rintro i ys H1 hi ⟨s1, rfl⟩ hD1
  refine yes ⟨_, rfl, _, rfl, a, ns, _, rfl, s1.seq hS, hn, fun p H2 np s2 w2 => ⟨p, rfl, w2, fun H3 o3 => ?_⟩⟩
  have s3 : zR H1 H3 := fun b o e => o3 b o (zF e np) (s2 b o e)
  have hD3 := s3 _ _ hD1
  refine ZL hi jy hD3 (by rw [List.length_map, List.length_replicate]; exact zo (by omega)) ⟨(s1.trans s3).put hD, ?_⟩
  rw [List.replicate_succ', List.map_append]
  rfl
 ·rintro ys H1 ⟨s1, rfl⟩ hD1
  refine ⟨D, _, rfl, SqL.of hD1, ?_⟩
  rw [show (List.replicate n.toNat true).all id = true by simp]
  exact q _
theorem wu {α : Type} : ∀ {us : List α}, us.length = 1 -> ∃ x0, us = [x0]
 | [x0], _ => ⟨x0, rfl⟩
theorem Wp {α : Type} : ∀ {us : List α}, us.length = 2 -> ∃ x0 x1, us = [x0, x1]
 | [x0, x1], _ => ⟨x0, x1, rfl⟩
theorem Jz {α : Type} : ∀ {us : List α}, us.length = 3 -> ∃ x0 x1 x2, us = [x0, x1, x2]
 | [x0, x1, x2], _ => ⟨x0, x1, x2, rfl⟩
theorem lenK4 {α : Type} : ∀ {us : List α}, us.length = 4 -> ∃ x0 x1 x2 x3, us = [x0, x1, x2, x3]
 | [x0, x1, x2, x3], _ => ⟨x0, x1, x2, x3, rfl⟩
theorem lenK5 {α : Type} : ∀ {us : List α}, us.length = 5 -> ∃ x0 x1 x2 x3 x4, us = [x0, x1, x2, x3, x4]
 | [x0, x1, x2, x3, x4], _ => ⟨x0, x1, x2, x3, x4, rfl⟩
theorem all_mk {l : PySem.W.OpenLaw} {w : World} {K : PySem.W.Frag} {h : Heap} {mg : Str -> Option Value} {fa f0 f1 f2 f3 f4 f5 f6 f7 f8 f9 f10 f11 f12 f13 f14 f15 f16 f17 f18 f19 f20 f21 f22 f23 f24 f25 f26 f27 f28 : Addr} (X : K.In h) (G : h.Ns mainGlobals mg) (hfa : mg "law" = some (.ref fa))
  {od0 an0 od1 an1 od2 an2 od3 an3 od4 an4 od5 an5 od6 an6 od7 an7 od8 an8 od9 an9 od10 an10 od11 an11 od12 an12 od13 an13 od14 an14 od15 an15 od16 an16 od17 an17 od18 an18 od19 an19 od20 an20 od21 an21 od22 an22 od23 an23 od24 an24 od25 an25 od26 an26 od27 an27 od28 an28 : Option Addr} {sl0 sl1 sl2 sl3 sl4 sl5 sl6 sl7 sl8 sl9 sl10 sl11 sl12 sl13 sl14 sl15 sl16 sl17 sl18 sl19 sl20 sl21 sl22 sl23 sl24 sl25 sl26 sl27 sl28 : Array (Option Value)} {oc0 kV0 dc0 pm0 cd0 ct0 oc1 kV1 dc1 pm1 cd1 ct1 oc2 kV2 dc2 pm2 cd2 ct2 oc3 kV3 dc3 pm3 cd3 ct3 oc4 kV4 dc4 pm4 cd4 ct4 oc5 kV5 dc5 pm5 cd5 ct5 oc6 kV6 dc6 pm6 cd6 ct6 oc7 kV7 dc7 pm7 cd7 ct7 oc8 kV8 dc8 pm8 cd8 ct8 oc9 kV9 dc9 pm9 cd9 ct9 oc10 kV10 dc10 pm10 cd10 ct10 oc11 kV11 dc11 pm11 cd11 ct11 oc12 kV12 dc12 pm12 cd12 ct12 oc13 kV13 dc13 pm13 cd13 ct13 oc14 kV14 dc14 pm14 cd14 ct14 oc15 kV15 dc15 pm15 cd15 ct15 oc16 kV16 dc16 pm16 cd16 ct16 oc17 kV17 dc17 pm17 cd17 ct17 oc18 kV18 dc18 pm18 cd18 ct18 oc19 kV19 dc19 pm19 cd19 ct19 oc20 kV20 dc20 pm20 cd20 ct20 oc21 kV21 dc21 pm21 cd21 ct21 oc22 kV22 dc22 pm22 cd22 ct22 oc23 kV23 dc23 pm23 cd23 ct23 oc24 kV24 dc24 pm24 cd24 ct24 oc25 kV25 dc25 pm25 cd25 ct25 oc26 kV26 dc26 pm26 cd26 ct26 oc27 kV27 dc27 pm27 cd27 ct27 oc28 kV28 dc28 pm28 cd28 ct28 : Value}
  (a0 : PySem.W.nsIn K mainGlobals "has_small_letters_alone" = some (some (.ref f0))) (l0 : K.lookup f0 = some ⟨oc0, od0, .func (PySem.W.fnOf "has_small_letters_alone" "has_small_letters_alone" (zG zu) (zB zu) (zg zu) .none kV0 dc0 pm0 an0 cd0 ct0), sl0⟩) (c0 : PySem.W.codeIn K cd0 "has_small_letters_alone" = true) (k0 : PySem.W.keepIn K (.ref f0) = true)
  (a1 : PySem.W.nsIn K mainGlobals "is_letter" = some (some (.ref f1))) (l1 : K.lookup f1 = some ⟨oc1, od1, .func (PySem.W.fnOf "is_letter" "is_letter" (zG jc) (zB jc) (zg jc) .none kV1 dc1 pm1 an1 cd1 ct1), sl1⟩) (c1 : PySem.W.codeIn K cd1 "is_letter" = true) (k1 : PySem.W.keepIn K (.ref f1) = true)
  (a2 : PySem.W.nsIn K mainGlobals "needed_lines" = some (some (.ref f2))) (l2 : K.lookup f2 = some ⟨oc2, od2, .func (PySem.W.fnOf "needed_lines" "needed_lines" (zG qx) (zB qx) (zg qx) .none kV2 dc2 pm2 an2 cd2 ct2), sl2⟩) (c2 : PySem.W.codeIn K cd2 "needed_lines" = true) (k2 : PySem.W.keepIn K (.ref f2) = true)
  (a3 : PySem.W.nsIn K mainGlobals "cells_by_name" = some (some (.ref f3))) (l3 : K.lookup f3 = some ⟨oc3, od3, .func (PySem.W.fnOf "cells_by_name" "cells_by_name" (zG zV) (zB zV) (zg zV) .none kV3 dc3 pm3 an3 cd3 ct3), sl3⟩) (c3 : PySem.W.codeIn K cd3 "cells_by_name" = true) (k3 : PySem.W.keepIn K (.ref f3) = true)
  (a4 : PySem.W.nsIn K mainGlobals "check_names" = some (some (.ref f4))) (l4 : K.lookup f4 = some ⟨oc4, od4, .func (PySem.W.fnOf "check_names" "check_names" (zG qJ) (zB qJ) (zg qJ) .none kV4 dc4 pm4 an4 cd4 ct4), sl4⟩) (c4 : PySem.W.codeIn K cd4 "check_names" = true) (k4 : PySem.W.keepIn K (.ref f4) = true)
  (a5 : PySem.W.nsIn K mainGlobals "check_letters" = some (some (.ref f5))) (l5 : K.lookup f5 = some ⟨oc5, od5, .func (PySem.W.fnOf "check_letters" "check_letters" (zG qg) (zB qg) (zg qg) .none kV5 dc5 pm5 an5 cd5 ct5), sl5⟩) (c5 : PySem.W.codeIn K cd5 "check_letters" = true) (k5 : PySem.W.keepIn K (.ref f5) = true)
  (a6 : PySem.W.nsIn K mainGlobals "column_from" = some (some (.ref f6))) (l6 : K.lookup f6 = some ⟨oc6, od6, .func (PySem.W.fnOf "column_from" "column_from" (zG zT) (zB zT) (zg zT) .none kV6 dc6 pm6 an6 cd6 ct6), sl6⟩) (c6 : PySem.W.codeIn K cd6 "column_from" = true) (k6 : PySem.W.keepIn K (.ref f6) = true)
  (a7 : PySem.W.nsIn K mainGlobals "line_column" = some (some (.ref f7))) (l7 : K.lookup f7 = some ⟨oc7, od7, .func (PySem.W.fnOf "line_column" "line_column" (zG qp) (zB qp) (zg qp) .none kV7 dc7 pm7 an7 cd7 ct7), sl7⟩) (c7 : PySem.W.codeIn K cd7 "line_column" = true) (k7 : PySem.W.keepIn K (.ref f7) = true)
  (a8 : PySem.W.nsIn K mainGlobals "renumbered" = some (some (.ref f8))) (l8 : K.lookup f8 = some ⟨oc8, od8, .func (PySem.W.fnOf "renumbered" "renumbered" (zG qF) (zB qF) (zg qF) .none kV8 dc8 pm8 an8 cd8 ct8), sl8⟩) (c8 : PySem.W.codeIn K cd8 "renumbered" = true) (k8 : PySem.W.keepIn K (.ref f8) = true)
  (a9 : PySem.W.nsIn K mainGlobals "needed_alone" = some (some (.ref f9))) (l9 : K.lookup f9 = some ⟨oc9, od9, .func (PySem.W.fnOf "needed_alone" "needed_alone" (zG qd) (zB qd) (zg qd) .none kV9 dc9 pm9 an9 cd9 ct9), sl9⟩) (c9 : PySem.W.codeIn K cd9 "needed_alone" = true) (k9 : PySem.W.keepIn K (.ref f9) = true)
  (a10 : PySem.W.nsIn K mainGlobals "column_of" = some (some (.ref f10))) (l10 : K.lookup f10 = some ⟨oc10, od10, .func (PySem.W.fnOf "column_of" "column_of" (zG qP) (zB qP) (zg qP) .none kV10 dc10 pm10 an10 cd10 ct10), sl10⟩) (c10 : PySem.W.codeIn K cd10 "column_of" = true) (k10 : PySem.W.keepIn K (.ref f10) = true)
  (a11 : PySem.W.nsIn K mainGlobals "keep" = some (some (.ref f11))) (l11 : K.lookup f11 = some ⟨oc11, od11, .func (PySem.W.fnOf "keep" "keep" (zG QX) (zB QX) (zg QX) .none kV11 dc11 pm11 an11 cd11 ct11), sl11⟩) (c11 : PySem.W.codeIn K cd11 "keep" = true) (k11 : PySem.W.keepIn K (.ref f11) = true)
  (a12 : PySem.W.nsIn K mainGlobals "lines_without_parts" = some (some (.ref f12))) (l12 : K.lookup f12 = some ⟨oc12, od12, .func (PySem.W.fnOf "lines_without_parts" "lines_without_parts" (zG zC) (zB zC) (zg zC) .none kV12 dc12 pm12 an12 cd12 ct12), sl12⟩) (c12 : PySem.W.codeIn K cd12 "lines_without_parts" = true) (k12 : PySem.W.keepIn K (.ref f12) = true)
  (a13 : PySem.W.nsIn K mainGlobals "lines_with" = some (some (.ref f13))) (l13 : K.lookup f13 = some ⟨oc13, od13, .func (PySem.W.fnOf "lines_with" "lines_with" (zG qj) (zB qj) (zg qj) .none kV13 dc13 pm13 an13 cd13 ct13), sl13⟩) (c13 : PySem.W.codeIn K cd13 "lines_with" = true) (k13 : PySem.W.keepIn K (.ref f13) = true)
  (a14 : PySem.W.nsIn K mainGlobals "all_sayable" = some (some (.ref f14))) (l14 : K.lookup f14 = some ⟨oc14, od14, .func (PySem.W.fnOf "all_sayable" "all_sayable" (zG qK) (zB qK) (zg qK) .none kV14 dc14 pm14 an14 cd14 ct14), sl14⟩) (c14 : PySem.W.codeIn K cd14 "all_sayable" = true) (k14 : PySem.W.keepIn K (.ref f14) = true)
  (a15 : PySem.W.nsIn K mainGlobals "sayable" = some (some (.ref f15))) (l15 : K.lookup f15 = some ⟨oc15, od15, .func (PySem.W.fnOf "sayable" "sayable" (zG jL) (zB jL) (zg jL) .none kV15 dc15 pm15 an15 cd15 ct15), sl15⟩) (c15 : PySem.W.codeIn K cd15 "sayable" = true) (k15 : PySem.W.keepIn K (.ref f15) = true)
  (a16 : PySem.W.nsIn K mainGlobals "_law_well" = some (some (.ref f16))) (l16 : K.lookup f16 = some ⟨oc16, od16, .func (PySem.W.fnOf "_law_well" "_law_well" (zG jq) (zB jq) (zg jq) .none kV16 dc16 pm16 an16 cd16 ct16), sl16⟩) (c16 : PySem.W.codeIn K cd16 "_law_well" = true) (k16 : PySem.W.keepIn K (.ref f16) = true)
  (a17 : PySem.W.nsIn K mainGlobals "_law_draw" = some (some (.ref f17))) (l17 : K.lookup f17 = some ⟨oc17, od17, .func (PySem.W.fnOf "_law_draw" "_law_draw" (zG jr) (zB jr) (zg jr) .none kV17 dc17 pm17 an17 cd17 ct17), sl17⟩) (c17 : PySem.W.codeIn K cd17 "_law_draw" = true) (k17 : PySem.W.keepIn K (.ref f17) = true)
  (a18 : PySem.W.nsIn K mainGlobals "_law_names" = some (some (.ref f18))) (l18 : K.lookup f18 = some ⟨oc18, od18, .func (PySem.W.fnOf "_law_names" "_law_names" (zG qG) (zB qG) (zg qG) .none kV18 dc18 pm18 an18 cd18 ct18), sl18⟩) (c18 : PySem.W.codeIn K cd18 "_law_names" = true) (k18 : PySem.W.keepIn K (.ref f18) = true)
  (a19 : PySem.W.nsIn K mainGlobals "_law_cells" = some (some (.ref f19))) (l19 : K.lookup f19 = some ⟨oc19, od19, .func (PySem.W.fnOf "_law_cells" "_law_cells" (zG qq) (zB qq) (zg qq) .none kV19 dc19 pm19 an19 cd19 ct19), sl19⟩) (c19 : PySem.W.codeIn K cd19 "_law_cells" = true) (k19 : PySem.W.keepIn K (.ref f19) = true)
  (a20 : PySem.W.nsIn K mainGlobals "_law_table" = some (some (.ref f20))) (l20 : K.lookup f20 = some ⟨oc20, od20, .func (PySem.W.fnOf "_law_table" "_law_table" (zG qQ) (zB qQ) (zg qQ) .none kV20 dc20 pm20 an20 cd20 ct20), sl20⟩) (c20 : PySem.W.codeIn K cd20 "_law_table" = true) (k20 : PySem.W.keepIn K (.ref f20) = true)
  (a21 : PySem.W.nsIn K mainGlobals "_law_cell" = some (some (.ref f21))) (l21 : K.lookup f21 = some ⟨oc21, od21, .func (PySem.W.fnOf "_law_cell" "_law_cell" (zG js) (zB js) (zg js) .none kV21 dc21 pm21 an21 cd21 ct21), sl21⟩) (c21 : PySem.W.codeIn K cd21 "_law_cell" = true) (k21 : PySem.W.keepIn K (.ref f21) = true)
  (a22 : PySem.W.nsIn K mainGlobals "_law_lines" = some (some (.ref f22))) (l22 : K.lookup f22 = some ⟨oc22, od22, .func (PySem.W.fnOf "_law_lines" "_law_lines" (zG qR) (zB qR) (zg qR) .none kV22 dc22 pm22 an22 cd22 ct22), sl22⟩) (c22 : PySem.W.codeIn K cd22 "_law_lines" = true) (k22 : PySem.W.keepIn K (.ref f22) = true)
  (a23 : PySem.W.nsIn K mainGlobals "_law_grades" = some (some (.ref f23))) (l23 : K.lookup f23 = some ⟨oc23, od23, .func (PySem.W.fnOf "_law_grades" "_law_grades" (zG qk) (zB qk) (zg qk) .none kV23 dc23 pm23 an23 cd23 ct23), sl23⟩) (c23 : PySem.W.codeIn K cd23 "_law_grades" = true) (k23 : PySem.W.keepIn K (.ref f23) = true)
  (a24 : PySem.W.nsIn K mainGlobals "_law_columns" = some (some (.ref f24))) (l24 : K.lookup f24 = some ⟨oc24, od24, .func (PySem.W.fnOf "_law_columns" "_law_columns" (zG qr) (zB qr) (zg qr) .none kV24 dc24 pm24 an24 cd24 ct24), sl24⟩) (c24 : PySem.W.codeIn K cd24 "_law_columns" = true) (k24 : PySem.W.keepIn K (.ref f24) = true)
  (a25 : PySem.W.nsIn K mainGlobals "_law_asked" = some (some (.ref f25))) (l25 : K.lookup f25 = some ⟨oc25, od25, .func (PySem.W.fnOf "_law_asked" "_law_asked" (zG jd) (zB jd) (zg jd) .none kV25 dc25 pm25 an25 cd25 ct25), sl25⟩) (c25 : PySem.W.codeIn K cd25 "_law_asked" = true) (k25 : PySem.W.keepIn K (.ref f25) = true)
  (a26 : PySem.W.nsIn K mainGlobals "_law_unsaid" = some (some (.ref f26))) (l26 : K.lookup f26 = some ⟨oc26, od26, .func (PySem.W.fnOf "_law_unsaid" "_law_unsaid" (zG ql) (zB ql) (zg ql) .none kV26 dc26 pm26 an26 cd26 ct26), sl26⟩) (c26 : PySem.W.codeIn K cd26 "_law_unsaid" = true) (k26 : PySem.W.keepIn K (.ref f26) = true)
  (a27 : PySem.W.nsIn K mainGlobals "_law_right" = some (some (.ref f27))) (l27 : K.lookup f27 = some ⟨oc27, od27, .func (PySem.W.fnOf "_law_right" "_law_right" (zG qt) (zB qt) (zg qt) .none kV27 dc27 pm27 an27 cd27 ct27), sl27⟩) (c27 : PySem.W.codeIn K cd27 "_law_right" = true) (k27 : PySem.W.keepIn K (.ref f27) = true)
  (a28 : PySem.W.nsIn K mainGlobals "law" = some (some (.ref f28))) (l28 : K.lookup f28 = some ⟨oc28, od28, .func (PySem.W.fnOf "law" "law" (zG QH) (zB QH) (zg QH) .none kV28 dc28 pm28 an28 cd28 ct28), sl28⟩) (c28 : PySem.W.codeIn K cd28 "law" = true) (k28 : PySem.W.keepIn K (.ref f28) = true)
  (z0 : PySem.W.nsIn K mainGlobals "abs" = some none)
  (z1 : PySem.W.nsIn K mainGlobals "range" = some none)
  (z2 : PySem.W.nsIn K mainGlobals "tuple" = some none)
  (z3 : PySem.W.nsIn K mainGlobals "list" = some none)
  (z4 : PySem.W.nsIn K mainGlobals "isinstance" = some none)
  (z5 : PySem.W.nsIn K mainGlobals "int" = some none)
  (z6 : PySem.W.nsIn K mainGlobals "str" = some none)
  (z7 : PySem.W.nsIn K mainGlobals "len" = some none)
  (z8 : PySem.W.nsIn K mainGlobals "min" = some none)
  (z9 : PySem.W.nsIn K mainGlobals "max" = some none)
  (z10 : PySem.W.nsIn K mainGlobals "all" = some none)
  (z11 : PySem.W.nsIn K mainGlobals "any" = some none)
  (z12 : PySem.W.nsIn K mainGlobals "bool" = some none)
  (z13 : PySem.W.nsIn K mainGlobals "divmod" = some none)
  (z14 : PySem.W.nsIn K mainGlobals "dict" = some none)
  (z15 : PySem.W.nsIn K mainGlobals "sorted" = some none)
  (z16 : PySem.W.nsIn K mainGlobals "reversed" = some none)
  (z17 : PySem.W.nsIn K mainGlobals "zip" = some none)
  (z18 : PySem.W.nsIn K mainGlobals "set" = some none)
  {yt0 : Tok} (y0 : PySem.W.nsIn K mainGlobals "MOST_COLUMNS" = some (some (.int 81 yt0)))
  (g0 : PySem.W.nsIn K mainGlobals "TooMany" = some (some (.ref cc0)))
  : ∃ fd : FuncData, (∀ (s : Shared) (v : Value), BindsTo s fd ⟨[v], []⟩ [("_law_script", v)]) /\ ∀ base : Heap, K.In base -> base.Ns mainGlobals mg -> jY l.prog w K mg base CX0 9 fa fd ["_law_script"] (spLaw K) := by
 have e := hfa.symm.trans (PySem.W.mg_of X G a28)
 cases e
 have F0 := zY (st := zu) l0 c0 k0
 have b0 := F0.binds (ps := ["text"]) fun _ _ _ _ _ _ us hl => by obtain ⟨z0_, rfl⟩ := wu hl; rfl
 have F1 := zY (st := jc) l1 c1 k1
 have b1 := F1.binds (ps := ["thing"]) fun _ _ _ _ _ _ us hl => by obtain ⟨z0_, rfl⟩ := wu hl; rfl
 have F2 := zY (st := qx) l2 c2 k2
 have b2 := F2.binds (ps := ["lines"]) fun _ _ _ _ _ _ us hl => by obtain ⟨z0_, rfl⟩ := wu hl; rfl
 have F3 := zY (st := zV) l3 c3 k3
 have b3 := F3.binds (ps := ["H"]) fun _ _ _ _ _ _ us hl => by obtain ⟨z0_, rfl⟩ := wu hl; rfl
 have F4 := zY (st := qJ) l4 c4 k4
 have b4 := F4.binds (ps := ["shapes", "parts"]) fun _ _ _ _ _ _ us hl => by obtain ⟨z0_, z1_, rfl⟩ := Wp hl; rfl
 have F5 := zY (st := qg) l5 c5 k5
 have b5 := F5.binds (ps := ["parts", "known"]) fun _ _ _ _ _ _ us hl => by obtain ⟨z0_, z1_, rfl⟩ := Wp hl; rfl
 have F6 := zY (st := zT) l6 c6 k6
 have b6 := F6.binds (ps := ["cells", "many", "columns", "length"]) fun _ _ _ _ _ _ us hl => by obtain ⟨z0_, z1_, z2_, z3_, rfl⟩ := lenK4 hl; rfl
 have F7 := zY (st := qp) l7 c7 k7
 have b7 := F7.binds (ps := ["T", "cells", "ahead", "line", "length"]) fun _ _ _ _ _ _ us hl => by obtain ⟨z0_, z1_, z2_, z3_, z4_, rfl⟩ := lenK5 hl; rfl
 have F8 := zY (st := qF) l8 c8 k8
 have b8 := F8.binds (ps := ["line", "numbers"]) fun _ _ _ _ _ _ us hl => by obtain ⟨z0_, z1_, rfl⟩ := Wp hl; rfl
 have F9 := zY (st := qd) l9 c9 k9
 have b9 := F9.binds (ps := ["lines"]) fun _ _ _ _ _ _ us hl => by obtain ⟨z0_, rfl⟩ := wu hl; rfl
 have F10 := zY (st := qP) l10 c10 k10
 have b10 := F10.binds (ps := ["T", "columns", "lines"]) fun _ _ _ _ _ _ us hl => by obtain ⟨z0_, z1_, z2_, rfl⟩ := Jz hl; rfl
 have F11 := zY (st := QX) l11 c11 k11
 have b11 := F11.binds (ps := ["found", "column", "line"]) fun _ _ _ _ _ _ us hl => by obtain ⟨z0_, z1_, z2_, rfl⟩ := Jz hl; rfl
 have F12 := zY (st := zC) l12 c12 k12
 have b12 := F12.binds (ps := ["T"]) fun _ _ _ _ _ _ us hl => by obtain ⟨z0_, rfl⟩ := wu hl; rfl
 have F13 := zY (st := qj) l13 c13 k13
 have b13 := F13.binds (ps := ["T", "number"]) fun _ _ _ _ _ _ us hl => by obtain ⟨z0_, z1_, rfl⟩ := Wp hl; rfl
 have F14 := zY (st := qK) l14 c14 k14
 have b14 := F14.binds (ps := ["T", "columns", "length"]) fun _ _ _ _ _ _ us hl => by obtain ⟨z0_, z1_, z2_, rfl⟩ := Jz hl; rfl
 have F15 := zY (st := jL) l15 c15 k15
 have b15 := F15.binds (ps := ["T", "columns", "wish"]) fun _ _ _ _ _ _ us hl => by obtain ⟨z0_, z1_, z2_, rfl⟩ := Jz hl; rfl
 have F16 := zY (st := jq) l16 c16 k16
 have b16 := F16.binds (ps := ["_law_script", "_law_place"]) fun _ _ _ _ _ _ us hl => by obtain ⟨z0_, z1_, rfl⟩ := Wp hl; rfl
 have F17 := zY (st := jr) l17 c17 k17
 have b17 := F17.binds (ps := ["_law_well_here", "_law_many"]) fun _ _ _ _ _ _ us hl => by obtain ⟨z0_, z1_, rfl⟩ := Wp hl; rfl
 have F18 := zY (st := qG) l18 c18 k18
 have b18 := F18.binds (ps := ["_law_well_here", "_law_many"]) fun _ _ _ _ _ _ us hl => by obtain ⟨z0_, z1_, rfl⟩ := Wp hl; rfl
 have F19 := zY (st := qq) l19 c19 k19
 have b19 := F19.binds (ps := ["_law_well_here", "_law_many", "_law_places"]) fun _ _ _ _ _ _ us hl => by obtain ⟨z0_, z1_, z2_, rfl⟩ := Jz hl; rfl
 have F20 := zY (st := qQ) l20 c20 k20
 have b20 := F20.binds (ps := ["_law_well_here", "_law_most", "_law_some"]) fun _ _ _ _ _ _ us hl => by obtain ⟨z0_, z1_, z2_, rfl⟩ := Jz hl; rfl
 have F21 := zY (st := js) l21 c21 k21
 have b21 := F21.binds (ps := ["_law_many", "_law_cells_here", "_law_grades_here"]) fun _ _ _ _ _ _ us hl => by obtain ⟨z0_, z1_, z2_, rfl⟩ := Jz hl; rfl
 have F22 := zY (st := qR) l22 c22 k22
 have b22 := F22.binds (ps := ["_law_well_here", "_law_table_here", "_law_letters", "_law_more"]) fun _ _ _ _ _ _ us hl => by obtain ⟨z0_, z1_, z2_, z3_, rfl⟩ := lenK4 hl; rfl
 have F23 := zY (st := qk) l23 c23 k23
 have b23 := F23.binds (ps := ["_law_table_here", "_law_lines_here", "_law_grading"]) fun _ _ _ _ _ _ us hl => by obtain ⟨z0_, z1_, z2_, rfl⟩ := Jz hl; rfl
 have F24 := zY (st := qr) l24 c24 k24
 have b24 := F24.binds (ps := ["_law_well_here", "_law_many", "_law_size", "_law_letters"]) fun _ _ _ _ _ _ us hl => by obtain ⟨z0_, z1_, z2_, z3_, rfl⟩ := lenK4 hl; rfl
 have F25 := zY (st := jd) l25 c25 k25
 have b25 := F25.binds (ps := ["_law_table_here", "_law_columns_here", "_law_wish"]) fun _ _ _ _ _ _ us hl => by obtain ⟨z0_, z1_, z2_, rfl⟩ := Jz hl; rfl
 have F26 := zY (st := ql) l26 c26 k26
 have b26 := F26.binds (ps := ["_law_well_here", "_law_table_here", "_law_columns_here", "_law_size", "_law_kept"]) fun _ _ _ _ _ _ us hl => by obtain ⟨z0_, z1_, z2_, z3_, z4_, rfl⟩ := lenK5 hl; rfl
 have F27 := zY (st := qt) l27 c27 k27
 have b27 := F27.binds (ps := ["_law_well_here"]) fun _ _ _ _ _ _ us hl => by obtain ⟨z0_, rfl⟩ := wu hl; rfl
 have F28 := zY (st := QH) l28 c28 k28
 have b28 := F28.binds (ps := ["_law_script"]) fun _ _ _ _ _ _ us hl => by obtain ⟨z0_, rfl⟩ := wu hl; rfl
 have gb : Gb mg := ⟨PySem.W.mg_none_of X G z0, PySem.W.mg_none_of X G z1, PySem.W.mg_none_of X G z2, PySem.W.mg_none_of X G z3, PySem.W.mg_none_of X G z4, PySem.W.mg_none_of X G z5, PySem.W.mg_none_of X G z6, PySem.W.mg_none_of X G z7, PySem.W.mg_none_of X G z8, PySem.W.mg_none_of X G z9, PySem.W.mg_none_of X G z10, PySem.W.mg_none_of X G z11, PySem.W.mg_none_of X G z12, PySem.W.mg_none_of X G z13, PySem.W.mg_none_of X G z14, PySem.W.mg_none_of X G z15, PySem.W.mg_none_of X G z16, PySem.W.mg_none_of X G z17, PySem.W.mg_none_of X G z18, ⟨_, PySem.W.mg_of X G y0, _, rfl⟩⟩
 obtain ⟨c, cl⟩ : ∃ c : Nat -> Addr, Cl K mg c := ⟨fun i => [cc0].getD i 0, ⟨PySem.W.mg_of X G g0⟩⟩
 refine ⟨PySem.W.fnOf "law" "law" (zG QH) (zB QH) (zg QH) .none kV28 dc28 pm28 an28 cd28 ct28, fun s v => .of_eq rfl, fun base _ _ => ?_⟩
 have d_has_small_letters_alone : Def l.prog w K mg base 1 "has_small_letters_alone" ["text"] We := ⟨f0, _, jB F0 gb cl, PySem.W.mg_of X G a0, k0, b0⟩
 have d_is_letter : Def l.prog w K mg base 2 "is_letter" ["thing"] Qj := ⟨f1, _, we F1 gb cl d_has_small_letters_alone, PySem.W.mg_of X G a1, k1, b1⟩
 have d_needed_lines : Def l.prog w K mg base 3 "needed_lines" ["lines"] WM := ⟨f2, _, Qs F2 gb cl d_is_letter, PySem.W.mg_of X G a2, k2, b2⟩
 have d_cells_by_name : Def l.prog w K mg base 1 "cells_by_name" ["H"] spCbn := ⟨f3, _, ZP F3 gb cl, PySem.W.mg_of X G a3, k3, b3⟩
 have d_check_names : Def l.prog w K mg base 3 "check_names" ["shapes", "parts"] YL := ⟨f4, _, QC F4 gb cl d_is_letter, PySem.W.mg_of X G a4, k4, b4⟩
 have d_check_letters : Def l.prog w K mg base 3 "check_letters" ["parts", "known"] YM := ⟨f5, _, ZQ F5 gb cl d_is_letter, PySem.W.mg_of X G a5, k5, b5⟩
 have d_column_from : Def l.prog w K mg base 1 "column_from" ["cells", "many", "columns", "length"] YN := ⟨f6, _, QD F6 gb cl, PySem.W.mg_of X G a6, k6, b6⟩
 have d_line_column : Def l.prog w K mg base 2 "line_column" ["T", "cells", "ahead", "line", "length"] Jk := ⟨f7, _, QE F7 gb cl d_column_from, PySem.W.mg_of X G a7, k7, b7⟩
 have d_renumbered : Def l.prog w K mg base 3 "renumbered" ["line", "numbers"] Wi := ⟨f8, _, Jv F8 gb cl d_is_letter, PySem.W.mg_of X G a8, k8, b8⟩
 have d_needed_alone : Def l.prog w K mg base 4 "needed_alone" ["lines"] Jm := ⟨f9, _, Qt F9 gb cl d_needed_lines d_renumbered, PySem.W.mg_of X G a9, k9, b9⟩
 have d_column_of : Def l.prog w K mg base 5 "column_of" ["T", "columns", "lines"] Wj := ⟨f10, _, wf F10 gb cl d_needed_lines d_cells_by_name d_check_names d_check_letters d_needed_alone d_is_letter d_line_column, PySem.W.mg_of X G a10, k10, b10⟩
 have d_keep : Def l.prog w K mg base 1 "keep" ["found", "column", "line"] WQ := ⟨f11, _, ok_keep F11 gb cl, PySem.W.mg_of X G a11, k11, b11⟩
 have d_lines_without_parts : Def l.prog w K mg base 1 "lines_without_parts" ["T"] Jp := ⟨f12, _, j4 F12 gb cl, PySem.W.mg_of X G a12, k12, b12⟩
 have d_lines_with : Def l.prog w K mg base 1 "lines_with" ["T", "number"] Jq := ⟨f13, _, Jw F13 gb cl, PySem.W.mg_of X G a13, k13, b13⟩
 have d_all_sayable : Def l.prog w K mg base 4 "all_sayable" ["T", "columns", "length"] Jr := ⟨f14, _, QF F14 gb cl d_cells_by_name d_keep d_line_column d_lines_without_parts d_lines_with, PySem.W.mg_of X G a14, k14, b14⟩
 have d_sayable : Def l.prog w K mg base 5 "sayable" ["T", "columns", "wish"] Wl := ⟨f15, _, yt F15 gb cl d_all_sayable d_needed_alone, PySem.W.mg_of X G a15, k15, b15⟩
 have d_law_well : Def l.prog w K mg base 1 "_law_well" ["_law_script", "_law_place"] (YG K) := ⟨f16, _, Wm F16 gb cl, PySem.W.mg_of X G a16, k16, b16⟩
 have d_law_draw : Def l.prog w K mg base 1 "_law_draw" ["_law_well_here", "_law_many"] jQ := ⟨f17, _, Wn F17 gb cl, PySem.W.mg_of X G a17, k17, b17⟩
 have d_law_names : Def l.prog w K mg base 2 "_law_names" ["_law_well_here", "_law_many"] wZ := ⟨f18, _, wg F18 gb cl d_law_draw, PySem.W.mg_of X G a18, k18, b18⟩
 have d_law_cells : Def l.prog w K mg base 2 "_law_cells" ["_law_well_here", "_law_many", "_law_places"] Wa := ⟨f19, _, wj F19 gb cl d_law_draw, PySem.W.mg_of X G a19, k19, b19⟩
 have d_law_table : Def l.prog w K mg base 3 "_law_table" ["_law_well_here", "_law_most", "_law_some"] Wb := ⟨f20, _, wk F20 gb cl d_law_draw d_law_names d_law_cells, PySem.W.mg_of X G a20, k20, b20⟩
 have d_law_cell : Def l.prog w K mg base 1 "_law_cell" ["_law_many", "_law_cells_here", "_law_grades_here"] YH := ⟨f21, _, Wo F21 gb cl, PySem.W.mg_of X G a21, k21, b21⟩
 have d_law_lines : Def l.prog w K mg base 2 "_law_lines" ["_law_well_here", "_law_table_here", "_law_letters", "_law_more"] Wf := ⟨f22, _, wm F22 gb cl d_law_draw, PySem.W.mg_of X G a22, k22, b22⟩
 have d_law_grades : Def l.prog w K mg base 2 "_law_grades" ["_law_table_here", "_law_lines_here", "_law_grading"] Jj := ⟨f23, _, Jx F23 gb cl d_law_cell, PySem.W.mg_of X G a23, k23, b23⟩
 have d_law_columns : Def l.prog w K mg base 2 "_law_columns" ["_law_well_here", "_law_many", "_law_size", "_law_letters"] Jo := ⟨f24, _, QG F24 gb cl d_law_draw, PySem.W.mg_of X G a24, k24, b24⟩
 have d_law_asked : Def l.prog w K mg base 6 "_law_asked" ["_law_table_here", "_law_columns_here", "_law_wish"] Wl := ⟨f25, _, wo F25 gb cl d_sayable, PySem.W.mg_of X G a25, k25, b25⟩
 have d_law_unsaid : Def l.prog w K mg base 7 "_law_unsaid" ["_law_well_here", "_law_table_here", "_law_columns_here", "_law_size", "_law_kept"] Jt := ⟨f26, _, Jy F26 gb cl d_law_draw d_law_asked, PySem.W.mg_of X G a26, k26, b26⟩
 have d_law_right : Def l.prog w K mg base 8 "_law_right" ["_law_well_here"] Qr := ⟨f27, _, wq F27 gb cl d_law_table d_law_draw d_law_columns d_law_lines d_law_grades d_law_asked d_column_of d_law_unsaid, PySem.W.mg_of X G a27, k27, b27⟩
 exact ok_law F28 gb cl d_law_right d_law_well
theorem walk {l : PySem.W.OpenLaw} {q : Program} {loose : List Str} {XP : (Str -> Option Value) -> Heap -> Prop} {YP : World -> Heap -> Prop} {d : DefRec} {K : Params -> PySem.W.Frag} (hn : l.most = some 63) (hdf : d.params.defaults = [])
  (hY : ∀ (w : World) (h : Heap), YP w h -> (K w.params).In h)
  (F : ∀ (w : World) (mg : Str -> Option Value) (fa : Addr) (h : Heap), (K w.params).In h -> h.Ns mainGlobals mg -> mg d.name = some (.ref fa) ->
   ∃ fd : FuncData, (∀ (s : Shared) (u : Value), BindsTo s fd ⟨[u], []⟩ [("_law_script", u)]) /\ ∀ base : Heap, (K w.params).In base -> base.Ns mainGlobals mg -> jY l.prog w (K w.params) mg base CX0 9 fa fd ["_law_script"] (spLaw (K w.params))) :
  PySem.W.WalkO q loose XP YP l.row.toRowW d [] (fun f vs => PySem.call f vs) :=
 L2.yW (n := 63) (k := 9) (x := "_law_script") (CX := fun _ => CX0) (sp := fun w => spLaw (K w.params)) hn (by decide) hdf ⟨rfl, by decide, by decide⟩ hY F (fun _ _ a ns hl _ hS => ⟨a, ns, rfl, hS, hl, fun _ => rfl⟩) fun _ _ _ _ _ z => z
end K27
open PySem PySem.W PyProof.Rows
-- This name is taken so that no faster copy of the heap's constant is laid by the head: nothing in the proof uses
-- that copy, and with it the compiled file has over 64 MB. The proof does not use the name either.
theorem PySem.W.Fast.tw150895137291655971 : True := trivial
set_option maxRecDepth 100000 in
set_option maxHeartbeats 0 in
theorem PySem.Challenge.cw_truthgrades_k27_whole_what_is_said_holds : PySem.Challenge.rw_truthgrades_k27_whole_what_is_said.Holds := by
 w_on; o_law; k_head; (case hw => w_witness2)
 k_fill
 refine K27.walk (l := PySem.Challenge.rw_truthgrades_k27_whole_what_is_said) rfl rfl (fun w h Y => PySem.W.kIn_of Y) ?F
 case F =>
  intro w mg fa h KX G hmg
  refine' K27.all_mk KX G hmg ?a0 ?l0 ?c0 ?k0 ?a1 ?l1 ?c1 ?k1 ?a2 ?l2 ?c2 ?k2 ?a3 ?l3 ?c3 ?k3 ?a4 ?l4 ?c4 ?k4 ?a5 ?l5 ?c5 ?k5 ?a6 ?l6 ?c6 ?k6 ?a7 ?l7 ?c7 ?k7 ?a8 ?l8 ?c8 ?k8 ?a9 ?l9 ?c9 ?k9 ?a10 ?l10 ?c10 ?k10 ?a11 ?l11 ?c11 ?k11 ?a12 ?l12 ?c12 ?k12 ?a13 ?l13 ?c13 ?k13 ?a14 ?l14 ?c14 ?k14 ?a15 ?l15 ?c15 ?k15 ?a16 ?l16 ?c16 ?k16 ?a17 ?l17 ?c17 ?k17 ?a18 ?l18 ?c18 ?k18 ?a19 ?l19 ?c19 ?k19 ?a20 ?l20 ?c20 ?k20 ?a21 ?l21 ?c21 ?k21 ?a22 ?l22 ?c22 ?k22 ?a23 ?l23 ?c23 ?k23 ?a24 ?l24 ?c24 ?k24 ?a25 ?l25 ?c25 ?k25 ?a26 ?l26 ?c26 ?k26 ?a27 ?l27 ?c27 ?k27 ?a28 ?l28 ?c28 ?k28 ?z0 ?z1 ?z2 ?z3 ?z4 ?z5 ?z6 ?z7 ?z8 ?z9 ?z10 ?z11 ?z12 ?z13 ?z14 ?z15 ?z16 ?z17 ?z18 ?y0 ?gg0
  (case a0 => k_is); (case l0 => k_is); (case c0 => k_is); (case k0 => k_is)
  (case a1 => k_is); (case l1 => k_is); (case c1 => k_is); (case k1 => k_is)
  (case a2 => k_is); (case l2 => k_is); (case c2 => k_is); (case k2 => k_is)
  (case a3 => k_is); (case l3 => k_is); (case c3 => k_is); (case k3 => k_is)
  (case a4 => k_is); (case l4 => k_is); (case c4 => k_is); (case k4 => k_is)
  (case a5 => k_is); (case l5 => k_is); (case c5 => k_is); (case k5 => k_is)
  (case a6 => k_is); (case l6 => k_is); (case c6 => k_is); (case k6 => k_is)
  (case a7 => k_is); (case l7 => k_is); (case c7 => k_is); (case k7 => k_is)
  (case a8 => k_is); (case l8 => k_is); (case c8 => k_is); (case k8 => k_is)
  (case a9 => k_is); (case l9 => k_is); (case c9 => k_is); (case k9 => k_is)
  (case a10 => k_is); (case l10 => k_is); (case c10 => k_is); (case k10 => k_is)
  (case a11 => k_is); (case l11 => k_is); (case c11 => k_is); (case k11 => k_is)
  (case a12 => k_is); (case l12 => k_is); (case c12 => k_is); (case k12 => k_is)
  (case a13 => k_is); (case l13 => k_is); (case c13 => k_is); (case k13 => k_is)
  (case a14 => k_is); (case l14 => k_is); (case c14 => k_is); (case k14 => k_is)
  (case a15 => k_is); (case l15 => k_is); (case c15 => k_is); (case k15 => k_is)
  (case a16 => k_is); (case l16 => k_is); (case c16 => k_is); (case k16 => k_is)
  (case a17 => k_is); (case l17 => k_is); (case c17 => k_is); (case k17 => k_is)
  (case a18 => k_is); (case l18 => k_is); (case c18 => k_is); (case k18 => k_is)
  (case a19 => k_is); (case l19 => k_is); (case c19 => k_is); (case k19 => k_is)
  (case a20 => k_is); (case l20 => k_is); (case c20 => k_is); (case k20 => k_is)
  (case a21 => k_is); (case l21 => k_is); (case c21 => k_is); (case k21 => k_is)
  (case a22 => k_is); (case l22 => k_is); (case c22 => k_is); (case k22 => k_is)
  (case a23 => k_is); (case l23 => k_is); (case c23 => k_is); (case k23 => k_is)
  (case a24 => k_is); (case l24 => k_is); (case c24 => k_is); (case k24 => k_is)
  (case a25 => k_is); (case l25 => k_is); (case c25 => k_is); (case k25 => k_is)
  (case a26 => k_is); (case l26 => k_is); (case c26 => k_is); (case k26 => k_is)
  (case a27 => k_is); (case l27 => k_is); (case c27 => k_is); (case k27 => k_is)
  (case a28 => k_is); (case l28 => k_is); (case c28 => k_is); (case k28 => k_is)
  (case z0 => k_is)
  (case z1 => k_is)
  (case z2 => k_is)
  (case z3 => k_is)
  (case z4 => k_is)
  (case z5 => k_is)
  (case z6 => k_is)
  (case z7 => k_is)
  (case z8 => k_is)
  (case z9 => k_is)
  (case z10 => k_is)
  (case z11 => k_is)
  (case z12 => k_is)
  (case z13 => k_is)
  (case z14 => k_is)
  (case z15 => k_is)
  (case z16 => k_is)
  (case z17 => k_is)
  (case z18 => k_is)
  (case y0 => k_is)
  (case gg0 => k_is)
