import PyProof.Rows.All
import Wide.All
import OpenK.AllK
import Wide.FinOn
import Lean
import PyProof.EqAt
import PyProof.EqKinds
import PyProof.TupleCall
import PySem.Challenge.RW_truthgrades_k42_chain_grades_refused
set_option bootstrap.genMatcherCode false
set_option genSizeOfSpec false
local macro_rules | `(tactic| omega) => `(tactic| lia)
set_option maxHeartbeats 4000000
set_option maxRecDepth 100000
set_option linter.all false
set_option Elab.async false
abbrev AA:=@PySem.wpAny_bind
abbrev AB:=@PySem.wpAny_pure
abbrev AC:=@PySem.Heap.get?_push_of_some
abbrev AD:=@List.getElem?_eq_some_iff
abbrev AE:=@List.getElem?_eq_getElem
abbrev AF:=@List.length_map
abbrev AG:=@Nat.le_refl
abbrev AH:=@List.mem_of_getElem?
abbrev AI:=@PySem.Heap.lt_size
abbrev AJ:=@List.mem_singleton
abbrev AK:=@Bool.false_ne_true
abbrev AM:=@PySem.Heap.get?_push_size
abbrev AN:=@Nat.lt_of_lt_of_le
abbrev AO:=@Option.some.inj
abbrev AQ:=@decide_eq_false
abbrev AR:=@List.length_append
abbrev AS:=@decide_eq_true
abbrev AU:=@List.map_append
abbrev AV:=@List.mem_cons_of_mem
abbrev AW:=@Nat.ne_of_lt
abbrev AX:=@List.mem_append_right
abbrev AY:=@List.size_toArray
abbrev AZ:=@List.mem_cons
abbrev Aa:=@PySem.W.mg_none_of
abbrev Ab:=@Nat.le_trans
abbrev Ac:=@PySem.Paired.length
abbrev Ad:=@PySem.W.mg_of
abbrev Ae:=@List.mem_append
abbrev Af:=@PySem.F.excBase_ValueError
abbrev Ag:=@List.map_cons
abbrev Ah:=@List.take_of_length_le
abbrev Ai:=@List.mem_cons_self
abbrev Aj:=@PySem.wpAny_newObj_type
abbrev Ak:=@PySem.W.kia_one
abbrev Al:=@List.length_take
abbrev Am:=@of_decide_eq_true
abbrev An:=@List.getElem?_map
abbrev Ao:=@PySem.F.plainAttrs_list
abbrev Ap:=@PyProof.Rows.slot_tuple_getitem
abbrev Aq:=@PySem.W.looks_findIn
abbrev Ar:=@Option.map_eq_some_iff
abbrev As:=@PySem.mem_of_lookup
abbrev Au:=@PySem.wpAny_typeOf_ref
abbrev Av:=@PySem.wpAny_of_eq
abbrev Aw:=@PySem.wpAny_holding
abbrev Ax:=@Nat.zero_le
abbrev Ay:=@List.length_cons
abbrev Az:=@Bool.and_eq_true
abbrev A0:=@PySem.PassesOwn.never
abbrev A1:=@Nat.lt_irrefl
abbrev A2:=@PySem.wpAny_field
abbrev A3:=@Ne.symm
abbrev A4:=@PySem.wpAny_mono
abbrev A5:=@List.all_eq_true
abbrev A6:=@List.mem_append_left
abbrev A7:=@PySem.Heap.get?_update_self
abbrev A8:=@List.replicate_succ
abbrev A9:=@PyProof.Rows.callWith_type1
abbrev BA:=@List.any_cons
abbrev BB:=@congrArg
abbrev BC:=@List.getD_eq_getElem?_getD
abbrev BD:=@PySem.Heap.get?_update_other
abbrev BE:=@List.getElem?_append_left
abbrev BF:=@Int.emod_nonneg
abbrev BG:=@PySem.wpAny_truthy_bool
abbrev BH:=@List.length_drop
abbrev BI:=@PySem.Heap.get?_none_of_le
abbrev BJ:=@PySem.wpAny_call_entry
abbrev BK:=@List.mem_filter
abbrev BL:=@List.mem_iff_getElem?
abbrev BM:=@PySem.wpAny_specialOf
abbrev BN:=@PySem.wpAny_passesOwn
abbrev BO:=@Nat.pow_le_pow_right
abbrev BP:=@List.getElem?_append_right
abbrev BQ:=@PySem.wpAny_attempt
abbrev BR:=@Nat.lt_or_ge
abbrev BS:=@List.mem_map
abbrev BU:=@Int.natCast_emod
abbrev BV:=@List.length_reverse
abbrev BW:=@PySem.wpAny_call
abbrev BX:=@PySem.codeAny_call_builtin
abbrev BY:=@PySem.F.type_list_append
abbrev BZ:=@PySem.F.slot_list_append
abbrev Ba:=@List.all_cons
abbrev Bb:=@Nat.not_lt_zero
abbrev Bc:=@List.append_nil
abbrev Bd:=@Nat.ne_of_gt
abbrev Be:=@Nat.lt_succ_of_lt
abbrev Bf:=@List.mem_range
abbrev Bg:=@List.flatten_cons
abbrev Bh:=@PySem.wpAny_ite_split
abbrev Bi:=@PySem.wpAny_Call_Name_kw
abbrev Bj:=@PySem.Calls.spliced_cons
abbrev Bk:=@PySem.wpAny_getItem_str_slice
abbrev Bl:=@PySem.isSubtype_type
abbrev Bm:=@PySem.Calls.callWith_builtin
abbrev Bo:=@PySem.builtinLookup_eq_fast
abbrev Bp:=@Int.toNat_of_nonneg
abbrev Bq:=@PySem.wpAny_rule
abbrev Br:=@Nat.le_of_lt
abbrev Bs:=@List.idxOf_lt_length_of_mem
abbrev Bt:=@PySem.Txt.slice_le
abbrev Bu:=@Nat.lt_of_le_of_lt
abbrev Bv:=@List.contains_cons
abbrev Bw:=@Int.emod_lt_of_pos
abbrev Bx:=@PySem.Calls.evalArgs_plain
abbrev By:=@PySem.wpAny_execs_nil
abbrev Bz:=@PySem.wpAny_isSubtype_exc
abbrev B1:=@Int.toNat_natCast
abbrev B2:=@PySem.Heap.get?_update_ne
abbrev B3:=@PySem.codeAny_mono
abbrev B4:=@PySem.F.args_tuple_add_2
abbrev B5:=@Option.isSome_iff_exists
abbrev B6:=@PySem.wpAny_setField
abbrev B7:=@PySem.tupleKind_room_in1
abbrev B8:=@PySem.F.entry_tuple_add
abbrev B9:=@PySem.Obj.data_mapFields
abbrev CA:=@List.lookup_cons
abbrev CB:=@PySem.Heap.size_push
abbrev CC:=@PySem.F.slot_tuple_add
abbrev CD:=@Nat.pow_succ
abbrev CF:=@Nat.mod_lt
abbrev CG:=@List.range_succ_eq_map
abbrev CH:=@List.getElem?_set_self
abbrev CI:=@PySem.wpAny_loadPart_at
abbrev CJ:=@Option.map_some
abbrev CK:=@List.of_mem_zip
abbrev CL:=@List.nodup_cons
abbrev CM:=@PySem.Calls.spliced_nil
abbrev CN:=@Bool.eq_iff_iff
abbrev CO:=@PySem.F.slot_dict_get
abbrev CP:=@PySem.wpAny_isInstance
abbrev CQ:=@Sum.inr.inj
abbrev CS:=@PySem.W.hideAll_none
abbrev CT:=@Nat.le_succ
abbrev CU:=@List.getElem?_set_ne
abbrev CV:=@PySem.wpAny_typeOf
abbrev CW:=@PySem.call_meets
abbrev CY:=@PySem.typeLookup_type
abbrev CZ:=@PySem.post_val_or_str
abbrev Ca:=@PySem.codeAny_builtin
abbrev Cb:=@PySem.W.callWith_K
abbrev Cc:=@List.zip_cons_cons
abbrev Cd:=@List.mem_filterMap
abbrev Ce:=@Option.isSome_map
abbrev Cf:=@List.map_nil
abbrev Cg:=@List.all_map
abbrev Ci:=@Bool.or_true
abbrev Cj:=@PyProof.Rows.callWith_builtin1
abbrev Ck:=@Nat.succ_le_succ
abbrev Cm:=@PySem.Heap.SameBut.update
abbrev Co:=@PySem.wpAny_standAt
abbrev Cp:=@List.sum_append
abbrev Cq:=@PySem.Code.quiet_builtin
abbrev Cr:=@Rat.mul_lt_mul_of_pos_right
abbrev Cs:=@PySem.wpAny_pyIter_list
abbrev Ct:=@PySem.F.slot_tuple_getitem
abbrev Cu:=@Int.natAbs_mul
abbrev Cv:=@Array.getElem?_eq_some_iff
namespace L2
open PySem PySem.Spec PyProof.Rows
abbrev Key:=Sum Int Str
def Wa:Key->Value->Bool
 | .inl k,v=>Value.isInt k v
 | .inr x,v=>Value.isStrOf x v
def keyH (w:World):Key->Int
 | .inl k=>hashInt k
 | .inr x=>hashStr w x
theorem zL:∀ {k:Key} {v:Value},Wa k v=true->(∃ i t,k=Sum.inl i/\v=Value.int i t)\/(∃ x t,k=Sum.inr x/\v=Value.str x t)
 | .inl i,v,h=>by
  obtain⟨t,e⟩:=Value.isInt_shape (k:=i) (v:=v) h
  exact .inl ⟨i,t,rfl,e⟩
 | .inr x,v,h=>by
  obtain⟨t,e⟩:=Value.isStrOf_shape (x:=x) (v:=v) h
  exact .inr ⟨x,t,rfl,e⟩
theorem WD (i:Int) (t:Tok):Wa (.inl i) (.int i t)=true:=by simp[Wa,Value.isInt]
theorem WE (x:Str) (t:Tok):Wa (.inr x) (.str x t)=true:=by simp[Wa,Value.isStrOf]
theorem key_ll (a b:Int):decide ((Sum.inl a:Key)=Sum.inl b)=(a == b):=by
 by_cases e:a=b
 ·subst e;simp
 ·have h:¬ (Sum.inl a:Key)=Sum.inl b:=fun q=>e (Sum.inl.inj q)
  rw[AQ h]
  exact (beq_eq_false_iff_ne.mpr e).symm
theorem key_rr (a b:Str):decide ((Sum.inr a:Key)=Sum.inr b)=decide (a=b):=by
 by_cases e:a=b
 ·subst e;simp
 ·have h:¬ (Sum.inr a:Key)=Sum.inr b:=fun q=>e (CQ q)
  rw[AQ h,AQ e]
theorem key_lr (a:Int) (b:Str):decide ((Sum.inl a:Key)=Sum.inr b)=false:=AQ (fun q=>nomatch q)
theorem key_rl (a:Str) (b:Int):decide ((Sum.inr a:Key)=Sum.inl b)=false:=AQ (fun q=>nomatch q)
def zQ (prog:Program) (w:World):PySem.KeyKind prog w Key where
 is:=Wa
 hash:=keyH w
 inj:=fun v a b ha hb=>by
  rcases zL ha with ⟨i,t,rfl,rfl⟩ | ⟨x,t,rfl,rfl⟩
  ·rcases zL hb with ⟨j,u,rfl,e⟩ | ⟨y,u,rfl,e⟩
   ·injection e with e1 _;rw[e1]
   ·exact nomatch e
  ·rcases zL hb with ⟨j,u,rfl,e⟩ | ⟨y,u,rfl,e⟩
   ·exact nomatch e
   ·injection e with e1 _;rw[e1]
 byValue:=fun k v h=>by
  rcases zL h with ⟨i,t,rfl,rfl⟩ | ⟨x,t,rfl,rfl⟩ <;> rfl
 pyHash:=fun hv h=>by
  rcases zL hv with ⟨i,t,rfl,rfl⟩ | ⟨x,t,rfl,rfl⟩
  ·exact wpAny_pyHash_int h
  ·exact wpAny_pyHash_str h
 eqBool:=fun hu hv h=>by
  rcases zL hu with ⟨i,t,rfl,rfl⟩ | ⟨x,t,rfl,rfl⟩
  ·rcases zL hv with ⟨j,u,rfl,rfl⟩ | ⟨y,u,rfl,rfl⟩
   ·rw[key_ll] at h;exact wpAny_eqBool_int h
   ·rw[key_lr] at h;exact SeqAt.EqAt.int_str i t y u _ _ _ _ h
  ·rcases zL hv with ⟨j,u,rfl,rfl⟩ | ⟨y,u,rfl,rfl⟩
   ·rw[key_rl] at h;exact SeqAt.EqAt.str_int x t j u _ _ _ _ h
   ·rw[key_rr] at h;exact wpAny_eqBool_str h
 «strs»:=fun k x t v h=>by
  rcases zL h with ⟨i,u,rfl,e⟩ | ⟨y,u,rfl,e⟩
  ·exact nomatch e
  ·injection e with e1 _
   subst e1
   cases v <;> rfl
theorem JL (prog:Program) (w:World) (i:Int) (t:Tok):(zQ prog w).is (.inl i) (.int i t)=true:=WD i t
theorem JM (prog:Program) (w:World) (x:Str) (t:Tok):(zQ prog w).is (.inr x) (.str x t)=true:=WE x t
inductive V where
 | non | bl (b:Bool) | int (i:Int) | str (x:Str) | byt (b:Array UInt8) | flt (b:UInt64) | ref (a:Addr) | ty (n:String)
 deriving DecidableEq
def RelV:V->Value->Prop
 | .non,u=>u=Value.none
 | .bl b,u=>u=Value.bool b
 | .int i,u=>∃ t,u=Value.int i t
 | .str x,u=>∃ t,u=Value.str x t
 | .byt b,u=>∃ t,u=Value.bytes b t
 | .flt b,u=>∃ t,u=Value.float b t
 | .ref a,u=>u=Value.ref a
 | .ty n,u=>u=Value.type n
abbrev zR:List V->List Value->Prop:=Paired RelV
theorem zR.length {xs:List V} {us:List Value} (r:zR xs us):xs.length=us.length:=Ac r
theorem zR.get:∀ {xs:List V} {us:List Value} {i:Nat} {x:V},zR xs us->xs[i]? = some x->∃ u,us[i]? = some u/\RelV x u
 | _,_,_,_,.nil,e=>by simp at e
 | _,_,0,_,.cons r _,e=>by simp at e;subst e;exact⟨_,rfl,r⟩
 | _,_,i+1,x,.cons _ t,e=>by
  obtain⟨u,h1,h2⟩:=zR.get (i:=i) (x:=x) t (by simpa using e)
  exact⟨u,by simpa using h1,h2⟩
theorem zR.append:∀ {xs ys:List V} {us ws:List Value},zR xs us->zR ys ws->zR (xs++ys) (us++ws)
 | _,_,_,_,.nil,s=>s
 | _,_,_,_,.cons r t,s=>.cons r (zR.append t s)
theorem zR.take:∀ {xs:List V} {us:List Value} (n:Nat),zR xs us->zR (xs.take n) (us.take n)
 | _,_,0,_=>.nil
 | _,_,_+1,.nil=>.nil
 | _,_,n+1,.cons r t=>.cons r (zR.take n t)
theorem zR.drop:∀ {xs:List V} {us:List Value} (n:Nat),zR xs us->zR (xs.drop n) (us.drop n)
 | _,_,0,r=>r
 | _,_,_+1,.nil=>.nil
 | _,_,n+1,.cons _ t=>zR.drop n t
def JN:Option V->Option Value->Prop
 | some v,some u=>RelV v u
 | none,none=>True
 | _,_=>False
def KV {κ:Type}:List (κ×V)->List (κ×Value)->Prop:=Paired fun (p:κ×V) (q:κ×Value)=>p.1=q.1/\RelV p.2 q.2
def kV:Key->V
 | .inl i=>.int i
 | .inr x=>.str x
def PTup (h:Heap) (a:Addr) (items:Array Value):Prop:=∃ o,h.get? a=some o/\o.cls=.type "tuple" /\ (∃ n,o.data=.seq items n)/\o.dict=none
theorem PTup.lt {h:Heap} {a:Addr} {items:Array Value} (x:PTup h a items):a < h.objs.size:=let ⟨_,e,_⟩:=x;AI e
theorem PTup.isTup {h:Heap} {a:Addr} {items:Array Value} (x:PTup h a items):IsTup h a items:=let ⟨o,e,c,n,_⟩:=x;⟨o,e,c,n⟩
theorem PTup.new (h:Heap) (items:Array Value):PTup (h.push { cls:=.type "tuple",data:=.seq items }) h.objs.size items:=⟨_,AM _ rfl,rfl,⟨_,rfl⟩,rfl⟩
inductive HO where
 /-- a list -/
 | lst (xs:List V)
 /-- a tuple (never changes) -/
 | tup (xs:List V)
 /-- a dict whose keys are ints and texts;one whose keys are tuples of ints and texts (the empty one is both) -/
 | dK (kvs:List (Key×V)) | dT (kvs:List (List Key×V))
 /-- a set of ints: its members,its size -/
 | set (S:Int->Bool) (n:Nat)
 /-- an instance of the class at C,its dict at dx,its attributes -/
 | ins (C dx:Addr) (fs:List (Str×V))
 /-- the dict of the instance at x -/
 | own (x:Addr)
 /-- the dict of an exception -/
 | xd (fs:List (Str×V))
 /-- a bound method,f of x -/
 | met (f x:Addr)
 /-- a range object lo,lo+1,.. below hi -/
 | rng (lo hi:Int)
 /-- a thing that is known to the object (the script;a dict while a loop walks it): read,never written while it is so -/
 | frz (o:Obj) (u:HO)
 /-- a code object's table -/
 | tbl (ps:Array Value)
 /-- any other thing,by what is true of its one object (a def of one's own: SetO a S n:=HO.ext fun h=>..) -/
 | ext (φ:Heap->Prop)
abbrev Hp:=Addr->Option HO
def upd (H:Hp) (a:Addr) (o:HO):Hp:=fun b=>if b=a then some o else H b
theorem zb {H:Hp} {a:Addr} {o:HO}:upd H a o a=some o:=by unfold upd;rw[if_pos rfl]
theorem zt {H:Hp} {a b:Addr} {o:HO} (h:b ≠ a):upd H a o b=H b:=by unfold upd;rw[if_neg h]
theorem JO {H:Hp} {a b:Addr} {o u:HO} (h:H a=some o) (h':H b=some u) (d:o ≠ u):a ≠ b:=by
 intro e;subst e;rw[h] at h';exact d (AO h')
theorem zF {H:Hp} {a b:Addr} {o:HO} (h:H a=some o) (h':H b=none):a ≠ b:=by
 intro e;subst e;rw[h] at h';cases h'
section
variable (P : Program) (w : World)
def zV (H:Hp) (h:Heap) (a:Addr):HO->Prop
 | .lst xs=>xs.length<=sizeLine/\∃ (its:List Value) (n:Nat),zR xs its/\h.get? a=some { cls:=.type "list",data:=.seq its.toArray n }
 | .tup xs=>xs.length<=sizeLine/\∃ its:List Value,zR xs its/\PTup h a its.toArray
 | .dK kvs=>kvs.length<=sizeLine/\(a == sysModules)=false/\∃ vs,KV kvs vs/\h.DictOf (zQ P w) a vs
 | .dT kvs=>kvs.length<=sizeLine/\(a == sysModules)=false/\∃ xs:List (List Key×Addr×Value),
   Paired (fun (p:List Key×V) (q:List Key×Addr×Value)=>p.1=q.1/\H q.2.1=some (.tup (p.1.map kV))/\RelV p.2 q.2.2) kvs xs /\
   ∃ o es ep,h.get? a=some o/\o.ExactDict/\o.data=.dict es ep/\es.toList=xs.map (entryOfKey (tupleKind (zQ P w)))/\(xs.map (·.1)).Nodup
 | .set S n=>h.SetOf (intKind P w) a S n
 | .ins C dx fs=>H dx=some (.own a)/\fs.length<=1000/\dx ≠ a/\h.get? a=some (PySem.W.instObj C dx) /\
   ∃ mA,h.Ns1 dx mA/\(∀ f,JN (fs.lookup f) (mA f))/\PySem.Within mA (fs.map (·.1))
 | .own _=>∃ o,h.get? a=some o
 | .xd fs=>∃ mA,h.Ns1 a mA/\∀ f,JN (fs.lookup f) (mA f)
 | .rng lo hi=>∃ t u v,h.get? a=some { cls:=.type "range",data:=.fields #[.int lo t,.int hi u,.int 1 v] }
 | .frz o u=>h.get? a=some o/\zV H h a u
 | .tbl ps=>h.get? a=some { cls:=.none,data:=.fields ps }
 | .met f x=>h.get? a=some (PySem.W.methodObj (.ref f) (.ref x))
 | .ext φ=>φ h/\(∃ o,h.get? a=some o)/\∀ h1 h2:Heap,φ h1->(∀ o,h1.get? a=some o->h2.get? a=some o)->φ h2
def HOk (H:Hp) (h:Heap):Prop:=∀ a o,H a=some o->zV P w H h a o
end
section
variable {P : Program} {w : World} {H H' : Hp} {h h' : Heap} {a : Addr} {o : HO}
theorem zV.lt (x:zV P w H h a o):a < h.objs.size:=by
 cases o with
 | lst xs=>obtain⟨_,_,_,_,e⟩:=x;exact AI e
 | tup xs=>obtain⟨_,_,_,p⟩:=x;exact p.lt
 | dK kvs=>obtain⟨_,_,_,_,o,_,_,e,_⟩:=x;exact AI e
 | dT kvs=>obtain⟨_,_,_,_,o,_,_,e,_⟩:=x;exact AI e
 | set S n=>obtain⟨o,_,_,_,e,_⟩:=x;exact AI e
 | ins C dx fs=>obtain⟨_,_,_,e,_⟩:=x;exact AI e
 | own y=>obtain⟨_,e⟩:=x;exact AI e
 | xd fs=>obtain⟨_,⟨_,_,_,e,_⟩,_⟩:=x;exact AI e
 | rng lo hi=>obtain⟨_,_,_,e⟩:=x;exact AI e
 | frz ob u=>obtain⟨e,_⟩:=x;exact AI e
 | tbl ps=>exact AI (show h.get? a=some _ from x)
 | met f y=>exact AI (show h.get? a=some _ from x)
 | ext φ=>obtain⟨_,⟨_,e⟩,_⟩:=x;exact AI e
theorem Paired.mapP {α β:Type} {F G:α->β->Prop}:∀ {l₁:List α} {l₂:List β},Paired F l₁ l₂->(∀ a b,F a b->G a b)->Paired G l₁ l₂
 | _,_,.nil,_=>.nil
 | _,_,.cons r t,f=>.cons (f _ _ r) (Paired.mapP t f)
theorem zV.stay (x:zV P w H h a o) (k:∀ b u,(b=a\/H b=some (.own a))->h.get? b=some u->h'.get? b=some u)
  (ho:∀ b,H b=some (.own a)->H' b=some (.own a)) (ht:∀ b xs,H b=some (.tup xs)->H' b=some (.tup xs)):zV P w H' h' a o:=by
 induction o with
 | lst xs=>obtain⟨z,its,n,r,e⟩:=x;exact⟨z,its,n,r,k _ _ (.inl rfl) e⟩
 | tup xs=>obtain⟨z,its,r,ob,e,c⟩:=x;exact⟨z,its,r,ob,k _ _ (.inl rfl) e,c⟩
 | dK kvs=>obtain⟨z,y,vs,r,ob,es,ep,e,c⟩:=x;exact⟨z,y,vs,r,ob,es,ep,k _ _ (.inl rfl) e,c⟩
 | dT kvs=>
  obtain⟨z,y,xs,r,ob,es,ep,e,c⟩:=x
  exact⟨z,y,xs,Paired.mapP r fun p q z=>⟨z.1,ht _ _ z.2.1,z.2.2⟩,ob,es,ep,k _ _ (.inl rfl) e,c⟩
 | set S n=>obtain⟨ob,es,ep,t,e,c⟩:=x;exact⟨ob,es,ep,t,k _ _ (.inl rfl) e,c⟩
 | ins C dx fs=>
  obtain⟨d,z,ne,e,mA,⟨od,es,ep,e2,c⟩,r⟩:=x
  exact⟨ho _ d,z,ne,k _ _ (.inl rfl) e,mA,⟨od,es,ep,k _ _ (.inr d) e2,c⟩,r⟩
 | own y=>obtain⟨ob,e⟩:=x;exact⟨ob,k _ _ (.inl rfl) e⟩
 | xd fs=>obtain⟨mA,⟨od,es,ep,e,c⟩,r⟩:=x;exact⟨mA,⟨od,es,ep,k _ _ (.inl rfl) e,c⟩,r⟩
 | rng lo hi=>obtain⟨t,u,v,e⟩:=x;exact⟨t,u,v,k _ _ (.inl rfl) e⟩
 | frz ob u ih=>obtain⟨e,q⟩:=x;exact⟨k _ _ (.inl rfl) e,ih q⟩
 | tbl ps=>
  have e:h.get? a=some { cls:=.none,data:=.fields ps }:=x
  show h'.get? a=some { cls:=.none,data:=.fields ps }
  exact k a _ (.inl rfl) e
 | met f y=>
  have e:h.get? a=some (PySem.W.methodObj (.ref f) (.ref y)):=x
  show h'.get? a=some (PySem.W.methodObj (.ref f) (.ref y))
  exact k a _ (.inl rfl) e
 | ext φ=>obtain⟨p,⟨o,e⟩,st⟩:=x;exact⟨st _ _ p fun o q=>k _ _ (.inl rfl) q,⟨o,k _ _ (.inl rfl) e⟩,st⟩
theorem HOk.lt (x:HOk P w H h) (e:H a=some o):a < h.objs.size:=(x a o e).lt
theorem HOk.fresh (x:HOk P w H h) (e:h.objs.size<=a):H a=none:=by
 cases q:H a with
 | none=>rfl
 | some u=>exact absurd (AN (x.lt q) e) (A1 _)
theorem HOk.kept (x:HOk P w H h) (k:∀ b u,h.get? b=some u->h'.get? b=some u):HOk P w H h':=fun a o e=>
 (x a o e).stay (fun b u _ q=>k b u q) (fun _ q=>q) fun _ _ q=>q
theorem HOk.laid (x:HOk P w H h) (k:∀ b u,h.get? b=some u->h'.get? b=some u) (hp:h.objs.size<=a) (new:zV P w (upd H a o) h' a o):HOk P w (upd H a o) h':=fun b u e=>by
 have hn:=x.fresh hp
 by_cases hb:b=a
 ·subst hb;rw[zb] at e;cases e;exact new
 ·rw[zt hb] at e
  exact (x b u e).stay (fun c v _ q=>k c v q) (fun c q=>by rw[zt (zF q hn)];exact q) fun c xs q=>by rw[zt (zF q hn)];exact q
end
def Rd (H:Hp) (a:Addr) (u:HO):Prop:=H a=some u\/∃ o,H a=some (.frz o u)
theorem Rd.of {H:Hp} {a:Addr} {u:HO} (h:H a=some u):Rd H a u:=.inl h
theorem Rd.ok {P:Program} {w:World} {H:Hp} {h:Heap} {a:Addr} {u:HO} (r:Rd H a u) (x:HOk P w H h):zV P w H h a u:=by
 rcases r with r | ⟨o,r⟩
 ·exact x a u r
 ·obtain⟨_,q⟩:=x a _ r
  exact q
def Mut:Option HO->Prop
 | some (.lst _)=>True
 | some (.dK _)=>True
 | some (.dT _)=>True
 | some (.set _ _)=>True
 | some (.ins _ _ _)=>True
 | some (.ext _)=>True
 | _=>False
section
variable {P : Program} {w : World} {H : Hp} {h h' : Heap} {x e : Addr} {o' : HO}
theorem HOk.write (ok:HOk P w H h) (mu:Mut (H x)) (he:e=x\/H e=some (.own x)) (k:∀ b u,b ≠ e->h.get? b=some u->h'.get? b=some u) (heo:∃ u,h'.get? e=some u)
  (new:zV P w (upd H x o') h' x o'):HOk P w (upd H x o') h':=fun b u q=>by
 have nown:∀ c y,H c=some (.own y)->c ≠ x:=fun c y r z=>by subst z;rw[r] at mu;exact mu
 have ntup:∀ c xs,H c=some (.tup xs)->c ≠ x:=fun c xs r z=>by subst z;rw[r] at mu;exact mu
 by_cases hb:b=x
 ·subst hb;rw[zb] at q;cases q;exact new
 ·rw[zt hb] at q
  by_cases hbe:b=e
  ·have q':H b=some (.own x):=by
    rcases he with z | z
    ·exact absurd (hbe.trans z) hb
    ·rw[hbe];exact z
   rw[q] at q';cases q'
   obtain⟨v,hv⟩:=heo
   exact⟨v,by rw[hbe];exact hv⟩
  ·refine (ok b u q).stay (fun c v hc r=>k c v ?_ r) (fun c r=>by rw[zt (nown c b r)];exact r) fun c xs r=>by rw[zt (ntup c xs r)];exact r
   rcases hc with rfl | hc
   ·exact hbe
   ·rintro rfl
    rcases he with z | z
    ·exact nown c b hc z
    ·rw[hc] at z;cases z;exact hb rfl
end
structure Un (fs ex:List Addr) (H H':Hp) (h h':Heap):Prop where
 keep:∀ b o,h.get? b=some o->H b=none->b ∉ fs->b ∉ ex->h'.get? b=some o
 slot:∀ b o,h.get? b=some o->H b=none->b ∈ fs->b ∉ ex->∃ sl,h'.get? b=some { o with slots:=sl }
 free:∀ b o,h.get? b=some o->H b=none->b ∉ ex->H' b=none
 there:∀ b o,h.get? b=some o->b ∉ ex->∃ o',h'.get? b=some o'
 tups:∀ b xs,H b=some (.tup xs)->H' b=some (.tup xs)
 frzs:∀ b o u,H b=some (.frz o u)->H' b=some (.frz o u)
 tbls:∀ b ps,H b=some (.tbl ps)->∃ more,H' b=some (.tbl (ps++more))
section
variable {fs fs' ex ex' : List Addr} {H H1 H2 : Hp} {h h1 h2 h' : Heap} {a x e : Addr} {o : HO}
theorem Un.any (u:Un fs ex H H1 h h1) {b:Addr} {ob:Obj} (q:h.get? b=some ob) (n:H b=none) (hx:b ∉ ex):∃ sl,h1.get? b=some { ob with slots:=sl }:=by
 by_cases hb:b ∈ fs
 ·exact u.slot b ob q n hb hx
 ·exact⟨ob.slots,u.keep b ob q n hb hx⟩
theorem Un.kept (k:∀ b u,h.get? b=some u->h'.get? b=some u):Un fs ex H H h h':=
 ⟨fun b ob q _ _ _=>k b ob q,fun b ob q _ _ _=>⟨ob.slots,k b ob q⟩,fun _ _ _ n _=>n,fun b ob q _=>⟨ob,k b ob q⟩,fun _ _ q=>q,fun _ _ _ q=>q,fun _ ps q=>⟨#[],by rw[q];simp⟩⟩
theorem Un.refl:Un fs ex H H h h:=Un.kept fun _ _ q=>q
theorem Un.laid (k:∀ b u,h.get? b=some u->h'.get? b=some u) (hp:h.objs.size<=a) (hn:H a=none):Un fs ex H (upd H a o) h h' where
 keep:=fun b u q _ _ _=>k b u q
 slot:=fun b u q _ _ _=>⟨u.slots,k b u q⟩
 free:=fun b u q n _=>by rw[zt (AW (AN (AI q) hp))];exact n
 there:=fun b u q _=>⟨u,k b u q⟩
 tups:=fun b xs q=>by rw[zt (zF q hn)];exact q
 frzs:=fun b u xs q=>by rw[zt (zF q hn)];exact q
 tbls:=fun b ps q=>⟨#[],by rw[zt (zF q hn),q];simp⟩
theorem Un.write (mu:Mut (H x)) (he:e=x\/H e=some (.own x)) (k:∀ b u,b ≠ e->h.get? b=some u->h'.get? b=some u) (heo:∃ u,h'.get? e=some u):Un fs ex H (upd H x o) h h':=by
 have hx:∀ b,H b=none->b ≠ x:=fun b n z=>by subst z;rw[n] at mu;exact mu
 have hb:∀ b,H b=none->b ≠ e:=fun b n z=>by
  subst z
  rcases he with r | r
  ·exact hx b n r
  ·rw[n] at r;cases r
 have hm:∀ b u,H b=some u->¬ Mut (some u)->b ≠ x:=fun b u q nm z=>by subst z;rw[q] at mu;exact nm mu
 refine⟨fun b u q n _ _=>k b u (hb b n) q,fun b u q n _ _=>⟨u.slots,k b u (hb b n) q⟩,fun b u q n _=>by rw[zt (hx b n)];exact n,fun b u q _=>?_,
  fun b xs q=>by rw[zt (hm b _ q fun z=>z)];exact q,fun b u xs q=>by rw[zt (hm b _ q fun z=>z)];exact q,fun b ps q=>⟨#[],by rw[zt (hm b _ q fun z=>z),q];simp⟩⟩
 by_cases hbe:b=e
 ·subst hbe;exact heo
 ·exact⟨u,k b u hbe q⟩
end
def trk (h:Heap) (H:Hp):List Addr:=(List.range h.objs.size).filter fun a=>(H a).isSome
def hidT (h:Heap) (H:Hp):Heap:=PySem.W.hideAll h (trk h H)
theorem WF (h:Heap) (H:Hp):(hidT h H).objs.size=h.objs.size:=PySem.W.hideAll_size _ _
theorem hidT_get {h:Heap} {H:Hp} {b:Addr} {o:Obj} (e:h.get? b=some o) (n:H b=none):(hidT h H).get? b=some o:=
 PySem.W.hideAll_get _ e fun hm=>by
  have q:(H b).isSome=true:=(BK.mp hm).2
  rw[n] at q;simp at q
theorem of_hidT {h:Heap} {H:Hp} {b:Addr} {o:Obj} (e:(hidT h H).get? b=some o):h.get? b=some o/\H b=none:=by
 have e':h.get? b=some o:=PySem.W.of_hideAll (trk h H) e
 refine⟨e',?_⟩
 cases q:H b with
 | none=>rfl
 | some x=>
  have hm:b ∈ trk h H:=BK.mpr ⟨Bf.mpr (AI e'),by simp[q]⟩
  have z:(hidT h H).get? b=none:=CS (trk h H) hm
  rw[z] at e;cases e
structure Mod (K:PySem.W.Frag) (mg:Str->Option Value) (base:Heap):Prop where
 kin:K.In base
 glob:base.Ns mainGlobals mg
 blt:∃ mb,base.Ns builtinsNs mb/\∀ x:Str,x ≠ "__name__" -> mb x=bootBuiltins x
 nolimit:base.NoLimit
structure Cx where
 prog:Program
 w:World
 K:PySem.W.Frag
 mg:Str->Option Value
 base:Heap
 A:Around
 N:List Str
 s₀:Shared
 H₀:Hp
 env:Env
 outer:List Env
 stack:List Env
 ex:List Addr
 fn:Str->Bool
 calm:Bool
 pn:List (Addr×Obj)
 xe:Value->Shared->Prop
def frs (l:List Env):List Addr:=l.filterMap (·.frame)
abbrev Cx.fs (X:Cx):List Addr:=frs X.outer
def Vis (sc:Scope) (x:Str):Prop:=sc.names.lookup x=some .local\/sc.names.lookup x=some .cell\/sc.names.lookup x=some .free
def Loc (sc:Scope) (x:Str):Prop:=sc.names.lookup x=some .local\/sc.names.lookup x=some .cell
def Look (env:Env) (h:Heap) (m:Str->Option Value) (x:Str) (u:Value):Prop:=
 (env.kindOf x=some .local/\m x=some u)\/((env.kindOf x=some .cell\/env.kindOf x=some .free)/\∃ c,env.cells.lookup x=some c/\h.IsCell c (some u))
structure Cx.Ok (X:Cx):Prop where
 mod:Mod X.K X.mg X.base
 kind:X.env.scope.kind=.function
 glob:X.env.globals=mainGlobals
 blt:X.env.builtins=builtinsNs
 above:X.s₀.heap.objs.size<=X.env.locals
 inj:∀ x y c,X.env.cells.lookup x=some c->X.env.cells.lookup y=some c->x=y
 has:∀ x,(X.env.kindOf x=some .cell\/X.env.kindOf x=some .free)->∃ c,X.env.cells.lookup x=some c
 cab:∀ x c,X.fn x=true->X.env.cells.lookup x=some c->X.s₀.heap.objs.size<=c
 hd:X.calm=true->X.A.handled=none
 frames:X.A.frames=some X.stack
 stk:X.stack=X.outer\/(X.stack=X.env :: X.outer/\X.env.frame=some X.env.locals)
 exf:∀ b ∈ X.ex,b ≠ X.env.locals/\∀ x c,X.env.cells.lookup x=some c->c ≠ b
 bs:∀ b o,X.base.get? b=some o->X.s₀.heap.get? b=some o/\X.H₀ b=none
 bsz:X.base.objs.size<=X.s₀.heap.objs.size
 noex:∀ b o,X.base.get? b=some o->b ∉ X.ex
 exfs:∀ b ∈ X.ex,b ∉ X.fs
 funs:X.s₀.heap.FunFrames X.base X.outer
 frf:∀ b ∈ X.fs,X.H₀ b=none
structure Inv (X:Cx) (pins:List (Addr×Obj)) (σ:List (Option V)) (H:Hp) (s:Shared):Prop where
 ok:X.Ok
 os:s.os=X.s₀.os
 bare:AllBare s.gens
 base:Un X.fs X.ex X.H₀ H X.s₀.heap s.heap
 loc:∃ m,s.heap.Ns X.env.locals m/\∀ (i:Nat) (x:Str) (v:V),X.N[i]? = some x->σ[i]? = some (some v)->Vis X.env.scope x->∃ u,RelV v u/\Look X.env s.heap m x u
 cell:∀ x c,X.env.cells.lookup x=some c->∃ v,s.heap.IsCell c v
 free:H X.env.locals=none
 freeC:∀ x c,X.env.cells.lookup x=some c->H c=none
 pin:∀ p ∈ X.pn++pins,s.heap.get? p.1=some p.2/\H p.1=none/\p.1 ≠ X.env.locals/\p.1 ∉ X.fs/\∀ v,p.2.data ≠ .cell v
 hok:HOk X.prog X.w H s.heap
 len:σ.length=X.N.length
section
variable {X : Cx} {pins : List (Addr × Obj)} {σ : List (Option V)} {H H' : Hp} {s : Shared} {h' : Heap}
theorem Cx.Ok.nofr (ok:X.Ok) {b:Addr} {o:Obj} (e:X.base.get? b=some o):b ∉ X.fs:=fun hb=>by
 have:=(ok.funs.mem hb).1
 rw[e] at this;cases this
theorem Inv.bs (I:Inv X pins σ H s):∀ b o,X.base.get? b=some o->s.heap.get? b=some o/\H b=none:=fun b o e=>
 ⟨I.base.keep b o (I.ok.bs b o e).1 (I.ok.bs b o e).2 (I.ok.nofr e) (I.ok.noex b o e),I.base.free b o (I.ok.bs b o e).1 (I.ok.bs b o e).2 (I.ok.noex b o e)⟩
theorem Inv.bk (I:Inv X pins σ H s):∀ b o,X.base.get? b=some o->s.heap.get? b=some o:=fun b o e=>(I.bs b o e).1
theorem Inv.mod (I:Inv X pins σ H s):Mod X.K X.mg X.base:=I.ok.mod
theorem Inv.kIn (I:Inv X pins σ H s):X.K.In s.heap:=I.ok.mod.kin.keeps I.bk
theorem Inv.lt (I:Inv X pins σ H s):X.env.locals < s.heap.objs.size:=let ⟨_,hn,_⟩:=I.loc;hn.lt
theorem Inv.sz (I:Inv X pins σ H s):X.s₀.heap.objs.size<=s.heap.objs.size:=Ab I.ok.above (Br I.lt)
theorem Inv.nofs (I:Inv X pins σ H s) {a:Addr} (h:s.heap.objs.size<=a):a ∉ X.fs:=fun hb=>by
 obtain⟨_,o,ho,_⟩:=I.ok.funs.mem hb
 exact absurd (AN (AI ho) (Ab I.sz h)) (A1 _)
theorem Inv.cne (I:Inv X pins σ H s):∀ x c,X.env.cells.lookup x=some c->c ≠ X.env.locals:=fun x c e z=>by
 obtain⟨v,o,ho,hd⟩:=I.cell x c e
 obtain⟨m,⟨o',es,ep,ho',hd',_⟩,_⟩:=I.loc
 rw[z,ho'] at ho;cases ho;rw[hd'] at hd;cases hd
theorem Inv.funs (I:Inv X pins σ H s):s.heap.FunFrames X.base X.outer:=by
 have all:∀ (l:List Env),(∀ b ∈ frs l,b ∈ X.fs)->X.s₀.heap.FunFrames X.base l->s.heap.FunFrames X.base l:=by
  intro l
  induction l with
  | nil=>intro _ _;trivial
  | cons env r ih=>
   intro hs hl
   obtain⟨hk,⟨L,o,hf,hn,ho,hd⟩,hr⟩:=hl
   have hL:L ∈ X.fs:=hs L (by unfold frs;rw[List.filterMap_cons,hf];exact Ai)
   obtain⟨sl,e⟩:=I.base.slot L o ho (I.ok.frf L hL) hL fun z=>I.ok.exfs L z hL
   exact⟨hk,⟨L,_,hf,hn,e,hd⟩,ih (fun b hb=>hs b (by unfold frs;rw[List.filterMap_cons,hf];exact AV _ hb)) hr⟩
 exact all X.outer (fun _ hb=>hb) I.ok.funs
theorem Inv.stack (I:Inv X pins σ H s):s.heap.FunFrames X.base X.stack:=by
 rcases I.ok.stk with e | ⟨e,hf⟩
 ·rw[e];exact I.funs
 ·rw[e]
  obtain⟨m,hn,_⟩:=I.loc
  refine .cons (by rw[I.ok.kind];decide) hf hn ?_ I.funs
  exact BI (Ab I.ok.bsz I.ok.above)
theorem Inv.stkSub (I:Inv X pins σ H s):∀ b ∈ frs X.stack,b ∈ X.env.locals :: X.fs:=fun b hb=>by
 rcases I.ok.stk with e | ⟨e,hf⟩
 ·rw[e] at hb;exact AV _ hb
 ·rw[e] at hb
  unfold frs at hb
  rw[List.filterMap_cons,hf] at hb
  exact hb
theorem Inv.stkFree (I:Inv X pins σ H s):∀ b ∈ frs X.stack,H b=none:=fun b hb=>by
 rcases AZ.mp (I.stkSub b hb) with e | hb
 ·rw[e];exact I.free
 ·obtain⟨_,o,ho,_⟩:=I.ok.funs.mem hb
  exact I.base.free b o ho (I.ok.frf b hb) fun z=>I.ok.exfs b z hb
theorem Inv.step {g':Array GenState} {t':Nat} {d':Drawn} {ch:List Addr} (I:Inv X pins σ H s)
  (hch:∀ b ∈ ch,(b ∈ X.ex\/X.s₀.heap.objs.size<=b)/\b ≠ X.env.locals/\(∀ x c,X.env.cells.lookup x=some c->c ≠ b)/\∀ p ∈ X.pn++pins,p.1 ≠ b)
  (keep:∀ b o,b ≠ X.env.locals->b ∉ X.fs->b ∉ ch->s.heap.get? b=some o->H b=none->h'.get? b=some o)
  (slot:∀ b o,b ≠ X.env.locals->b ∈ X.fs->b ∉ ch->s.heap.get? b=some o->H b=none->∃ sl,h'.get? b=some { o with slots:=sl }) (free:∀ b o,b ∉ ch->s.heap.get? b=some o->H b=none->H' b=none)
  (there:∀ b o,b ∉ ch->s.heap.get? b=some o->∃ o',h'.get? b=some o')
  (tups:∀ b xs,H b=some (.tup xs)->H' b=some (.tup xs)) (frzs:∀ b o u,H b=some (.frz o u)->H' b=some (.frz o u)) (tbls:∀ b ps,H b=some (.tbl ps)->∃ more,H' b=some (.tbl (ps++more)))
  (ns:∀ m,s.heap.Ns X.env.locals m->h'.Ns X.env.locals m) (hok:HOk X.prog X.w H' h') (hg:AllBare g') :
  Inv X pins σ H' { s with heap:=h',gens:=g',drawn:=d',toks:=t' }:=by
 have neL:∀ b o,X.s₀.heap.get? b=some o->b ≠ X.env.locals:=fun b o e=>AW (AN (AI e) I.ok.above)
 have neC:∀ b o,X.s₀.heap.get? b=some o->b ∉ X.ex->b ∉ ch:=fun b o e hx hb=>by
  rcases (hch b hb).1 with z | z
  ·exact hx z
  ·exact absurd (AN (AI e) z) (A1 _)
 have cellK:∀ x c,X.env.cells.lookup x=some c->∀ v,s.heap.IsCell c v->h'.IsCell c v:=fun x c e v ⟨o,ho,hd⟩=>by
  have nch:c ∉ ch:=fun z=>(hch c z).2.2.1 x c e rfl
  by_cases hc:c ∈ X.fs
  ·obtain⟨sl,q⟩:=slot c o (I.cne x c e) hc nch ho (I.freeC x c e)
   exact⟨_,q,hd⟩
  ·exact⟨o,keep c o (I.cne x c e) hc nch ho (I.freeC x c e),hd⟩
 refine⟨I.ok,I.os,hg,⟨fun b o e n hb hx=>?_,fun b o e n hb hx=>?_,fun b o e n hx=>?_,fun b o e hx=>?_,fun b xs e=>tups b xs (I.base.tups b xs e),fun b o xs e=>frzs b o xs (I.base.frzs b o xs e),fun b ps e=>?_⟩,?_,fun x c e=>?_,?_,fun x c e=>?_,fun p hp=>?_,hok,I.len⟩
 ·exact keep b o (neL b o e) hb (neC b o e hx) (I.base.keep b o e n hb hx) (I.base.free b o e n hx)
 ·obtain⟨sl,e1⟩:=I.base.slot b o e n hb hx
  obtain⟨sl',e2⟩:=slot b _ (neL b o e) hb (neC b o e hx) e1 (I.base.free b o e n hx)
  exact⟨sl',e2⟩
 ·obtain⟨o',e1⟩:=I.base.there b o e hx
  exact free b o' (neC b o e hx) e1 (I.base.free b o e n hx)
 ·obtain⟨o',e1⟩:=I.base.there b o e hx
  exact there b o' (neC b o e hx) e1
 ·obtain⟨m1,e1⟩:=I.base.tbls b ps e
  obtain⟨m2,e2⟩:=tbls b _ e1
  exact⟨m1++m2,by rw[e2,Array.append_assoc]⟩
 ·obtain⟨m,hn,hl⟩:=I.loc
  refine⟨m,ns m hn,fun i x v e1 e2 e3=>?_⟩
  obtain⟨u,r,l⟩:=hl i x v e1 e2 e3
  refine⟨u,r,?_⟩
  rcases l with l | ⟨k,c,e,z⟩
  ·exact .inl l
  ·exact .inr ⟨k,c,e,cellK x c e _ z⟩
 ·obtain⟨v,z⟩:=I.cell x c e
  exact⟨v,cellK x c e v z⟩
 ·obtain⟨m,⟨o,_,_,ho,_⟩,_⟩:=I.loc
  exact free _ o (fun z=>(hch _ z).2.1 rfl) ho I.free
 ·obtain⟨v,o,ho,hd⟩:=I.cell x c e
  exact free c o (fun z=>(hch c z).2.2.1 x c e rfl) ho (I.freeC x c e)
 ·obtain⟨e,n,ne,nf,d⟩:=I.pin p hp
  have nch:p.1 ∉ ch:=fun z=>(hch p.1 z).2.2.2 p hp rfl
  exact⟨keep p.1 p.2 ne nf nch e n,free p.1 p.2 nch e n,ne,nf,d⟩
theorem Inv.un {t':Nat} (I:Inv X pins σ H s) (u:Un X.fs [] H H' s.heap h') (hok:HOk X.prog X.w H' h'):Inv X pins σ H' { s with heap:=h',toks:=t' }:=by
 obtain⟨m,⟨o,es,ep,ho,r⟩,_⟩:=id I.loc
 obtain⟨sl,hL⟩:=u.any ho I.free (by simp)
 exact I.step (g':=s.gens) (d':=s.drawn) (ch:=[]) (fun _ z=>nomatch z) (fun b o _ hb _ e n=>u.keep b o e n hb (by simp)) (fun b o _ hb _ e n=>u.slot b o e n hb (by simp)) (fun b o _ e n=>u.free b o e n (by simp)) (fun b o _ e=>u.there b o e (by simp)) u.tups u.frzs u.tbls (fun m' hm=>by
  obtain⟨o',es',ep',ho',r'⟩:=hm
  rw[ho] at ho';cases ho'
  exact⟨_,es',ep',hL,r'⟩) hok I.bare
theorem Inv.call {g':Array GenState} {t':Nat} {d':Drawn} {ch:List Addr} (I:Inv X pins σ H s) (u:Un (frs X.stack) ch H H' s.heap h') (hok:HOk X.prog X.w H' h') (hg:AllBare g')
  (hch:∀ b ∈ ch,(b ∈ X.ex\/X.s₀.heap.objs.size<=b)/\b ≠ X.env.locals/\(∀ x c,X.env.cells.lookup x=some c->c ≠ b)/\∀ p ∈ X.pn++pins,p.1 ≠ b) :
  Inv X pins σ H' { s with heap:=h',gens:=g',drawn:=d',toks:=t' }:=by
 obtain⟨m,⟨o,es,ep,ho,r⟩,_⟩:=id I.loc
 obtain⟨sl,hL⟩:=u.any ho I.free fun z=>(hch _ z).2.1 rfl
 exact I.step (ch:=ch) hch (fun b o hL hb hc e n=>u.keep b o e n (fun z=>(AZ.mp (I.stkSub b z)).elim hL hb) hc) (fun b o _ _ hc e n=>u.any e n hc) (fun b o hc e n=>u.free b o e n hc) (fun b o hc e=>u.there b o e hc) u.tups u.frzs u.tbls (fun m' hm=>by
  obtain⟨o',es',ep',ho',r'⟩:=hm
  rw[ho] at ho';cases ho'
  exact⟨_,es',ep',hL,r'⟩) hok hg
theorem Inv.turned {t':Nat} {it:Addr} (I:Inv X pins σ H s) (k:∀ b o,b ≠ it->s.heap.get? b=some o->h'.get? b=some o) (hn:H it=none) (hL:it ≠ X.env.locals)
  (h1:it ∈ X.ex\/X.s₀.heap.objs.size<=it) (h2:∀ x c,X.env.cells.lookup x=some c->c ≠ it) (h3:∀ p ∈ X.pn++pins,p.1 ≠ it):Inv X pins σ H { s with heap:=h',toks:=t' }:=by
 have nit:∀ b u,H b=some u->b ≠ it:=fun b u e z=>by rw[z,hn] at e;cases e
 refine I.step (g':=s.gens) (d':=s.drawn) (ch:=[it]) (fun b hb=>?_) (fun b o _ _ hc e _=>k b o (fun z=>hc (by simp[z])) e) (fun b o _ _ hc e _=>⟨o.slots,k b o (fun z=>hc (by simp[z])) e⟩) (fun _ _ _ _ n=>n)
  (fun b o hc e=>⟨o,k b o (fun z=>hc (by simp[z])) e⟩) (fun _ _ e=>e) (fun _ _ _ e=>e) (fun b ps e=>⟨#[],by rw[e];simp⟩) (fun m hm=>?_) (fun b u e=>?_) I.bare
 ·have e:b=it:=by simpa using hb
  subst e
  exact⟨h1,hL,h2,h3⟩
 ·obtain⟨o,es,ep,ho,r⟩:=hm
  exact⟨o,es,ep,k _ o (A3 hL) ho,r⟩
 ·refine (I.hok b u e).stay (fun c v hc q=>k c v ?_ q) (fun _ q=>q) fun _ _ q=>q
  rcases hc with z | z
  ·rw[z];exact nit b u e
  ·exact nit c _ z
theorem Inv.tok (I:Inv X pins σ H s) (t:Nat):Inv X pins σ H { s with toks:=t }:=I.un (h':=s.heap) (t':=t) Un.refl I.hok
theorem Inv.kept {t':Nat} (I:Inv X pins σ H s) (k:∀ b u,s.heap.get? b=some u->h'.get? b=some u):Inv X pins σ H { s with heap:=h',toks:=t' }:=I.un (Un.kept k) (I.hok.kept k)
theorem Inv.laid {a:Addr} {o:HO} {t':Nat} (I:Inv X pins σ H s) (k:∀ b u,s.heap.get? b=some u->h'.get? b=some u) (hp:s.heap.objs.size<=a) (new:zV X.prog X.w (upd H a o) h' a o) :
  Inv X pins σ (upd H a o) { s with heap:=h',toks:=t' }:=I.un (Un.laid k hp (I.hok.fresh hp)) (I.hok.laid k hp new)
theorem Inv.write {x e:Addr} {o:HO} {t':Nat} (I:Inv X pins σ H s) (mu:Mut (H x)) (he:e=x\/H e=some (.own x)) (k:∀ b u,b ≠ e->s.heap.get? b=some u->h'.get? b=some u) (heo:∃ u,h'.get? e=some u)
  (new:zV X.prog X.w (upd H x o) h' x o):Inv X pins σ (upd H x o) { s with heap:=h',toks:=t' }:=I.un (Un.write mu he k heo) (I.hok.write mu he k heo new)
theorem Inv.pins_of {pins':List (Addr×Obj)} (I:Inv X pins σ H s) (h:∀ p ∈ pins',s.heap.get? p.1=some p.2/\H p.1=none/\p.1 ≠ X.env.locals/\p.1 ∉ X.fs/\∀ v,p.2.data ≠ .cell v):Inv X pins' σ H s:=
 ⟨I.ok,I.os,I.bare,I.base,I.loc,I.cell,I.free,I.freeC,fun p hp=>(Ae.mp hp).elim (fun z=>I.pin p (A6 _ z)) (h p),I.hok,I.len⟩
theorem Qr {N:List Str} (hN:N.Nodup) {i j:Nat} {x:Str} (a:N[i]? = some x) (b:N[j]? = some x):i=j:=by
 obtain⟨h1,e1⟩:=AD.mp a
 obtain⟨h2,e2⟩:=AD.mp b
 exact (List.getElem_inj hN).mp (e1.trans e2.symm)
theorem Q3 {M:Model} {A:Around} {E:Value->Shared->Prop} {i:Nat} {x:Str} {v:V} {u:Value} {Q:Unit->Shared->Prop} (I:Inv X pins σ H s) (hN:X.N.Nodup) (hi:X.N[i]? = some x) (hx:Loc X.env.scope x) (r:RelV v u)
  (h:∀ s',Inv X pins (σ.set i (some v)) H s'->(∃ a,Heap.SameBut a s.heap s'.heap/\(a=X.env.locals\/X.env.cells.lookup x=some a))->Q () s') (hf:X.fn x=true\/X.env.scope.names.lookup x=some .local:=by first | exact .inl rfl | exact .inr rfl | assumption):wpAny M A (storeName X.env x u) Q E s:=by
 obtain⟨m,hn,hl⟩:=id I.loc
 have hcls:(X.env.scope.kind == .class || (X.env.scope.kind == .module && X.env.locals != X.env.globals))=false:=by rw[I.ok.kind];rfl
 have hiσ:i < σ.length:=by rw[I.len];exact (AD.mp hi).1
 have cne:=I.cne
 have tracked:∀ {a:Addr} {h':Heap},(∃ o,s.heap.get? a=some o/\H a=none)->Heap.SameBut a s.heap h'->HOk X.prog X.w H h':=fun {a h'} ha hs b ob e=>by
  obtain⟨_,_,hfree⟩:=ha
  refine (I.hok b ob e).stay (fun c w' hc q=>(hs.2 c ?_).trans q) (fun _ q=>q) fun _ _ q=>q
  rintro rfl
  rcases hc with rfl | hc
  ·rw[hfree] at e;cases e
  ·rw[hfree] at hc;cases hc
 rcases hx with hk | hk
 ·refine wpAny_storeName_local hk hn (fun h' hn' hs=>?_) hcls
  obtain⟨oL,_,_,hoL,_⟩:=id hn
  refine h _ ⟨I.ok,I.os,I.bare,⟨fun b o e n hb hx=>?_,fun b o e n hb hx=>?_,I.base.free,fun b o e hx=>?_,I.base.tups,I.base.frzs,I.base.tbls⟩,⟨_,hn',fun j y v' e1 e2 e3=>?_⟩,fun y c e=>?_,I.free,I.freeC,fun p hp=>?_,tracked ⟨oL,hoL,I.free⟩ hs,by simpa using I.len⟩ ⟨_,hs,.inl rfl⟩
  ·exact (hs.2 b (AW (AN (AI e) I.ok.above))).trans (I.base.keep b o e n hb hx)
  ·obtain⟨sl,e1⟩:=I.base.slot b o e n hb hx
   exact⟨sl,(hs.2 b (AW (AN (AI e) I.ok.above))).trans e1⟩
  ·obtain⟨o',e1⟩:=I.base.there b o e hx
   exact⟨o',(hs.2 b (AW (AN (AI e) I.ok.above))).trans e1⟩
  ·by_cases hj:j=i
   ·subst hj
    rw[hi] at e1;cases e1
    rw[CH hiσ] at e2
    cases e2
    exact⟨u,r,.inl ⟨hk,by simp⟩⟩
   ·rw[CU (A3 hj)] at e2
    obtain⟨u',r',q⟩:=hl j y v' e1 e2 e3
    refine⟨u',r',?_⟩
    rcases q with ⟨k,e⟩ | ⟨k,c,e,z⟩
    ·refine .inl ⟨k,?_⟩
     have:y ≠ x:=fun e=>hj (Qr hN e1 (e ▸ hi))
     simp[this,e]
    ·exact .inr ⟨k,c,e,z.sameBut hs (cne y c e)⟩
  ·obtain⟨w',z⟩:=I.cell y c e
   exact⟨w',z.sameBut hs (cne y c e)⟩
  ·obtain⟨e,n,ne,nf,d⟩:=I.pin p hp
   exact⟨(hs.2 p.1 ne).trans e,n,ne,nf,d⟩
 ·have hfn:X.fn x=true:=by
   rcases hf with z | z
   ·exact z
   ·rw[z] at hk;cases hk
  obtain⟨c,hc⟩:=I.ok.has x (.inl hk)
  obtain⟨w',z⟩:=I.cell x c hc
  refine wpAny_storeName_cell I.ok.kind hk hc z (fun h' hc' hs=>?_)
  obtain⟨oc,hoc,hocd⟩:=id z
  refine h { s with heap:=h' } ⟨I.ok,I.os,I.bare,⟨fun b o e n hb hx=>?_,fun b o e n hb hx=>?_,I.base.free,fun b o e hx=>?_,I.base.tups,I.base.frzs,I.base.tbls⟩,⟨m,hn.sameBut hs (A3 (cne x c hc)),fun j y v' e1 e2 e3=>?_⟩,fun y c' e=>?_,I.free,I.freeC,fun p hp=>?_,tracked ⟨oc,hoc,I.freeC x c hc⟩ hs,by simpa using I.len⟩ ⟨c,hs,.inr hc⟩
  ·exact (hs.2 b (AW (AN (AI e) (I.ok.cab x c hfn hc)))).trans (I.base.keep b o e n hb hx)
  ·obtain⟨sl,e1⟩:=I.base.slot b o e n hb hx
   exact⟨sl,(hs.2 b (AW (AN (AI e) (I.ok.cab x c hfn hc)))).trans e1⟩
  ·obtain⟨o',e1⟩:=I.base.there b o e hx
   exact⟨o',(hs.2 b (AW (AN (AI e) (I.ok.cab x c hfn hc)))).trans e1⟩
  ·by_cases hj:j=i
   ·subst hj
    rw[hi] at e1;cases e1
    rw[CH hiσ] at e2
    cases e2
    exact⟨u,r,.inr ⟨.inl hk,c,hc,hc'⟩⟩
   ·rw[CU (A3 hj)] at e2
    obtain⟨u',r',q⟩:=hl j y v' e1 e2 e3
    refine⟨u',r',?_⟩
    rcases q with q | ⟨k,c',e,z'⟩
    ·exact .inl q
    ·refine .inr ⟨k,c',e,z'.sameBut hs ?_⟩
     rintro rfl
     exact hj (Qr hN e1 (I.ok.inj _ _ _ e hc ▸ hi))
  ·by_cases hcc:c'=c
   ·subst hcc;exact⟨_,hc'⟩
   ·obtain⟨w2,z2⟩:=I.cell y c' e
    exact⟨w2,z2.sameBut hs hcc⟩
  ·obtain⟨e,n,ne,nf,d⟩:=I.pin p hp
   refine⟨(hs.2 p.1 ?_).trans e,n,ne,nf,d⟩
   intro q
   rw[q,hoc] at e
   have q':oc=p.2:=AO e
   exact d w' (by rw[<- q'];exact hocd)
theorem Zj {M:Model} {A:Around} {E:Value->Shared->Prop} {i:Nat} {x:Str} {v:V} {u:Value} {Q:Unit->Shared->Prop} (I:Inv X pins σ H s) (hN:X.N.Nodup) (hi:X.N[i]? = some x) (hx:Loc X.env.scope x) (r:RelV v u)
  (h:∀ s',Inv X pins (σ.set i (some v)) H s'->Q () s') (hf:X.fn x=true\/X.env.scope.names.lookup x=some .local:=by first | exact .inl rfl | exact .inr rfl | assumption):wpAny M A (storeName X.env x u) Q E s:=
 Q3 I hN hi hx r (fun s' I' _=>h s' I') hf
theorem Inv.call' {s':Shared} {ch:List Addr} (I:Inv X pins σ H s) (ho:s'.os=s.os) (u:Un (frs X.stack) ch H H' s.heap s'.heap) (hok:HOk X.prog X.w H' s'.heap) (hg:AllBare s'.gens)
  (hch:∀ b ∈ ch,(b ∈ X.ex\/X.s₀.heap.objs.size<=b)/\b ≠ X.env.locals/\(∀ x c,X.env.cells.lookup x=some c->c ≠ b)/\∀ p ∈ X.pn++pins,p.1 ≠ b):Inv X pins σ H' s':=by
 obtain⟨h',g',d',t',o'⟩:=s'
 have e:o'=s.os:=ho
 subst e
 exact I.call (g':=g') (t':=t') (d':=d') u hok hg hch
end
abbrev XK:=Value->Option Addr->Hp->Prop
abbrev St:=List (Option V)
abbrev VK:=V->Hp->Prop
abbrev TE:=St->Hp->VK->Prop
abbrev TT:=St->Hp->(Bool->Hp->Prop)->Prop
abbrev TA:=St->Hp->(List V->Hp->Prop)->Prop
structure JK where
 nx:St->Hp->Prop
 rt:VK
 bk:St->Hp->Prop:=fun _ _=>False
 ct:St->Hp->Prop:=fun _ _=>False
abbrev TS:=JK->St->Hp->Prop
def EP (X:Cx) (pins:List (Addr×Obj)) (σ:St) (Q:VK) (u:Value) (s':Shared):Prop:=∃ v H',Inv X pins σ H' s'/\RelV v u/\Q v H'
def TP (X:Cx) (pins:List (Addr×Obj)) (σ:St) (Q:Bool->Hp->Prop) (b:Bool) (s':Shared):Prop:=∃ H',Inv X pins σ H' s'/\Q b H'
def AP (X:Cx) (pins:List (Addr×Obj)) (σ:St) (Q:List V->Hp->Prop) (us:List Value) (s':Shared):Prop:=∃ vs H',Inv X pins σ H' s'/\zR vs us/\Q vs H'
def SP (X:Cx) (pins:List (Addr×Obj)) (D:JK) (f:Flow) (s':Shared):Prop:=
 match f with
 | .next=>∃ σ' H',Inv X pins σ' H' s'/\D.nx σ' H'
 | .brk=>∃ σ' H',Inv X pins σ' H' s'/\D.bk σ' H'
 | .cont=>∃ σ' H',Inv X pins σ' H' s'/\D.ct σ' H'
 | .ret u=>∃ v σ' H',Inv X pins σ' H' s'/\RelV v u/\D.rt v H'
def PE (X:Cx) (e:Expr) (t:TE):Prop:=
 ∀ (pins:List (Addr×Obj)) (s:Shared) (σ:St) (H:Hp) (Q:VK),Inv X pins σ H s->t σ H Q->wpAny (model X.prog X.w) X.A (eval e X.env) (EP X pins σ Q) X.xe s
def PT (X:Cx) (e:Expr) (t:TT):Prop:=
 ∀ (pins:List (Addr×Obj)) (s:Shared) (σ:St) (H:Hp) (Q:Bool->Hp->Prop),Inv X pins σ H s->t σ H Q->wpAny (model X.prog X.w) X.A (isTrue e X.env (eval e X.env)) (TP X pins σ Q) X.xe s
def PW (X:Cx) (e:Expr) (t:TT):Prop:=
 ∀ (whole:Sem Value) (pins:List (Addr×Obj)) (s:Shared) (σ:St) (H:Hp) (Q:Bool->Hp->Prop),Inv X pins σ H s->t σ H Q->wpAny (model X.prog X.w) X.A (isTrue e X.env whole) (TP X pins σ Q) X.xe s
theorem PW.pt {X:Cx} {e:Expr} {t:TT} (h:PW X e t):PT X e t:=h _
def PA (X:Cx) (es:List Expr) (t:TA):Prop:=
 ∀ (pos:Pos) (pins:List (Addr×Obj)) (s:Shared) (σ:St) (H:Hp) (Q:List V->Hp->Prop),Inv X pins σ H s->t σ H Q->wpAny (model X.prog X.w) X.A (spliced (backTo pos (starEach es X.env))) (AP X pins σ Q) X.xe s
def PS (X:Cx) (st:Stmt) (t:TS):Prop:=
 ∀ (pins:List (Addr×Obj)) (s:Shared) (σ:St) (H:Hp) (D:JK),Inv X pins σ H s->t D σ H->wpAny (model X.prog X.w) X.A (exec st X.env) (SP X pins D) X.xe s
def PSs (X:Cx) (st:List Stmt) (t:TS):Prop:=
 ∀ (pins:List (Addr×Obj)) (s:Shared) (σ:St) (H:Hp) (D:JK),Inv X pins σ H s->t D σ H->wpAny (model X.prog X.w) X.A (execs st X.env) (SP X pins D) X.xe s
theorem thn {α:Type} {t:Sem α} {Q Q':α->Shared->Prop} {M:Model} {A:Around} {E:Value->Shared->Prop} {s:Shared} (h:wpAny M A t Q E s) (hQ:∀ a s,Q a s->Q' a s):wpAny M A t Q' E s:=A4 h hQ fun _ _ x=>x
section
variable {X : Cx}
def tVar (i:Nat):TE:=fun σ H Q=>∃ v,σ[i]? = some (some v)/\Q v H
def tC (v:V):TE:=fun _ H Q=>Q v H
theorem pe_var {i:Nat} {x:Str} {pos:Pos} (hN:X.N[i]? = some x) (hv:Vis X.env.scope x) (hd:(x == ("__debug__" : Str))=false:=by decide) (hcd:(x == ("__classdict__" : Str))=false:=by decide):PE X (.Name x pos) (tVar i):=by
 intro pins s σ H Q I h
 obtain⟨v,e,h⟩:=h
 obtain⟨m,hn,hl⟩:=I.loc
 obtain⟨u,r,l⟩:=hl i x v hN e hv
 have fin:EP X pins σ Q u s:=⟨v,H,I,r,h⟩
 rcases l with ⟨hk,hm⟩ | ⟨hk,c,hc,hcell⟩
 ·exact wpAny_Name (wpAny_loadName_local I.ok.kind hk hn hm fin) hd
 ·rcases hk with hk | hk
  ·exact wpAny_Name (wpAny_loadName_cell I.ok.kind hk hc hcell fin) hd
  ·exact wpAny_Name (wpAny_loadName_free I.ok.kind hk hc hcell fin hcd) hd
theorem zf {i j pos}:PE X (.Constant (.int i) j pos) (tC (.int i)):=fun _ _ _ H _ I h=>wpAny_Constant_int ⟨.int i,H,I.tok _,⟨_,rfl⟩,h⟩
theorem pe_bl {b j pos}:PE X (.Constant (.bool b) j pos) (tC (.bl b)):=fun _ _ _ H _ I h=>Constant_bool ⟨.bl b,H,I,rfl,h⟩
theorem jg {j pos}:PE X (.Constant .none j pos) (tC .non):=fun _ _ _ H _ I h=>Constant_none ⟨.non,H,I,rfl,h⟩
theorem zm {x j pos}:PE X (.Constant (.str x) j pos) (tC (.str x)):=fun _ _ _ H _ I h=>Calls.Constant_str ⟨.str x,H,I.tok _,⟨_,rfl⟩,h⟩
def Gl (X:Cx) (x:Str):Prop:=X.env.kindOf x=some .globalImplicit
theorem jA {E:Value->Shared->Prop} {pins:List (Addr×Obj)} {s:Shared} {σ:St} {H:Hp} {x:Str} {u:Value} {pos:Pos} {Q:Value->Shared->Prop} (I:Inv X pins σ H s) (hg:Gl X x) (hm:X.mg x=some u) (h:Q u s)
  (hd:(x == ("__debug__" : Str))=false:=by decide):wpAny (model X.prog X.w) X.A (eval (.Name x pos) X.env) Q E s:=
 Calls.Name_function_global I.ok.kind hg (Calls.loadGlobal_global (by rw[I.ok.glob];exact I.mod.glob.keeps I.bk) hm h) hd
theorem Zt {E:Value->Shared->Prop} {pins:List (Addr×Obj)} {s:Shared} {σ:St} {H:Hp} {x:Str} {u:Value} {pos:Pos} {Q:Value->Shared->Prop} (I:Inv X pins σ H s) (hg:Gl X x) (hm:X.mg x=none) (hv:bootBuiltins x=some u) (h:Q u s)
  (hn:x ≠ "__name__":=by decide) (hd:(x == ("__debug__" : Str))=false:=by decide):wpAny (model X.prog X.w) X.A (eval (.Name x pos) X.env) Q E s:=by
 obtain⟨mb,h1,h2⟩:=I.mod.blt
 exact Calls.Name_function_global I.ok.kind hg (Calls.loadGlobal_builtin (by rw[I.ok.glob];exact I.mod.glob.keeps I.bk) hm (by rw[I.ok.blt];exact h1.keeps I.bk) ((h2 x hn).trans hv) h) hd
theorem zM {x:Str} {v:V} {u:Value} {pos:Pos} (hg:Gl X x) (hm:X.mg x=some u) (r:RelV v u) (hd:(x == ("__debug__" : Str))=false:=by decide):PE X (.Name x pos) (tC v):=
 fun _ _ _ H _ I h=>jA I hg hm ⟨v,H,I,r,h⟩ hd
theorem qX {x:Str} {v:V} {u:Value} {pos:Pos} (hg:Gl X x) (hm:X.mg x=none) (hv:bootBuiltins x=some u) (r:RelV v u) (hn:x ≠ "__name__":=by decide) (hd:(x == ("__debug__" : Str))=false:=by decide):PE X (.Name x pos) (tC v):=
 fun _ _ _ H _ I h=>Zt I hg hm hv ⟨v,H,I,r,h⟩ hn hd
variable {a b : Expr} {ta tb : TE} {pos : Pos}
def tB (t:TE):TT:=fun σ H Q=>t σ H fun x H1=>∃ c,x=.bl c/\Q c H1
theorem qk {e:Expr} {t:TE} (h:PE X e t) (he:∀ whole,isTrue e X.env whole=(do let v <- whole;standAt e.pos;holding [v] (truthy v)):=by intro _;rfl):PT X e (tB t):=by
 intro pins s σ H Q I hw
 refine isTrue_plain (thn (h pins s σ H _ I hw) fun v s1 ⟨x,H1,I1,r1,q1⟩=>?_) (he _)
 obtain⟨d,rfl,q⟩:=q1
 cases r1
 exact BG ⟨H1,I1,q⟩
variable {tA tB' : TT} {rest : List Expr}
def tAnd (t u:TT):TT:=fun σ H Q=>t σ H fun c H1=>if c=true then u σ H1 Q else Q false H1
def tOr (t u:TT):TT:=fun σ H Q=>t σ H fun c H1=>if c=true then Q true H1 else u σ H1 Q
def tNot (t:TT):TT:=fun σ H Q=>t σ H fun c H1=>Q (!c) H1
theorem Zu (ha:PT X a tA):PW X (.BoolOp .And [a] pos) tA:=by
 intro wh pins s σ H Q I h
 refine isTrue_and (thn (ha pins s σ H Q I h) fun c s1 e=>?_)
 cases c with
 | true=>exact isTrue_and_nil e
 | false=>exact e
theorem ww (ha:PT X a tA):PW X (.BoolOp .Or [a] pos) tA:=by
 intro wh pins s σ H Q I h
 refine isTrue_or (thn (ha pins s σ H Q I h) fun c s1 e=>?_)
 cases c with
 | false=>exact isTrue_or_nil e
 | true=>exact e
theorem Qd (ha:PT X a tA) (hb:PW X (.BoolOp .And (b :: rest) pos) tB'):PW X (.BoolOp .And (a :: b :: rest) pos) (tAnd tA tB'):=by
 intro wh pins s σ H Q I h
 refine isTrue_and (thn (ha pins s σ H _ I h) fun c s1 ⟨H1,I1,q1⟩=>?_)
 cases c with
 | true=>exact hb wh pins s1 σ H1 Q I1 q1
 | false=>exact⟨H1,I1,q1⟩
theorem pw_or (ha:PT X a tA) (hb:PW X (.BoolOp .Or (b :: rest) pos) tB'):PW X (.BoolOp .Or (a :: b :: rest) pos) (tOr tA tB'):=by
 intro wh pins s σ H Q I h
 refine isTrue_or (thn (ha pins s σ H _ I h) fun c s1 ⟨H1,I1,q1⟩=>?_)
 cases c with
 | true=>exact⟨H1,I1,q1⟩
 | false=>exact hb wh pins s1 σ H1 Q I1 q1
theorem Zv (ha:PT X a tA):PT X (.UnaryOp .Not a pos) (tNot tA):=by
 intro pins s σ H Q I h
 exact isTrue_not (ha pins s σ H (fun c H1=>Q (!c) H1) I h)
def tAndV (ta tb:TE):TE:=fun σ H Q=>ta σ H fun x H1=>∃ c,x=.bl c/\if c=true then tb σ H1 Q else Q (.bl false) H1
def tNotV (ta:TE):TE:=fun σ H Q=>ta σ H fun x H1=>∃ c,x=.bl c/\Q (.bl (!c)) H1
theorem pe_one {op} {t:TE} (h:PE X a t):PE X (.BoolOp op [a] pos) t:=fun pins s σ H Q I hw=>BoolOp_one (h pins s σ H Q I hw)
theorem WG (ha:PE X a ta) (hb:PE X (.BoolOp .And (b :: rest) pos) tb):PE X (.BoolOp .And (a :: b :: rest) pos) (tAndV ta tb):=by
 intro pins s σ H Q I h
 refine BoolOp_and (thn (ha pins s σ H _ I h) fun v s1 ⟨x,H1,I1,r1,q1⟩=>?_)
 obtain⟨c,rfl,q1⟩:=q1
 cases r1
 refine BG ?_
 cases c with
 | true=>exact hb pins s1 σ H1 Q I1 q1
 | false=>exact⟨.bl false,H1,I1,rfl,q1⟩
theorem pe_not (ha:PE X a ta):PE X (.UnaryOp .Not a pos) (tNotV ta):=by
 intro pins s σ H Q I h
 refine UnaryOp_ (thn (ha pins s σ H _ I h) fun v s1 ⟨x,H1,I1,r1,q1⟩=>?_)
 obtain⟨c,rfl,q1⟩:=q1
 cases r1
 exact not_of (BG ⟨.bl (!c),H1,I1,rfl,q1⟩)
def tIf (t:TT) (ta tb:TE):TE:=fun σ H Q=>t σ H fun c H1=>if c=true then ta σ H1 Q else tb σ H1 Q
theorem Qs {c:Expr} (hc:PT X c tA) (ha:PE X a ta) (hb:PE X b tb):PE X (.IfExp c a b pos) (tIf tA ta tb):=by
 intro pins s σ H Q I h
 refine wpAny_IfExp (thn (hc pins s σ H _ I h) fun d s1 ⟨H1,I1,q1⟩=>?_)
 cases d with
 | true=>exact ha pins s1 σ H1 Q I1 q1
 | false=>exact hb pins s1 σ H1 Q I1 q1
end
def SqL (K:PySem.W.Frag) (H:Hp) (a:Addr) (xs:List V):Prop:=
 Rd H a (.lst xs) \/
  ∃ (o:Obj) (its:Array Value) (n:Nat),K.lookup a=some o/\o.cls=.type "list" /\ o.dict=none/\o.data=.seq its n/\its.size<=sizeLine/\zR xs its.toList
def SqT (K:PySem.W.Frag) (H:Hp) (a:Addr) (xs:List V):Prop:=
 Rd H a (.tup xs) \/
  ∃ (o:Obj) (its:Array Value) (n:Nat),K.lookup a=some o/\o.cls=.type "tuple" /\ o.data=.seq its n/\its.size<=sizeLine/\zR xs its.toList
def absV:Value->Option V
 | .none=>some .non
 | .bool b=>some (.bl b)
 | .int i _=>some (.int i)
 | .str x _=>some (.str x)
 | .bytes b _=>some (.byt b)
 | .float b _=>some (.flt b)
 | .ref a=>some (.ref a)
 | .type n=>some (.ty n)
 | _=>none
theorem RelV.abs {x:V} {u:Value} (r:RelV x u):absV u=some x:=by
 cases x with
 | non=>cases r;rfl
 | bl _=>cases r;rfl
 | int _=>obtain⟨t,rfl⟩:=r;rfl
 | str _=>obtain⟨t,rfl⟩:=r;rfl
 | byt _=>obtain⟨t,rfl⟩:=r;rfl
 | flt _=>obtain⟨t,rfl⟩:=r;rfl
 | ref _=>cases r;rfl
 | ty _=>cases r;rfl
theorem RelV.inj {x y:V} {u:Value} (r:RelV x u) (q:RelV y u):x=y:=AO (r.abs.symm.trans q.abs)
theorem zR.inj:∀ {xs ys:List V} {us:List Value},zR xs us->zR ys us->xs=ys
 | _,_,_,.nil,.nil=>rfl
 | _,_,_,.cons r t,.cons r' t'=>by rw[r.inj r',zR.inj t t']
section
variable {X : Cx} {pins : List (Addr × Obj)} {σ : St} {H : Hp} {s : Shared} {a : Addr} {xs ys : List V}
theorem SqL.of {K:PySem.W.Frag} (h:H a=some (.lst xs)):SqL K H a xs:=.inl (.inl h)
theorem SqT.of {K:PySem.W.Frag} (h:H a=some (.tup xs)):SqT K H a xs:=.inl (.inl h)
theorem Inv.list (I:Inv X pins σ H s) (h:SqL X.K H a xs):∃ its:List Value,zR xs its/\PlainL s.heap a its.toArray/\xs.length<=sizeLine:=by
 rcases h with h | ⟨o,its,n,hk,hc,hd,hs,hz,r⟩
 ·obtain⟨z,its,n,r,e⟩:=h.ok I.hok
  exact⟨its,r,⟨_,n,e,rfl,rfl,rfl⟩,z⟩
 ·refine⟨its.toList,r,⟨o,n,I.kIn a o hk,hc,hd,by simpa using hs⟩,?_⟩
  have e:=r.length
  simp only[Array.length_toList] at e
  omega
theorem Inv.tuple (I:Inv X pins σ H s) (h:SqT X.K H a xs):∃ its:List Value,zR xs its/\IsTup s.heap a its.toArray/\xs.length<=sizeLine:=by
 rcases h with h | ⟨o,its,n,hk,hc,hs,hz,r⟩
 ·obtain⟨z,its,r,p⟩:=h.ok I.hok
  exact⟨its,r,p.isTup,z⟩
 ·refine⟨its.toList,r,⟨o,I.kIn a o hk,hc,n,by simpa using hs⟩,?_⟩
  have e:=r.length
  simp only[Array.length_toList] at e
  omega
theorem Inv.list_inj (I:Inv X pins σ H s) (h:SqL X.K H a xs) (h':SqL X.K H a ys):xs=ys:=by
 obtain⟨its,r,⟨o,n,e,_,_,d⟩,_⟩:=I.list h
 obtain⟨its',r',⟨o',n',e',_,_,d'⟩,_⟩:=I.list h'
 rw[e] at e';cases e'
 rw[d] at d'
 injection d' with d1 _
 have:its=its':=by simpa using BB Array.toList d1
 subst this
 exact r.inj r'
theorem Inv.tuple_inj (I:Inv X pins σ H s) (h:SqT X.K H a xs) (h':SqT X.K H a ys):xs=ys:=by
 obtain⟨its,r,⟨o,e,_,n,d⟩,_⟩:=I.tuple h
 obtain⟨its',r',⟨o',e',_,n',d'⟩,_⟩:=I.tuple h'
 rw[e] at e';cases e'
 rw[d] at d'
 injection d' with d1 _
 have:its=its':=by simpa using BB Array.toList d1
 subst this
 exact r.inj r'
end
abbrev Cx.wish (X:Cx) (E:Value->Shared->Prop):Cx:={ X with xe:=E }
abbrev Cx.nox (X:Cx):Cx:=X.wish fun _ _=>False
theorem Cx.Ok.wish {X:Cx} (ok:X.Ok) (E:Value->Shared->Prop):(X.wish E).Ok:=
 ⟨ok.mod,ok.kind,ok.glob,ok.blt,ok.above,ok.inj,ok.has,ok.cab,ok.hd,ok.frames,ok.stk,ok.exf,ok.bs,ok.bsz,ok.noex,ok.exfs,ok.funs,ok.frf⟩
theorem Cx.Ok.unwish {X:Cx} {E:Value->Shared->Prop} (ok:(X.wish E).Ok):X.Ok:=
 ⟨ok.mod,ok.kind,ok.glob,ok.blt,ok.above,ok.inj,ok.has,ok.cab,ok.hd,ok.frames,ok.stk,ok.exf,ok.bs,ok.bsz,ok.noex,ok.exfs,ok.funs,ok.frf⟩
section
variable {X : Cx} {pins : List (Addr × Obj)} {σ : St} {H : Hp} {s : Shared} {E : Value -> Shared -> Prop}
theorem Inv.wish (I:Inv X pins σ H s) (E:Value->Shared->Prop):Inv (X.wish E) pins σ H s:=⟨I.ok.wish E,I.os,I.bare,I.base,I.loc,I.cell,I.free,I.freeC,I.pin,I.hok,I.len⟩
theorem Inv.unwish (I:Inv (X.wish E) pins σ H s):Inv X pins σ H s:=⟨I.ok.unwish,I.os,I.bare,I.base,I.loc,I.cell,I.free,I.freeC,I.pin,I.hok,I.len⟩
theorem SP.unwish {D:JK} {f:Flow} {s':Shared} (h:SP (X.wish E) pins D f s'):SP X pins D f s':=by
 cases f with
 | next=>obtain⟨σ',H',I,q⟩:=h;exact⟨σ',H',I.unwish,q⟩
 | brk=>obtain⟨σ',H',I,q⟩:=h;exact⟨σ',H',I.unwish,q⟩
 | cont=>obtain⟨σ',H',I,q⟩:=h;exact⟨σ',H',I.unwish,q⟩
 | ret u=>obtain⟨v,σ',H',I,r,q⟩:=h;exact⟨v,σ',H',I.unwish,r,q⟩
theorem PSs.nox {st:List Stmt} {t:TS} (h:PSs X.nox st t):PSs X st t:=fun pins s σ H D I hw=>
 A4 (h pins s σ H D (I.wish _) hw) (fun _ _ q=>q.unwish) fun _ _ z=>False.elim z
end
section
variable {X : Cx} {st : Stmt} {rest : List Stmt} {t u : TS} {e : Expr} {te : TE} {pos : Pos}
def tNext:TS:=fun D σ H=>D.nx σ H
def tSeq (t u:TS):TS:=fun D σ H=>t { D with nx:=u D } σ H
theorem zq:PSs X [] tNext:=fun _ _ σ H _ I h=>By ⟨σ,H,I,h⟩
theorem ze (h1:PS X st t) (h2:PSs X rest u):PSs X (st :: rest) (tSeq t u):=by
 intro pins s σ H D I h
 refine wpAny_execs_cons (thn (h1 pins s σ H { D with nx:=u D } I h) fun f s1 q=>?_)
 cases f with
 | next=>
  obtain⟨σ',H',I',q⟩:=q
  exact h2 pins s1 σ' H' D I' q
 | ret v=>exact q
 | brk=>exact q
 | cont=>exact q
theorem zg (h1:PS X st t):PSs X [st] t:=by
 intro pins s σ H D I h
 refine wpAny_execs_cons (thn (h1 pins s σ H D I h) fun f s1 q=>?_)
 cases f with
 | next=>exact By q
 | ret v=>exact q
 | brk=>exact q
 | cont=>exact q
theorem Inv.quiet {pins:List (Addr×Obj)} {σ:St} {H:Hp} {s:Shared} (I:Inv X pins σ H s):interactive X.env=false:=by simp[interactive,I.ok.kind]
def tDrop (te:TE):TS:=fun D σ H=>te σ H fun _ H1=>D.nx σ H1
theorem qr (he:PE X e te) (hs:swapsWith e none pos.line X.env=pure false:=by rfl):PS X (.Expr e pos) (tDrop te):=by
 intro pins s σ H D I h
 exact wpAny_Expr_any (thn (he pins s σ H _ I h) fun v s1 ⟨x,H1,I1,r1,q1⟩=>⟨σ,H1,I1,q1⟩) I.quiet hs
def tRet (te:TE):TS:=fun D σ H=>te σ H D.rt
theorem zr (he:PE X e te):PS X (.Return (some e) pos) (tRet te):=by
 intro pins s σ H D I h
 exact wpAny_Return_some (thn (he pins s σ H _ I h) fun v s1 ⟨x,H1,I1,r1,q1⟩=>⟨x,σ,H1,I1,r1,q1⟩)
def tIfS (c:TT) (t u:TS):TS:=fun D σ H=>c σ H fun b H1=>if b=true then t D σ H1 else u D σ H1
theorem zO {c:Expr} {a b:List Stmt} {tc:TT} (hc:PT X c tc) (ha:PSs X a t) (hb:PSs X b u):PS X (.If c a b pos) (tIfS tc t u):=by
 intro pins s σ H D I h
 refine wpAny_If (thn (hc pins s σ H _ I h) fun d s1 ⟨H1,I1,q1⟩=>?_)
 cases d with
 | true=>exact ha pins s1 σ H1 D I1 q1
 | false=>exact hb pins s1 σ H1 D I1 q1
end
abbrev TG:=V->St->Hp->(St->Hp->Prop)->Prop
abbrev TGs:=List V->St->Hp->(St->Hp->Prop)->Prop
def PG (X:Cx) (target:Expr) (t:TG):Prop:=
 ∀ (pins:List (Addr×Obj)) (s:Shared) (σ:St) (H:Hp) (v:V) (u:Value) (Q:St->Hp->Prop),Inv X pins σ H s->RelV v u->t v σ H Q ->
  wpAny (model X.prog X.w) X.A (assign target X.env u) (fun _ s'=>∃ σ' H',Inv X pins σ' H' s'/\Q σ' H') X.xe s
def PGs (X:Cx) (ts:List Expr) (t:TGs):Prop:=
 ∀ (pins:List (Addr×Obj)) (s:Shared) (σ:St) (H:Hp) (vs:List V) (us:List Value) (Q:St->Hp->Prop),Inv X pins σ H s->zR vs us->t vs σ H Q ->
  wpAny (model X.prog X.w) X.A (assignInOrder ((assignEach ts X.env).map (·.2)) us) (fun _ s'=>∃ σ' H',Inv X pins σ' H' s'/\Q σ' H') X.xe s
section
variable {X : Cx} {pos : Pos}
def Zg (i:Nat):TG:=fun v σ H Q=>Q (σ.set i (some v)) H
theorem WH {i:Nat} {x:Str} (hN:X.N.Nodup) (hi:X.N[i]? = some x) (hx:Loc X.env.scope x) (hf:X.fn x=true\/X.env.scope.names.lookup x=some .local:=by first | exact .inl rfl | exact .inr rfl | assumption):PG X (.Name x pos) (Zg i):=by
 intro pins s σ H v u Q I r h
 exact wpAny_assign_Name (Zj I hN hi hx r (fun s' I'=>⟨_,H,I',h⟩) hf)
def gNil:TGs:=fun vs σ H Q=>vs=[]/\Q σ H
def gCons (t:TG) (u:TGs):TGs:=fun vs σ H Q=>∃ v r,vs=v :: r/\t v σ H fun σ' H'=>u r σ' H' Q
theorem pgs_nil:PGs X [] gNil:=by
 intro pins s σ H vs us Q I r h
 obtain⟨e,h⟩:=h
 subst e
 cases r
 exact assignInOrder_nil ⟨σ,H,I,h⟩
theorem wx {e:Expr} {es:List Expr} {t:TG} {u:TGs} (h1:PG X e t) (h2:PGs X es u)
  (hs:(assignEach (e :: es) X.env).map (·.2)=assign e X.env :: (assignEach es X.env).map (·.2):=by rfl):PGs X (e :: es) (gCons t u):=by
 intro pins s σ H vs us Q I r h
 obtain⟨v,vr,e1,h⟩:=h
 subst e1
 cases r with
 | cons r rr=>
  rw[hs]
  refine assignInOrder_cons (thn (h1 pins s σ H _ _ _ I r h) fun _ s1 ⟨σ1,H1,I1,q1⟩=>?_)
  exact h2 pins s1 σ1 H1 _ _ Q I1 rr q1
def gTup (K:PySem.W.Frag) (n:Nat) (t:TGs):TG:=fun v σ H Q=>∃ a xs,v=.ref a/\SqT K H a xs/\xs.length=n/\t xs σ H Q
theorem pg_tup {es:List Expr} {k:Nat} {t:TGs} {n:Nat} (hc:X.calm=true) (h:PGs X es t)
  (hn:(assignEach es X.env).length=n:=by rfl) (hst:(assignEach es X.env).findIdx? (·.1)=none:=by rfl):PG X (.Tuple es k pos) (gTup X.K n t):=by
 intro pins s σ H v u Q I r hw
 obtain⟨a,xs,e1,hq,hl,hw⟩:=hw
 subst e1
 cases r
 obtain⟨its,rv,ht,hz⟩:=I.tuple hq
 refine assign_Tuple_tuple (I.ok.hd hc) ht (by simp[hn,<- hl,rv.length]) hst fun h' hx=>?_
 have I1:Inv X pins σ H { s with heap:=h' }:=I.kept (t':=s.toks) fun b o e=>hx b o (AW (AI e)) e
 exact h pins _ σ H xs _ Q I1 (by simpa using rv) hw
def tAsg (te:TE) (g:TG):TS:=fun D σ H=>te σ H fun x H1=>g x σ H1 D.nx
theorem ps_asg {tg e:Expr} {te:TE} {g:TG} (he:PE X e te) (hg:PG X tg g) (hs:swapsWithSole [tg] e pos.line X.env=pure false:=by rfl) (hw:swappedStores [tg] e X.env=pure none:=by rfl)
  (h1:(assignEach [tg] X.env).map (·.2)=[assign tg X.env]:=by rfl):PS X (.Assign [tg] e pos) (tAsg te g):=by
 intro pins s σ H D I h
 refine wpAny_Assign_stores (thn (he pins s σ H _ I h) fun v s1 ⟨x,H1,I1,r1,q1⟩=>?_) hs hw
 rw[h1]
 exact thn (hg pins s1 σ H1 x v _ I1 r1 q1) fun _ s2 q=>q
theorem zx {i:Nat} {x:Str} {e:Expr} {te:TE} {pos':Pos} (hN:X.N.Nodup) (hi:X.N[i]? = some x) (hx:Loc X.env.scope x) (he:PE X e te) (hs:swapsWith e (some (.Name x pos')) pos.line X.env=pure false:=by rfl) (hf:X.fn x=true\/X.env.scope.names.lookup x=some .local:=by first | exact .inl rfl | exact .inr rfl | assumption) :
  PS X (.Assign [.Name x pos'] e pos) (tAsg te (Zg i)):=by
 intro pins s σ H D I h
 refine wpAny_Assign_Name (thn (he pins s σ H _ I h) fun v s1 ⟨y,H1,I1,r1,q1⟩=>?_) hs
 exact Zj I1 hN hi hx r1 (fun s2 I2=>⟨_,H1,I2,q1⟩) hf
end
section
variable {X : Cx} {pos : Pos}
def tWhile (c:TT) (tb:TS):TS:=fun D σ H=>∃ W:Nat->St->Hp->Prop,(∃ m,W m σ H)/\∀ m σ H,W m σ H ->
 c σ H fun b H1=>if b=true then ∃ N:St->Hp->Prop,(∀ σ' H',N σ' H'->∃ m',m' < m/\W m' σ' H')/\tb { D with nx:=N,ct:=N,bk:=D.nx } σ H1 else D.nx σ H1
theorem wy {c:Expr} {body:List Stmt} {tc:TT} {tb:TS} (hp:PassesOwn (model X.prog X.w) X.A X.env X.xe) (hc:PT X c tc) (hb:PSs X body tb):PS X (.While c body [] pos) (tWhile tc tb):=by
 intro pins s σ H D I h
 obtain⟨W,⟨m0,w0⟩,turn⟩:=h
 refine wpAny_While (codeAny_whileLoop (fun n s'=>∃ σ' H',Inv X pins σ' H' s'/\W n σ' H') ?_ m0 ⟨σ,H,I,w0⟩)
 rintro n s1 ⟨σ1,H1,I1,w1⟩
 refine BN hp (thn (hc pins s1 σ1 H1 _ I1 (turn n σ1 H1 w1)) fun b s2 ⟨H2,I2,q2⟩=>?_)
 cases b with
 | true=>
  obtain⟨N,hN,q2⟩:=q2
  rw[if_pos rfl]
  refine BN hp (thn (hb pins s2 σ1 H2 _ I2 q2) fun f s3 q3=>?_)
  cases f with
  | next=>
   obtain⟨σ3,H3,I3,n3⟩:=q3
   obtain⟨m',hm,w3⟩:=hN σ3 H3 n3
   exact⟨m',hm,σ3,H3,I3,w3⟩
  | cont=>
   obtain⟨σ3,H3,I3,n3⟩:=q3
   obtain⟨m',hm,w3⟩:=hN σ3 H3 n3
   exact⟨m',hm,σ3,H3,I3,w3⟩
  | brk=>exact q3
  | ret v=>exact q3
 | false=>
  rw[if_neg AK]
  exact By ⟨σ1,H2,I2,q2⟩
end
structure It where
 go:Nat->Hp->Prop
 yld:Nat->Hp->V->Hp->Prop
 stop:Nat->Hp->Prop
def WI (X:Cx) (pins:List (Addr×Obj)) (H:Hp) (b:Addr):Prop:=
 H b=none/\b ≠ X.env.locals/\b ∉ X.fs/\(b ∈ X.ex\/X.s₀.heap.objs.size<=b)/\(∀ x c,X.env.cells.lookup x=some c->c ≠ b)/\∀ p ∈ X.pn++pins,p.1 ≠ b
theorem Inv.fpOk {X:Cx} {pins:List (Addr×Obj)} {σ:St} {H H':Hp} {s:Shared} {b:Addr} (I:Inv X pins σ H s) (hb:s.heap.objs.size<=b) (hn:H' b=none):WI X pins H' b:=by
 refine⟨hn,Bd (AN I.lt hb),I.nofs hb,.inr (Ab I.sz hb),fun x c e z=>?_,fun p hp z=>?_⟩
 ·obtain⟨v,q⟩:=I.cell x c e
  exact absurd (AN q.lt (by rw[z];exact hb)) (A1 _)
 ·exact absurd (AN (AI (I.pin p hp).1) (by rw[z];exact hb)) (A1 _)
structure Turn (P:Program) (w:World) (K:PySem.W.Frag) (tg:Expr) (J:It) (fp:List Addr) (it:Addr) (tn:Nat->Heap->Prop):Prop where
 mem:it ∈ fp
 obj:∀ i h,tn i h->∀ b ∈ fp,∃ o,h.get? b=some o/\∀ v,o.data ≠ .cell v
 keep:∀ i h h',tn i h->(∀ b ∈ fp,∀ o,h.get? b=some o->h'.get? b=some o)->tn i h'
 item:∀ (X:Cx),X.prog=P->X.w=w->X.K=K->X.calm=true->∀ (i:Nat) (pins:List (Addr×Obj)) (s:Shared) (σ:St) (H:Hp) (E:Value->Shared->Prop),Inv X pins σ H s->(∀ b ∈ fp,WI X pins H b)->tn i s.heap->J.go i H ->
  wpAny (model P w) X.A (pyNext (.ref it)) (fun r s1=>∃ u,r=some u /\
   wpAny (model P w) X.A (letOwnedTupleGo tg (.ref it) u) (fun _ s2=>∃ x H',Inv X pins σ H' s2/\RelV x u/\J.yld i H x H'/\tn (i+1) s2.heap/\∀ b ∈ fp,H' b=none) E s1) E s
 done:∀ (X:Cx),X.prog=P->X.w=w->X.K=K->X.calm=true->∀ (i:Nat) (pins:List (Addr×Obj)) (s:Shared) (σ:St) (H:Hp) (E:Value->Shared->Prop),Inv X pins σ H s->(∀ b ∈ fp,WI X pins H b)->tn i s.heap->J.stop i H ->
  wpAny (model P w) X.A (pyNext (.ref it)) (fun r s1=>r=none/\Inv X pins σ H s1) E s
 self:∀ (A:Around) (i:Nat) (s:Shared) (Q:Value->Shared->Prop) (E:Value->Shared->Prop),tn i s.heap->Q (.ref it) s->wpAny (model P w) A (pyIter (.ref it)) Q E s
abbrev TI:=St->Hp->(It->Hp->Prop)->Prop
def PIE (X:Cx) (pins:List (Addr×Obj)) (σ:St) (tg:Expr) (R:It->Hp->Prop) (itv:Value) (s2:Shared):Prop:=
 ∃ (it:Addr) (fp:List Addr) (tn:Nat->Heap->Prop) (J:It) (H':Hp),itv=.ref it/\Inv X pins σ H' s2/\Turn X.prog X.w X.K tg J fp it tn/\tn 0 s2.heap/\(∀ b ∈ fp,WI X pins H' b)/\R J H'
def PI (X:Cx) (tg iter:Expr) (wi:TI):Prop:=
 ∀ (pins:List (Addr×Obj)) (s:Shared) (σ:St) (H:Hp) (R:It->Hp->Prop),Inv X pins σ H s->wi σ H R ->
  wpAny (model X.prog X.w) X.A (eval iter X.env) (fun v s1=>wpAny (model X.prog X.w) X.A (pyIter v) (PIE X pins σ tg R) X.xe s1) X.xe s
theorem go_of {M : Model} {A : Around} {E : Value -> Shared -> Prop} {s : Shared} {tg : Expr} {it : Addr} {u : Value} {o : Obj} {n : String} {vs : Array Value} {Q : Unit -> Shared -> Prop} (ho : s.heap.get? it = some o) (hc : o.cls = .type n) (hd : o.data = .fields vs)
    (hn : ["enumerate", "zip", "dict_itemiterator", "dict_reverseitemiterator", "odict_iterator", "itertools.zip_longest", "itertools.pairwise"].contains n = false) (hQ : Q () s) : wpAny M A (letOwnedTupleGo tg (.ref it) u) Q E s := by
  unfold letOwnedTupleGo
  cases tg <;> first
    | exact AB hQ
    | (cases u <;> first
        | exact AB hQ
        | (refine AA (wpAny_load ho ?_)
           rw [hc, hd]
           show wpAny M A (if (["enumerate", "zip", "dict_itemiterator", "dict_reverseitemiterator", "odict_iterator", "itertools.zip_longest", "itertools.pairwise"].contains n && vs[0]? == some (rawInt _)) = true then _ else _) Q E s
           rw [if_neg (by intro h; rw [hn, Bool.false_and] at h; cases h)]
           exact AB hQ))
def Itl (K:PySem.W.Frag) (a:Addr):It:=
 ⟨fun i H=>∃ xs x,SqL K H a xs/\xs[i]? = some x,fun i H x H'=>H'=H/\∀ xs,SqL K H a xs->xs[i]? = some x,fun i H=>∃ xs,SqL K H a xs/\xs.length<=i⟩
def Itt (K:PySem.W.Frag) (a:Addr):It:=
 ⟨fun i H=>∃ xs x,SqT K H a xs/\xs[i]? = some x,fun i H x H'=>H'=H/\∀ xs,SqT K H a xs->xs[i]? = some x,fun i H=>∃ xs,SqT K H a xs/\xs.length<=i⟩
def Itr (lo:Int) (n:Nat):It:=⟨fun i _=>i < n,fun i H x H'=>H'=H/\x=.int (lo+i),fun i _=>n<=i⟩
theorem WJ {P:Program} {w:World} {K:PySem.W.Frag} {tg:Expr} (a it:Addr):Turn P w K tg (Itl K a) [it] it (fun i h=>h.IsListIter it a i) where
 mem:=by simp
 obj:=fun i h st b hb=>by
  have e:b=it:=by simpa using hb
  subst e
  obtain⟨o,e,c,d⟩:=st
  exact⟨o,e,fun v z=>by rw[d] at z;cases z⟩
 keep:=fun i h h' st k=>st.at fun o e=>k it (by simp) o e
 item:=by
  intro X hP hw hK hc i pins s σ H E I hf st hg
  subst hP hw hK
  obtain⟨xs,x,hq,hx⟩:=hg
  obtain⟨its,rv,p,hz⟩:=I.list hq
  obtain⟨u,hu,ru⟩:=rv.get hx
  obtain⟨f0,f1,f2,f3,f4,f5⟩:=hf it (by simp)
  refine wpAny_pyNext_list_item st p.isList (x:=u) (by simpa using hu) fun h' st' sb=>?_
  have I1:Inv X pins σ H { s with heap:=h' }:=I.turned (t':=s.toks) (fun b o hb e=>(sb.2 b hb).trans e) f0 f1 f3 f4 f5
  obtain⟨o,e,c,d⟩:=id st'
  exact⟨u,rfl,go_of (s:={ s with heap:=h' }) e c d (by decide) ⟨x,H,I1,ru,⟨rfl,fun ys hy=>by rw[I.list_inj hy hq];exact hx⟩,st',fun b hb=>(hf b hb).1⟩⟩
 done:=by
  intro X hP hw hK hc i pins s σ H E I hf st hg
  subst hP hw hK
  obtain⟨xs,hq,hx⟩:=hg
  obtain⟨its,rv,p,hz⟩:=I.list hq
  obtain⟨f0,f1,f2,f3,f4,f5⟩:=hf it (by simp)
  have hl:=rv.length
  exact wpAny_pyNext_list_end (I.ok.hd hc) st p.isList (by simp;omega) fun h' eb=>⟨rfl,I.turned (t':=s.toks) (fun b o hb e=>eb b o hb e) f0 f1 f3 f4 f5⟩
 self:=fun _ _ _ _ _ st h=>wpAny_pyIter_listiter st h
theorem Wb {P:Program} {w:World} {K:PySem.W.Frag} {tg:Expr} (a it:Addr):Turn P w K tg (Itt K a) [it] it (fun i h=>h.IsTupleIter it a i) where
 mem:=by simp
 obj:=fun i h st b hb=>by
  have e:b=it:=by simpa using hb
  subst e
  obtain⟨o,e,c,d⟩:=st
  exact⟨o,e,fun v z=>by rw[d] at z;cases z⟩
 keep:=fun i h h' st k=>st.at fun o e=>k it (by simp) o e
 item:=by
  intro X hP hw hK hc i pins s σ H E I hf st hg
  subst hP hw hK
  obtain⟨xs,x,hq,hx⟩:=hg
  obtain⟨its,rv,p,hz⟩:=I.tuple hq
  obtain⟨u,hu,ru⟩:=rv.get hx
  obtain⟨f0,f1,f2,f3,f4,f5⟩:=hf it (by simp)
  refine wpAny_pyNext_tuple_item st (show s.heap.IsTuple a its.toArray from p) (x:=u) (by simpa using hu) fun h' st' sb=>?_
  have I1:Inv X pins σ H { s with heap:=h' }:=I.turned (t':=s.toks) (fun b o hb e=>(sb.2 b hb).trans e) f0 f1 f3 f4 f5
  obtain⟨o,e,c,d⟩:=id st'
  exact⟨u,rfl,go_of (s:={ s with heap:=h' }) e c d (by decide) ⟨x,H,I1,ru,⟨rfl,fun ys hy=>by rw[I.tuple_inj hy hq];exact hx⟩,st',fun b hb=>(hf b hb).1⟩⟩
 done:=by
  intro X hP hw hK hc i pins s σ H E I hf st hg
  subst hP hw hK
  obtain⟨xs,hq,hx⟩:=hg
  obtain⟨its,rv,p,hz⟩:=I.tuple hq
  obtain⟨f0,f1,f2,f3,f4,f5⟩:=hf it (by simp)
  have hl:=rv.length
  exact wpAny_pyNext_tuple_end (I.ok.hd hc) st (show s.heap.IsTuple a its.toArray from p) (by simp;omega) fun h' eb=>⟨rfl,I.turned (t':=s.toks) (fun b o hb e=>eb b o hb e) f0 f1 f3 f4 f5⟩
 self:=fun _ _ _ _ _ st h=>wpAny_pyIter_tupleiter st h
theorem Wc {P:Program} {w:World} {K:PySem.W.Frag} {tg:Expr} (it:Addr) (lo:Int) (n:Nat):Turn P w K tg (Itr lo n) [it] it (fun i h=>IsRangeIter h it (lo+(i:Nat) * 1) ((n:Int) - (i:Nat)) 1) where
 mem:=by simp
 obj:=fun i h st b hb=>by
  have e:b=it:=by simpa using hb
  subst e
  exact⟨_,st,fun v z=>by
   have z':Data.fields _=Data.cell v:=z
   cases z'⟩
 keep:=fun i h h' st k=>k it (by simp) _ st
 item:=by
  intro X hP hw hK hc i pins s σ H E I hf st hg
  subst hP hw hK
  obtain⟨f0,f1,f2,f3,f4,f5⟩:=hf it (by simp)
  have W:=Walks.range (prog:=X.prog) (w:=X.w) (I.ok.hd hc) it lo 1 n
  refine W.item i s _ _ hg st fun v h' tk hv st' kk=>?_
  obtain⟨t,rfl⟩:=hv
  have I1:Inv X pins σ H { s with heap:=h',toks:=tk }:=I.turned (fun b o hb e=>kk b o (by simpa using hb) e) f0 f1 f3 f4 f5
  refine⟨_,rfl,go_of (s:={ s with heap:=h',toks:=tk }) (n := "range_iterator") st' rfl rfl (by decide) ⟨.int (lo+i),H,I1,⟨t,?_⟩,⟨rfl,rfl⟩,st',fun b hb=>(hf b hb).1⟩⟩
  rw[Int.mul_one]
 done:=by
  intro X hP hw hK hc i pins s σ H E I hf st hg
  subst hP hw hK
  obtain⟨f0,f1,f2,f3,f4,f5⟩:=hf it (by simp)
  exact wpAny_pyNext_range_end (I.ok.hd hc) st (by have:n<=i:=hg;omega) fun h' eb=>⟨rfl,I.turned (t':=s.toks) (fun b o hb e=>eb b o hb e) f0 f1 f3 f4 f5⟩
 self:=fun _ _ _ _ _ st h=>wpAny_pyIter_rangeiter st h
section
variable {X : Cx} {tg : Expr}
def iList (K:PySem.W.Frag) (tl:TE):TI:=fun σ H R=>tl σ H fun x H1=>∃ a,x=.ref a/\(∃ xs,SqL K H1 a xs)/\R (Itl K a) H1
def iTup (K:PySem.W.Frag) (tl:TE):TI:=fun σ H R=>tl σ H fun x H1=>∃ a,x=.ref a/\(∃ xs,SqT K H1 a xs)/\R (Itt K a) H1
theorem pi_list {l:Expr} {tl:TE} (hl:PE X l tl):PI X tg l (iList X.K tl):=by
 intro pins s σ H R I h
 refine thn (hl pins s σ H _ I h) fun v s1 ⟨x,H1,I1,r1,q1⟩=>?_
 obtain⟨a,e,⟨xs,hq⟩,q⟩:=q1
 subst e
 cases r1
 obtain⟨its,rv,p,hz⟩:=I1.list hq
 refine Cs p.isList ?_
 refine⟨s1.heap.objs.size,[s1.heap.objs.size],_,_,H1,rfl,I1.kept (t':=s1.toks) fun b o e=>AC _ e,WJ a _,⟨_,AM _ rfl,rfl,rfl⟩,fun b hb=>?_,q⟩
 have e:b=s1.heap.objs.size:=by simpa using hb
 subst e
 exact I1.fpOk (AG _) (I1.hok.fresh (AG _))
theorem pi_tup {l:Expr} {tl:TE} (hl:PE X l tl):PI X tg l (iTup X.K tl):=by
 intro pins s σ H R I h
 refine thn (hl pins s σ H _ I h) fun v s1 ⟨x,H1,I1,r1,q1⟩=>?_
 obtain⟨a,e,⟨xs,hq⟩,q⟩:=q1
 subst e
 cases r1
 obtain⟨its,rv,p,hz⟩:=I1.tuple hq
 refine wpAny_pyIter_tuple (show s1.heap.IsTuple a its.toArray from p) ?_
 refine⟨s1.heap.objs.size,[s1.heap.objs.size],_,_,H1,rfl,I1.kept (t':=s1.toks) fun b o e=>AC _ e,Wb a _,⟨_,AM _ rfl,rfl,rfl⟩,fun b hb=>?_,q⟩
 have e:b=s1.heap.objs.size:=by simpa using hb
 subst e
 exact I1.fpOk (AG _) (I1.hok.fresh (AG _))
theorem wz {pins:List (Addr×Obj)} {σ:St} {H:Hp} {s:Shared} {R:It->Hp->Prop} {E:Value->Shared->Prop} {lo hi:Int} {t u v:Tok} {tk:Nat} (I:Inv X pins σ H s) (h1:-(2 ^ 62)<=lo) (h2:lo < 2 ^ 62) (h3:-(2 ^ 62)<=hi) (h4:hi < 2 ^ 62)
  (q:R (Itr lo (hi - lo).toNat) H):wpAny (model X.prog X.w) X.A (pyIter (.ref s.heap.objs.size)) (PIE X pins σ tg R) E { s with heap:=s.heap.push { cls:=.type "range",data:=.fields #[.int lo t,.int hi u,.int 1 v] },toks:=tk }:=by
 refine wpAny_pyIter_range (IsRange.new ..) (small_one h1 h2 h3 h4) ?_
 have I1:Inv X pins σ H { s with heap:=s.heap.push { cls:=.type "range",data:=.fields #[.int lo t,.int hi u,.int 1 v] },toks:=tk }:=I.kept fun b o e=>AC _ e
 refine⟨(s.heap.push { cls:=.type "range",data:=.fields #[.int lo t,.int hi u,.int 1 v] }).objs.size,[(s.heap.push { cls:=.type "range",data:=.fields #[.int lo t,.int hi u,.int 1 v] }).objs.size],_,_,H,rfl,
  I1.kept (t':=tk) fun b o e=>AC _ e,Wc _ lo (hi - lo).toNat,?_,fun b hb=>?_,q⟩
 ·have e1:lo+((0:Nat):Int) * 1=lo:=by simp
  have e2:(((hi - lo).toNat:Nat):Int) - ((0:Nat):Int)=Builtin.Range.rangeSize lo hi 1:=by rw[rangeSize_one];split <;> omega
  show IsRangeIter _ _ (lo+((0:Nat):Int) * 1) ((((hi - lo).toNat:Nat):Int) - ((0:Nat):Int)) 1
  rw[e1,e2]
  exact AM _ rfl
 ·have e:b=(s.heap.push { cls:=.type "range",data:=.fields #[.int lo t,.int hi u,.int 1 v] }).objs.size:=by simpa using hb
  subst e
  exact I1.fpOk (AG _) (I1.hok.fresh (AG _))
def iRng1 (ta:TA):TI:=fun σ H R=>ta σ H fun vs H1=>∃ j:Int,vs=[.int j] /\ -(2 ^ 62)<=j/\j < 2 ^ 62/\R (Itr 0 j.toNat) H1
def iRng2 (ta:TA):TI:=fun σ H R=>ta σ H fun vs H1=>∃ i j:Int,vs=[.int i,.int j]/\(-(2 ^ 62)<=i/\i < 2 ^ 62 /\ -(2 ^ 62)<=j/\j < 2 ^ 62)/\R (Itr i (j - i).toNat) H1
theorem Zw {a:Expr} {ta:TA} {p pos:Pos} (hg:Gl X "range") (hm:X.mg "range" = none) (ha:PA X [a] ta) (hs:starEach [a] X.env=[(false,eval a X.env)]:=by rfl):PI X tg (.Call (.Name "range" p) [a] [] pos) (iRng1 ta):=by
 intro pins s σ H R I h
 refine Call_ (Zt I hg hm boot_range (A9 (thn (ha pos pins s σ H _ I h) fun us s1 ⟨vs,H1,I1,r1,q1⟩=>?_) hs rfl))
 obtain⟨j,e,q1,q2,q⟩:=q1
 subst e
 cases r1 with
 | cons r rr=>
  cases rr
  obtain⟨t,rfl⟩:=r
  exact call_range_1 (wz I1 (by omega) (by omega) q1 q2 (by simpa using q))
theorem WK {a b:Expr} {ta:TA} {p pos:Pos} (hg:Gl X "range") (hm:X.mg "range" = none) (ha:PA X [a,b] ta) (hs:starEach [a,b] X.env=[(false,eval a X.env),(false,eval b X.env)]:=by rfl) (hs2:starEach [b] X.env=[(false,eval b X.env)]:=by rfl) :
  PI X tg (.Call (.Name "range" p) [a,b] [] pos) (iRng2 ta):=by
 intro pins s σ H R I h
 refine Call_ (Zt I hg hm boot_range (A9 (thn (ha pos pins s σ H _ I h) fun us s1 ⟨vs,H1,I1,r1,q1⟩=>?_) (by rw[hs,hs2]) (by rw[hs2];rfl)))
 obtain⟨i,j,e,⟨q1,q2,q3,q4⟩,q⟩:=q1
 subst e
 cases r1 with
 | cons r rr=>
  cases rr with
  | cons r' rr=>
   cases rr
   obtain⟨t,rfl⟩:=r
   obtain⟨t',rfl⟩:=r'
   exact call_range_2 (wz I1 q1 q2 q3 q4 q)
def tFor (wi:TI) (g:TG) (tb:TS):TS:=fun D σ H=>wi σ H fun J H1=>∃ W:Nat->Nat->St->Hp->Prop,(∃ m,W 0 m σ H1)/\∀ i m σ H,W i m σ H ->
 (J.stop i H/\D.nx σ H)\/(J.go i H/\∃ N:St->Hp->Prop,(∀ σ' H',N σ' H'->∃ m',m' < m/\W (i+1) m' σ' H')/\∀ x H',J.yld i H x H'->g x σ H' fun σ2 H2=>tb { D with nx:=N,ct:=N,bk:=D.nx } σ2 H2)
def Q4 (fp:List Addr) (h:Heap):List (Addr×Obj):=fp.filterMap fun b=>(h.get? b).map fun o=>(b,o)
theorem jw {fp:List Addr} {h:Heap} {b:Addr} {o:Obj} (hb:b ∈ fp) (e:h.get? b=some o):(b,o) ∈ Q4 fp h:=Cd.mpr ⟨b,hb,by rw[e];rfl⟩
theorem WL {fp:List Addr} {h:Heap} {p:Addr×Obj} (hp:p ∈ Q4 fp h):p.1 ∈ fp/\h.get? p.1=some p.2:=by
 obtain⟨b,hb,e⟩:=Cd.mp hp
 cases q:h.get? b with
 | none=>rw[q] at e;cases e
 | some o=>
  rw[q] at e
  have e':(b,o)=p:=AO e
  subst e'
  exact⟨hb,q⟩
theorem Inv.pinned {pins:List (Addr×Obj)} {σ:St} {H:Hp} {s:Shared} {fp:List Addr} (I:Inv X pins σ H s) (hf:∀ b ∈ fp,WI X pins H b) (ho:∀ b ∈ fp,∃ o,s.heap.get? b=some o/\∀ v,o.data ≠ .cell v):Inv X (pins++Q4 fp s.heap) σ H s:=
 I.pins_of fun p hp=>(Ae.mp hp).elim (fun z=>I.pin p (AX _ z)) fun z=>by
  obtain⟨hb,e⟩:=WL z
  obtain⟨f0,f1,f2,_⟩:=hf p.1 hb
  obtain⟨o,e',d⟩:=ho p.1 hb
  rw[e] at e';cases e'
  exact⟨e,f0,f1,f2,d⟩
theorem Inv.unpinned {pins pl:List (Addr×Obj)} {σ:St} {H:Hp} {s:Shared} (I:Inv X (pins++pl) σ H s):Inv X pins σ H s:=I.pins_of fun p hp=>I.pin p (AX _ (A6 _ hp))
theorem jl {iter:Expr} {body:List Stmt} {wi:TI} {g:TG} {tb:TS} {pos:Pos} (hp:PassesOwn (model X.prog X.w) X.A X.env X.xe) (hc:X.calm=true) (hi:PI X tg iter wi) (hg:PG X tg g) (hb:PSs X body tb)
  (hs:∀ x,foldedSetIterable iter X.env x=pure x:=by intro _;rfl):PS X (.For tg iter body [] pos) (tFor wi g tb):=by
 intro pins s σ H D I h
 refine wpAny_For (thn (hi pins s σ H _ I h) fun v s1 h1=>thn h1 fun itv s2 h2=>?_) hs
 obtain⟨it,fp,tn,J,H2,e,I2,T,st2,f2,W,⟨m0,w0⟩,turn⟩:=h2
 subst e
 -- what stays true of the iterator's objects through the loop
 have stat:∀ {H':Hp},(∀ b ∈ fp,H' b=none)->∀ b ∈ fp,WI X pins H' b:=fun hn b hb=>⟨hn b hb,(f2 b hb).2⟩
 refine codeAny_forLoop_any (fun n s'=>∃ i σ' H',Inv X pins σ' H' s'/\tn i s'.heap/\(∀ b ∈ fp,H' b=none)/\W i n σ' H') ?_ m0 ⟨0,σ,H2,I2,st2,fun b hb=>(f2 b hb).1,w0⟩
 rintro n s3 ⟨i,σ3,H3,I3,st3,fr3,w3⟩
 rcases turn i n σ3 H3 w3 with ⟨stop,qn⟩ | ⟨go,N,hN,step⟩
 ·refine BN hp (thn (T.done X rfl rfl rfl hc i pins s3 σ3 H3 X.xe I3 (stat fr3) st3 stop) fun r s4 ⟨hr,I4⟩=>?_)
  subst hr
  exact By ⟨σ3,H3,I4,qn⟩
 ·refine BN hp (thn (T.item X rfl rfl rfl hc i pins s3 σ3 H3 X.xe I3 (stat fr3) st3 go) fun r s4 ⟨u,hr,h4⟩=>?_)
  subst hr
  refine BN hp (thn h4 fun _ s5 ⟨x,H5,I5,r5,y5,st5,fr5⟩=>?_)
  have I5':=I5.pinned (stat fr5) (T.obj _ _ st5)
  refine BN hp (thn (hg _ s5 σ3 H5 x u _ I5' r5 (step x H5 y5)) fun _ s6 ⟨σ6,H6,I6,q6⟩=>?_)
  refine BN hp (thn (hb _ s6 σ6 H6 _ I6 q6) fun f s7 q7=>?_)
  have again:∀ {σ7:St} {H7:Hp},Inv X (pins++Q4 fp s5.heap) σ7 H7 s7->N σ7 H7->∃ m,m < n/\∃ i σ' H',Inv X pins σ' H' s7/\tn i s7.heap/\(∀ b ∈ fp,H' b=none)/\W i m σ' H':=fun {σ7 H7} I7 n7=>by
   obtain⟨m',hm,w7⟩:=hN σ7 H7 n7
   refine⟨m',hm,i+1,σ7,H7,I7.unpinned,T.keep _ _ _ st5 fun b hb o e=>(I7.pin (b,o) (AX _ (AX _ (jw hb e)))).1,fun b hb=>?_,w7⟩
   obtain⟨o,e,d⟩:=T.obj _ _ st5 b hb
   exact (I7.pin (b,o) (AX _ (AX _ (jw hb e)))).2.1
  cases f with
  | next=>obtain⟨σ7,H7,I7,n7⟩:=q7;exact again I7 n7
  | cont=>obtain⟨σ7,H7,I7,n7⟩:=q7;exact again I7 n7
  | brk=>obtain⟨σ7,H7,I7,q7⟩:=q7;exact⟨σ7,H7,I7.unpinned,q7⟩
  | ret v=>obtain⟨x7,σ7,H7,I7,r7,q7⟩:=q7;exact⟨x7,σ7,H7,I7.unpinned,r7,q7⟩
end
theorem qY {K:PySem.W.Frag} {a:Addr} {xs:List V} {g:TG} {tb:TS} {D:JK} {σ:St} {H:Hp} (Pv:Nat->St->Hp->Prop) (h0:Pv 0 σ H) (hl:∀ i σ H,i<=xs.length->Pv i σ H->SqL K H a xs)
  (hs:∀ i x σ H,xs[i]? = some x->Pv i σ H->g x σ H fun σ2 H2=>tb { D with nx:=Pv (i+1),ct:=Pv (i+1),bk:=D.nx } σ2 H2) (hd:∀ σ H,Pv xs.length σ H->D.nx σ H) :
  ∃ W:Nat->Nat->St->Hp->Prop,(∃ m,W 0 m σ H)/\∀ i m σ H,W i m σ H ->
   ((Itl K a).stop i H/\D.nx σ H)\/((Itl K a).go i H/\∃ N:St->Hp->Prop,(∀ σ' H',N σ' H'->∃ m',m' < m/\W (i+1) m' σ' H')/\∀ x H',(Itl K a).yld i H x H'->g x σ H' fun σ2 H2=>tb { D with nx:=N,ct:=N,bk:=D.nx } σ2 H2):=by
 refine⟨fun i m σ H=>m=xs.length - i/\i<=xs.length/\Pv i σ H,⟨xs.length,by simp,Ax _,h0⟩,?_⟩
 rintro i m σ H ⟨rfl,hi,p⟩
 have q:=hl i σ H hi p
 by_cases hlt:i < xs.length
 ·refine .inr ⟨⟨xs,xs[i],q,by simp[hlt]⟩,Pv (i+1),fun σ' H' p'=>⟨xs.length - (i+1),by omega,rfl,hlt,p'⟩,fun x H' y=>?_⟩
  obtain⟨e,y⟩:=y
  subst e
  exact hs i x σ _ (y xs q) p
 ·have e:i=xs.length:=by omega
  subst e
  exact .inl ⟨⟨xs,q,AG _⟩,hd σ H p⟩
theorem WM {K:PySem.W.Frag} {a:Addr} {xs:List V} {g:TG} {tb:TS} {D:JK} {σ:St} {H:Hp} (Pv:Nat->St->Hp->Prop) (h0:Pv 0 σ H) (hl:∀ i σ H,i<=xs.length->Pv i σ H->SqT K H a xs)
  (hs:∀ i x σ H,xs[i]? = some x->Pv i σ H->g x σ H fun σ2 H2=>tb { D with nx:=Pv (i+1),ct:=Pv (i+1),bk:=D.nx } σ2 H2) (hd:∀ σ H,Pv xs.length σ H->D.nx σ H) :
  ∃ W:Nat->Nat->St->Hp->Prop,(∃ m,W 0 m σ H)/\∀ i m σ H,W i m σ H ->
   ((Itt K a).stop i H/\D.nx σ H)\/((Itt K a).go i H/\∃ N:St->Hp->Prop,(∀ σ' H',N σ' H'->∃ m',m' < m/\W (i+1) m' σ' H')/\∀ x H',(Itt K a).yld i H x H'->g x σ H' fun σ2 H2=>tb { D with nx:=N,ct:=N,bk:=D.nx } σ2 H2):=by
 refine⟨fun i m σ H=>m=xs.length - i/\i<=xs.length/\Pv i σ H,⟨xs.length,by simp,Ax _,h0⟩,?_⟩
 rintro i m σ H ⟨rfl,hi,p⟩
 have q:=hl i σ H hi p
 by_cases hlt:i < xs.length
 ·refine .inr ⟨⟨xs,xs[i],q,by simp[hlt]⟩,Pv (i+1),fun σ' H' p'=>⟨xs.length - (i+1),by omega,rfl,hlt,p'⟩,fun x H' y=>?_⟩
  obtain⟨e,y⟩:=y
  subst e
  exact hs i x σ _ (y xs q) p
 ·have e:i=xs.length:=by omega
  subst e
  exact .inl ⟨⟨xs,q,AG _⟩,hd σ H p⟩
theorem Zx {lo:Int} {n:Nat} {g:TG} {tb:TS} {D:JK} {σ:St} {H:Hp} (Pv:Nat->St->Hp->Prop) (h0:Pv 0 σ H)
  (hs:∀ i σ H,i < n->Pv i σ H->g (.int (lo+i)) σ H fun σ2 H2=>tb { D with nx:=Pv (i+1),ct:=Pv (i+1),bk:=D.nx } σ2 H2) (hd:∀ σ H,Pv n σ H->D.nx σ H) :
  ∃ W:Nat->Nat->St->Hp->Prop,(∃ m,W 0 m σ H)/\∀ i m σ H,W i m σ H ->
   ((Itr lo n).stop i H/\D.nx σ H)\/((Itr lo n).go i H/\∃ N:St->Hp->Prop,(∀ σ' H',N σ' H'->∃ m',m' < m/\W (i+1) m' σ' H')/\∀ x H',(Itr lo n).yld i H x H'->g x σ H' fun σ2 H2=>tb { D with nx:=N,ct:=N,bk:=D.nx } σ2 H2):=by
 refine⟨fun i m σ H=>m=n - i/\i<=n/\Pv i σ H,⟨n,by simp,Ax _,h0⟩,?_⟩
 rintro i m σ H ⟨rfl,hi,p⟩
 by_cases hlt:i < n
 ·refine .inr ⟨hlt,Pv (i+1),fun σ' H' p'=>⟨n - (i+1),by omega,rfl,hlt,p'⟩,fun x H' y=>?_⟩
  obtain⟨e,y⟩:=y
  subst e y
  exact hs i σ _ hlt p
 ·have e:i=n:=by omega
  subst e
  exact .inl ⟨AG _,hd σ H p⟩
theorem while_by {c:TT} {tb:TS} {D:JK} {σ:St} {H:Hp} (Pv:St->Hp->Prop) (μ:St->Hp->Nat) (h0:Pv σ H)
  (hs:∀ σ H,Pv σ H->c σ H fun b H1=>if b=true then tb { D with nx:=fun σ' H'=>Pv σ' H'/\μ σ' H' < μ σ H,ct:=fun σ' H'=>Pv σ' H'/\μ σ' H' < μ σ H,bk:=D.nx } σ H1 else D.nx σ H1)
  (mono:∀ σ H Q Q',(∀ b H1,Q b H1->Q' b H1)->c σ H Q->c σ H Q'):tWhile c tb D σ H:=by
 refine⟨fun m σ H=>m=μ σ H/\Pv σ H,⟨_,rfl,h0⟩,?_⟩
 rintro m σ H ⟨rfl,p⟩
 refine mono σ H _ _ (fun b H1 q=>?_) (hs σ H p)
 cases b with
 | true=>exact⟨_,fun σ' H' ⟨p',l⟩=>⟨_,l,rfl,p'⟩,q⟩
 | false=>exact q
abbrev R2:=V->V->Hp->VK->Prop
def OpR (X:Cx) (f:Value->Value->Sem Value) (r:R2):Prop:=
 ∀ (pins:List (Addr×Obj)) (s:Shared) (σ:St) (H:Hp) (x y:V) (v u:Value) (Q:VK),Inv X pins σ H s->RelV x v->RelV y u->r x y H Q ->
  wpAny (model X.prog X.w) X.A (f v u) (EP X pins σ Q) X.xe s
def UnR (X:Cx) (f:Value->Sem Value) (r:V->Hp->VK->Prop):Prop:=
 ∀ (pins:List (Addr×Obj)) (s:Shared) (σ:St) (H:Hp) (x:V) (v:Value) (Q:VK),Inv X pins σ H s->RelV x v->r x H Q ->
  wpAny (model X.prog X.w) X.A (f v) (EP X pins σ Q) X.xe s
def qU (X:Cx) (f:Value) (r:List V->Hp->VK->Prop):Prop:=
 ∀ (pins:List (Addr×Obj)) (s:Shared) (σ:St) (H:Hp) (xs:List V) (us:List Value) (Q:VK),Inv X pins σ H s->zR xs us->r xs H Q ->
  wpAny (model X.prog X.w) X.A (call f us) (EP X pins σ Q) X.xe s
def tOp (r:R2) (ta tb:TE):TE:=fun σ H Q=>ta σ H fun x H1=>tb σ H1 fun y H2=>r x y H2 Q
def tUn (r:V->Hp->VK->Prop) (ta:TE):TE:=fun σ H Q=>ta σ H fun x H1=>r x H1 Q
def rI (C:Int->Int->Prop) (g:Int->Int->V):R2:=fun x y H Q=>∃ i j,x=.int i/\y=.int j/\C i j/\Q (g i j) H
def rI0 (g:Int->Int->V):R2:=fun x y H Q=>∃ i j,x=.int i/\y=.int j/\Q (g i j) H
def rU (g:Int->V):V->Hp->VK->Prop:=fun x H Q=>∃ i,x=.int i/\Q (g i) H
section
variable {X : Cx} {a b c : Expr} {ta tb tc : TE} {pos : Pos}
theorem binT (ha:PE X a ta) (hb:PE X b tb) {pins:List (Addr×Obj)} {s:Shared} {σ:St} {H:Hp} {R:V->V->Hp->Prop} (I:Inv X pins σ H s)
  (h:ta σ H fun x H1=>tb σ H1 fun y H2=>R x y H2) {Q:Value->Shared->Prop} {f:Value->Value->Sem Value}
  (hf:∀ v u s2 x y H2,Inv X pins σ H2 s2->RelV x v->RelV y u->R x y H2->wpAny (model X.prog X.w) X.A (f v u) Q X.xe s2) :
  wpAny (model X.prog X.w) X.A (eval a X.env) (fun v s₁=>wpAny (model X.prog X.w) X.A (eval b X.env) (fun u s₂=>wpAny (model X.prog X.w) X.A (f v u) Q X.xe s₂) X.xe s₁) X.xe s:=by
 refine thn (ha pins s σ H _ I h) fun v s1 ⟨x,H1,I1,r1,q1⟩=>?_
 refine thn (hb pins s1 σ H1 _ I1 q1) fun u s2 ⟨y,H2,I2,r2,q2⟩=>?_
 exact hf v u s2 x y H2 I2 r1 r2 q2
theorem zA {op:Operator} {r:R2} (ho:OpR X (binaryOp op) r) (ha:PE X a ta) (hb:PE X b tb):PE X (.BinOp a op b pos) (tOp r ta tb):=by
 intro pins s σ H Q I h
 exact wpAny_BinOp (binT ha hb I h fun v u s2 x y H2 I2 rx ry q=>ho pins s2 σ H2 x y v u Q I2 rx ry q)
theorem pe_un {op:UnaryOp} {r:V->Hp->VK->Prop} (ho:UnR X (unaryOp op) r) (ha:PE X a ta):PE X (.UnaryOp op a pos) (tUn r ta):=by
 intro pins s σ H Q I h
 exact UnaryOp_ (thn (ha pins s σ H _ I h) fun v s1 ⟨x,H1,I1,r1,q1⟩=>ho pins s1 σ H1 x v Q I1 r1 q1)
theorem opI {f:Value->Value->Sem Value} {C:Int->Int->Prop} {g:Int->Int->Int}
  (rule:∀ (i j:Int) (t u:Tok) (s:Shared) (Q:Value->Shared->Prop) (E:Value->Shared->Prop),C i j->Q (.int (g i j) s.toks) { s with toks:=s.toks+1 }->wpAny (model X.prog X.w) X.A (f (.int i t) (.int j u)) Q E s) :
  OpR X f (rI C fun i j=>.int (g i j)):=by
 intro pins s σ H x y v u Q I rx ry h
 obtain⟨i,j,rfl,rfl,hc,q⟩:=h
 obtain⟨t,rfl⟩:=rx
 obtain⟨t',rfl⟩:=ry
 exact rule i j t t' s _ _ hc ⟨.int (g i j),H,I.tok _,⟨_,rfl⟩,q⟩
theorem opI0 {f:Value->Value->Sem Value} {g:Int->Int->Int}
  (rule:∀ (i j:Int) (t u:Tok) (s:Shared) (Q:Value->Shared->Prop) (E:Value->Shared->Prop),Q (.int (g i j) s.toks) { s with toks:=s.toks+1 }->wpAny (model X.prog X.w) X.A (f (.int i t) (.int j u)) Q E s) :
  OpR X f (rI0 fun i j=>.int (g i j)):=by
 intro pins s σ H x y v u Q I rx ry h
 obtain⟨i,j,rfl,rfl,q⟩:=h
 obtain⟨t,rfl⟩:=rx
 obtain⟨t',rfl⟩:=ry
 exact rule i j t t' s _ _ ⟨.int (g i j),H,I.tok _,⟨_,rfl⟩,q⟩
theorem opB0 {f:Value->Value->Sem Value} {g:Int->Int->Bool}
  (rule:∀ (i j:Int) (t u:Tok) (s:Shared) (Q:Value->Shared->Prop) (E:Value->Shared->Prop),Q (.bool (g i j)) s->wpAny (model X.prog X.w) X.A (f (.int i t) (.int j u)) Q E s) :
  OpR X f (rI0 fun i j=>.bl (g i j)):=by
 intro pins s σ H x y v u Q I rx ry h
 obtain⟨i,j,rfl,rfl,q⟩:=h
 obtain⟨t,rfl⟩:=rx
 obtain⟨t',rfl⟩:=ry
 exact rule i j t t' s _ _ ⟨.bl (g i j),H,I,rfl,q⟩
def CDiv (i j:Int):Prop:=0 < j/\j < 1073741824
def CPow (i j:Int):Prop:=0<=j/\j<=1000000/\i.natAbs < 2 ^ 64
def CMul (i j:Int):Prop:=(-(2 ^ 64) < i/\i < 2 ^ 64)\/(-(2 ^ 64) < j/\j < 2 ^ 64)
theorem CMul.ok {i j:Int} (h:CMul i j):IntMulOk i j:=by
 rcases h with ⟨h1,h2⟩ | ⟨h1,h2⟩
 ·exact .of_left (intBits_le_64 h1 h2)
 ·exact .of_right (intBits_le_64 h1 h2)
theorem jO:OpR X (binaryOp .Add) (rI0 fun i j=>.int (i+j)):=opI0 fun _ _ _ _ _ _ _ q=>add_int q
theorem wA:OpR X (binaryOp .Sub) (rI0 fun i j=>.int (i - j)):=opI0 fun _ _ _ _ _ _ _ q=>sub_int q
theorem WN:OpR X (binaryOp .Mult) (rI CMul fun i j=>.int (i * j)):=opI fun _ _ _ _ _ _ _ hc q=>mul_int q hc.ok
theorem Qt:OpR X (binaryOp .FloorDiv) (rI CDiv fun i j=>.int (i / j)):=opI fun i j _ _ _ _ _ hc q=>by
 have h1:(0:Int) < j:=hc.1
 have h2:j < 1073741824:=hc.2
 exact floordiv_int (by omega) (by rw[Int.fdiv_eq_ediv_of_nonneg i (by omega)];exact q) (.inl (PyProof.noPylong_small (by omega)))
theorem qV:OpR X (binaryOp .Mod) (rI (fun _ j=>0 < j) fun i j=>.int (i % j)):=opI fun i j _ _ _ _ _ hc q=>by
 have h1:(0:Int) < j:=hc
 exact mod_int' (by omega) (by rw[Int.fmod_eq_emod_of_nonneg i (by omega)];exact q)
theorem op_pow:OpR X (binaryOp .Pow) (rI CPow fun i j=>.int (i ^ j.toNat)):=opI fun _ _ _ _ _ _ _ hc q=>pow_int_small hc.1 hc.2.1 hc.2.2 q
theorem unI {f:Value->Sem Value} {g:Int->Int}
  (rule:∀ (i:Int) (t:Tok) (s:Shared) (Q:Value->Shared->Prop) (E:Value->Shared->Prop),Q (.int (g i) s.toks) { s with toks:=s.toks+1 }->wpAny (model X.prog X.w) X.A (f (.int i t)) Q E s) :
  UnR X f (rU fun i=>.int (g i)):=by
 intro pins s σ H x v Q I rx h
 obtain⟨i,rfl,q⟩:=h
 obtain⟨t,rfl⟩:=rx
 exact rule i t s _ _ ⟨.int (g i),H,I.tok _,⟨_,rfl⟩,q⟩
theorem un_neg:UnR X (unaryOp .USub) (rU fun i=>.int (-i)):=unI fun _ _ _ _ _ q=>neg_int q
end
def scal:V->V->Bool
 | .non,.non=>true | .non,.int _=>true | .int _,.non=>true | .non,.bl _=>true | .bl _,.non=>true | .non,.str _=>true | .str _,.non=>true
 | .int _,.int _=>true | .bl _,.bl _=>true | .str _,.str _=>true | .byt _,.byt _=>true
 | .int _,.str _=>true | .str _,.int _=>true | .bl _,.str _=>true | .str _,.bl _=>true
 | _,_=>false
def rEq:R2:=fun x y H Q=>scal x y=true/\Q (.bl (decide (x=y))) H
def rNe:R2:=fun x y H Q=>scal x y=true/\Q (.bl (!decide (x=y))) H
theorem WO {i j:Int}:decide (V.int i=V.int j)=(i == j):=by
 rw[CN]
 simp
theorem dec_bl {i j:Bool}:decide (V.bl i=V.bl j)=(i == j):=by
 rw[CN]
 simp
theorem WP {i j:Str}:decide (V.str i=V.str j)=(i == j):=by
 rw[CN]
 simp
theorem WQ {i j:Array UInt8}:decide (V.byt i=V.byt j)=(i.toList == j.toList):=by
 rw[CN]
 cases i
 cases j
 simp
section
variable {X : Cx} {a b c : Expr} {ta tb tc : TE} {pos : Pos}
theorem zI {pins:List (Addr×Obj)} {σ:St} {H:Hp} {s:Shared} {Q:VK} {k k':Bool} (I:Inv X pins σ H s) (q:Q (.bl k) H) (e:k=k'):EP X pins σ Q (.bool k') s:=by
 subst e
 exact⟨.bl k,H,I,rfl,q⟩
theorem jm:OpR X (compareOp .Eq) rEq:=by
 intro pins s σ H x y v u Q I rx ry h
 obtain⟨hs,q⟩:=h
 cases x with
 | non=>
  cases rx
  cases y with
  | non=>cases ry;exact PySem.EqNone.eq_none_none (zI I q (by simp))
  | bl j=>cases ry;exact PySem.EqNone.eq_none_bool (zI I q (by simp))
  | int j=>obtain⟨t',rfl⟩:=ry;exact PySem.EqNone.eq_none_int (zI I q (by simp))
  | str j=>obtain⟨t',rfl⟩:=ry;exact PySem.EqNone.eq_none_str (zI I q (by simp))
  | _=>exact absurd (show false=true from hs) AK
 | bl i=>
  cases rx
  cases y with
  | non=>cases ry;exact PySem.EqNone.eq_bool_none (zI I q (by simp))
  | bl j=>cases ry;exact eq_bool (zI I q dec_bl)
  | str j=>obtain⟨t',rfl⟩:=ry;exact PySem.EqMixed.eq_bool_str (zI I q (by simp))
  | _=>exact absurd (show false=true from hs) AK
 | int i=>
  obtain⟨t,rfl⟩:=rx
  cases y with
  | non=>cases ry;exact PySem.EqNone.eq_int_none (zI I q (by simp))
  | int j=>obtain⟨t',rfl⟩:=ry;exact eq_int (zI I q WO)
  | str j=>obtain⟨t',rfl⟩:=ry;exact PySem.EqMixed.eq_int_str (zI I q (by simp))
  | _=>exact absurd (show false=true from hs) AK
 | str i=>
  obtain⟨t,rfl⟩:=rx
  cases y with
  | non=>cases ry;exact PySem.EqNone.eq_str_none (zI I q (by simp))
  | bl j=>cases ry;exact PySem.EqMixed.eq_str_bool (zI I q (by simp))
  | int j=>obtain⟨t',rfl⟩:=ry;exact PySem.EqMixed.eq_str_int (zI I q (by simp))
  | str j=>obtain⟨t',rfl⟩:=ry;exact eq_str (zI I q WP)
  | _=>exact absurd (show false=true from hs) AK
 | byt i=>
  obtain⟨t,rfl⟩:=rx
  cases y with
  | byt j=>obtain⟨t',rfl⟩:=ry;exact PySem.W.eq_bytes (zI I q WQ)
  | _=>exact absurd (show false=true from hs) AK
 | _=>cases y <;> exact absurd (show false=true from hs) AK
theorem op_ne:OpR X (compareOp .NotEq) rNe:=by
 intro pins s σ H x y v u Q I rx ry h
 obtain⟨hs,q⟩:=h
 cases x with
 | non=>
  cases rx
  cases y with
  | non=>cases ry;exact PySem.EqNone.ne_none_none (zI I q (by simp))
  | bl j=>cases ry;exact PySem.EqNone.ne_none_bool (zI I q (by simp))
  | int j=>obtain⟨t',rfl⟩:=ry;exact PySem.EqNone.ne_none_int (zI I q (by simp))
  | str j=>obtain⟨t',rfl⟩:=ry;exact PySem.EqNone.ne_none_str (zI I q (by simp))
  | _=>exact absurd (show false=true from hs) AK
 | bl i=>
  cases rx
  cases y with
  | non=>cases ry;exact PySem.EqNone.ne_bool_none (zI I q (by simp))
  | bl j=>cases ry;exact ne_bool (zI I q (BB not dec_bl))
  | str j=>obtain⟨t',rfl⟩:=ry;exact PySem.EqMixed.ne_bool_str (zI I q (by simp))
  | _=>exact absurd (show false=true from hs) AK
 | int i=>
  obtain⟨t,rfl⟩:=rx
  cases y with
  | non=>cases ry;exact PySem.EqNone.ne_int_none (zI I q (by simp))
  | int j=>obtain⟨t',rfl⟩:=ry;exact ne_int (zI I q (BB not WO))
  | str j=>obtain⟨t',rfl⟩:=ry;exact PySem.EqMixed.ne_int_str (zI I q (by simp))
  | _=>exact absurd (show false=true from hs) AK
 | str i=>
  obtain⟨t,rfl⟩:=rx
  cases y with
  | non=>cases ry;exact PySem.EqNone.ne_str_none (zI I q (by simp))
  | bl j=>cases ry;exact PySem.EqMixed.ne_str_bool (zI I q (by simp))
  | int j=>obtain⟨t',rfl⟩:=ry;exact PySem.EqMixed.ne_str_int (zI I q (by simp))
  | str j=>obtain⟨t',rfl⟩:=ry;exact ne_str (zI I q (BB not WP))
  | _=>exact absurd (show false=true from hs) AK
 | byt i=>
  obtain⟨t,rfl⟩:=rx
  cases y with
  | byt j=>obtain⟨t',rfl⟩:=ry;exact PySem.W.ne_bytes (zI I q (BB not WQ))
  | _=>exact absurd (show false=true from hs) AK
 | _=>cases y <;> exact absurd (show false=true from hs) AK
theorem op_lt:OpR X (compareOp .Lt) (rI0 fun i j=>.bl (decide (i < j))):=opB0 fun _ _ _ _ _ _ _ q=>lt_int q
theorem op_gt:OpR X (compareOp .Gt) (rI0 fun i j=>.bl (decide (j < i))):=opB0 fun _ _ _ _ _ _ _ q=>gt_int q
theorem op_ge:OpR X (compareOp .GtE) (rI0 fun i j=>.bl (decide (j<=i))):=opB0 fun _ _ _ _ _ _ _ q=>ge_int q
theorem Zy:OpR X (compareOp .IsNot) (fun x y H Q=>y=.non/\Q (.bl (!decide (x=.non))) H):=by
 intro pins s σ H x y v u Q I rx ry h
 obtain⟨rfl,q⟩:=h
 cases ry
 refine isnot_none_gen (zI I q ?_)
 cases x <;> first
  | (cases rx;rfl)
  | (obtain⟨t,rfl⟩:=rx;rfl)
theorem zG (b:Expr) {op:CmpOp} (h:op ≠ .In:=by decide) (h2:op ≠ .NotIn:=by decide):behindInMarks op b=false:=by
 have e1:(op == CmpOp.In)=false:=by cases op <;> first | rfl | exact absurd rfl h
 have e2:(op == CmpOp.NotIn)=false:=by cases op <;> first | rfl | exact absurd rfl h2
 cases b <;> simp[behindInMarks,e1,e2]
theorem JP {op:CmpOp} {r:R2} (ho:OpR X (compareOp op) r) (ha:PE X a ta) (hb:PE X b tb) (hm:behindInMarks op b=false):PE X (.Compare a [op] [b] pos) (tOp r ta tb):=by
 intro pins s σ H Q I h
 exact wpAny_Compare1 (binT ha hb I h fun v u s2 x y H2 I2 rx ry q=>ho pins s2 σ H2 x y v u Q I2 rx ry q) hm
def tTest (t:TE):TT:=fun σ H Q=>t σ H fun x H'=>∃ k,x=.bl k/\Q k H'
theorem zv {op:CmpOp} {r:R2} (ho:OpR X (compareOp op) r) (ha:PE X a ta) (hb:PE X b tb) (hm:behindInMarks op b=false):PT X (.Compare a [op] [b] pos) (tTest (tOp r ta tb)):=by
 intro pins s σ H Q I h
 refine wpAny_isTrue_Compare1 (thn (ha pins s σ H _ I h) fun v s1 ⟨x,H1,I1,r1,q1⟩=>thn (hb pins s1 σ H1 _ I1 q1) fun u s2 ⟨y,H2,I2,r2,q2⟩=>
  thn (ho pins s2 σ H2 x y v u _ I2 r1 r2 q2) fun c s3 ⟨z,H3,I3,r3,k,e,q3⟩=>?_) hm
 subst e
 cases r3
 exact BG ⟨H3,I3,q3⟩
def tChain (r r':R2) (ta tb tc:TE):TE:=fun σ H Q=>ta σ H fun x H1=>tb σ H1 fun y H2=>r x y H2 fun z H3=>∃ k,z=.bl k /\
 (if k=true then tc σ H3 fun w' H4=>r' y w' H4 Q else Q (.bl false) H3)
theorem pe_chain {op op':CmpOp} {r r':R2} (ho:OpR X (compareOp op) r) (ho':OpR X (compareOp op') r') (ha:PE X a ta) (hb:PE X b tb) (hc:PE X c tc)
  (hm:lastMarks [op,op'] [b,c]=false:=by with_unfolding_all rfl):PE X (.Compare a [op,op'] [b,c] pos) (tChain r r' ta tb tc):=by
 intro pins s σ H Q I h
 refine Compare_chain (thn (ha pins s σ H _ I h) fun v s1 ⟨x,H1,I1,r1,q1⟩=>chain_link (thn (hb pins s1 σ H1 _ I1 q1) fun u s2 ⟨y,H2,I2,r2,q2⟩=>
  thn (ho pins s2 σ H2 x y v u _ I2 r1 r2 q2) fun d s3 ⟨z,H3,I3,r3,k,e,q3⟩=>?_)) hm
 subst e
 cases r3
 refine BG ?_
 cases k with
 | false=>exact ite_ff ⟨.bl false,H3,I3,rfl,q3⟩
 | true=>exact ite_tt (chain_last (thn (hc pins s3 σ H3 _ I3 q3) fun w' s4 ⟨z',H4,I4,r4,q4⟩=>ho' pins s4 σ H4 y z' u w' Q I4 r2 r4 q4))
theorem wB:(sizeLine:Nat) < 2 ^ 63:=by rw[sizeLine_eq];decide
theorem vals1 {x:V} {us:List Value} (r:zR [x] us):∃ u,us=[u]/\RelV x u:=by
 cases r with
 | cons r1 r2=>cases r2;exact⟨_,rfl,r1⟩
theorem vals2 {x y:V} {us:List Value} (r:zR [x,y] us):∃ u w',us=[u,w']/\RelV x u/\RelV y w':=by
 cases r with
 | cons r1 r2=>
  cases r2 with
  | cons r3 r4=>cases r4;exact⟨_,_,rfl,r1,r3⟩
theorem wC:qU X (.builtin "abs") (fun xs H Q=>∃ i,xs=[.int i]/\Q (.int (if i < 0 then -i else i)) H):=by
 intro pins s σ H xs us Q I r h
 obtain⟨i,rfl,q⟩:=h
 obtain⟨u,rfl,t,rfl⟩:=vals1 r
 exact call_abs_int fun u tk=>⟨.int (if i < 0 then -i else i),H,I.tok _,⟨_,rfl⟩,q⟩
theorem WS:qU X (.type "int") (fun xs H Q=>(∃ i,xs=[.int i]/\Q (.int i) H)\/∃ k,xs=[.bl k]/\Q (.int (if k then 1 else 0)) H):=by
 intro pins s σ H xs us Q I r h
 rcases h with ⟨i,rfl,q⟩ | ⟨k,rfl,q⟩
 ·obtain⟨u,rfl,t,rfl⟩:=vals1 r
  exact call_int_int ⟨.int i,H,I,⟨_,rfl⟩,q⟩
 ·obtain⟨u,rfl,r1⟩:=vals1 r
  cases r1
  exact call_int_bool ⟨.int (if k then 1 else 0),H,I.tok _,⟨_,rfl⟩,q⟩
def LenV (K:PySem.W.Frag) (x:V) (H:Hp) (n:Nat):Prop:=
 match x with
 | .str y=>y.length<=sizeLine/\n=y.length
 | .byt y=>y.size<=sizeLine/\n=y.size
 | .ref p=>(∃ xs,SqL K H p xs/\n=xs.length)\/∃ xs,SqT K H p xs/\n=xs.length
 | _=>False
theorem call_len:qU X (.builtin "len") (fun xs H Q=>∃ x n,xs=[x]/\LenV X.K x H n/\Q (.int n) H):=by
 intro pins s σ H xs us Q I r h
 obtain⟨x,n,rfl,e,q⟩:=h
 obtain⟨u,rfl,rx⟩:=vals1 r
 have hl:=wB
 have hs:sizeLine=16777216:=sizeLine_eq
 cases x with
 | str y=>
  obtain⟨t,rfl⟩:=rx
  obtain⟨hy,e'⟩:y.length<=sizeLine/\n=y.length:=e
  subst e'
  exact len_str (by omega) ⟨.int _,H,I.tok _,⟨_,rfl⟩,q⟩
 | byt y=>
  obtain⟨t,rfl⟩:=rx
  obtain⟨hy,e'⟩:y.size<=sizeLine/\n=y.size:=e
  subst e'
  exact PySem.W.len_bytes (by omega) ⟨.int _,H,I.tok _,⟨_,rfl⟩,q⟩
 | ref p=>
  cases rx
  have e':(∃ xs,SqL X.K H p xs/\n=xs.length)\/∃ xs,SqT X.K H p xs/\n=xs.length:=e
  rcases e' with ⟨xs,hx,e'⟩ | ⟨xs,hx,e'⟩
  ·subst e'
   obtain⟨its,r',pl,hz⟩:=I.list hx
   have hlen:=r'.length
   exact Calls.call_len_list pl.isList (by simp only[List.size_toArray];omega) ⟨.int xs.length,H,I.tok _,⟨_,by simp only[List.size_toArray];rw[hlen]⟩,q⟩
  ·subst e'
   obtain⟨its,r',pl,hz⟩:=I.tuple hx
   have hlen:=r'.length
   exact len_tuple pl (by simp only[List.size_toArray];omega) ⟨.int xs.length,H,I.tok _,⟨_,by simp only[List.size_toArray];rw[hlen]⟩,q⟩
 | _=>exact (show False from e).elim
end
structure ObjM (h:Heap) (x dx C:Addr) (mA:Str->Option Value):Prop where
 obj:h.get? x=some (PySem.W.instObj C dx)
 ns:h.Ns1 dx mA
 ne:dx ≠ x
theorem WT {h:Heap} {dx:Addr} {mA:Str->Option Value} (n:h.Ns1 dx mA):∃ od,h.get? dx=some od/\∀ name,PySem.W.lookIn name od=some (mA name):=by
 obtain⟨o,es,ep,ho,hd,hk,_,hm⟩:=n
 refine⟨o,ho,fun name=>?_⟩
 have e:=hm name
 unfold nsFind findBy at e
 rw[<- Array.find?_toList] at e
 unfold PySem.W.lookIn
 rw[hd]
 dsimp only
 split
 ·rename_i y q
  rw[q] at e
  exact BB some e
 ·rename_i q
  rw[q] at e
  have a:es.toList.any (·.refKey)=false:=by
   rw[List.any_eq_false]
   intro y hy
   obtain⟨z,t,hkey⟩:=hk y (Array.mem_toList_iff.mp hy)
   simp[DictEntry.refKey,hkey]
  have a':¬ es.toList.any (·.refKey)=true:=by rw[a];exact AK
  rw[if_neg a']
  exact BB some e
theorem ObjM.look {h:Heap} {x dx C:Addr} {mA:Str->Option Value} (I:ObjM h x dx C mA):∃ od,PySem.W.InstAt h x (PySem.W.instObj C dx) C (some od)/\∀ name,PySem.W.lookIn name od=some (mA name):=
 let ⟨od,ho,hl⟩:=WT I.ns
 ⟨od,⟨I.obj,rfl,rfl,ho⟩,hl⟩
section
variable {prog : Program} {w : World} {A : Around} {E : Value -> Shared -> Prop} {s : Shared} {K : PySem.W.Frag} {x dx C f : Addr} {mA : Str -> Option Value} {name : Str} {v : Value}
end
theorem JN.some_of {v:V} {o:Option Value} (r:JN (some v) o):∃ u,o=some u/\RelV v u:=by
 cases o with
 | none=>exact (show False from r).elim
 | some u=>exact⟨u,rfl,r⟩
theorem WU {v:V} {u:Value} (r:RelV v u):PySem.W.handedIn u=true:=by
 cases v with
 | non=>cases (show u=Value.none from r);rfl
 | bl b=>cases (show u=Value.bool b from r);rfl
 | int i=>obtain⟨t,e⟩:=(show ∃ t,u=Value.int i t from r);cases e;rfl
 | str x=>obtain⟨t,e⟩:=(show ∃ t,u=Value.str x t from r);cases e;rfl
 | byt b=>obtain⟨t,e⟩:=(show ∃ t,u=Value.bytes b t from r);cases e;rfl
 | flt b=>obtain⟨t,e⟩:=(show ∃ t,u=Value.float b t from r);cases e;rfl
 | ref a=>cases (show u=Value.ref a from r);rfl
 | ty n=>cases (show u=Value.type n from r);rfl
section
variable {P : Program} {w : World} {H H' : Hp} {h h' : Heap} {a C dx : Addr} {fs fs' : List (Str × V)}
theorem ins_get (hok:HOk P w H h) (e:H a=some (.ins C dx fs)):∃ mA,ObjM h a dx C mA/\(∀ f,JN (fs.lookup f) (mA f))/\PySem.Within mA (fs.map (·.1))/\fs.length<=1000/\H dx=some (.own a):=by
 obtain⟨d,z,ne,ob,mA,n,r,q⟩:=(show zV P w H h a (.ins C dx fs) from hok a _ e)
 exact⟨mA,⟨ob,n,ne⟩,r,q,z,d⟩
end
structure Cls (K:PySem.W.Frag) (C:Addr):Prop where
 pg:PySem.W.plainGet K C Str.empty=true
 hd:PySem.W.hasDictIn K C=true
 po:PySem.W.plainOver K C=true
 sa:PySem.W.findIn K (.ref C) "__setattr__" = some (some (.builtin "object.__setattr__"))
theorem Cls.get {K:PySem.W.Frag} {C:Addr} (c:Cls K C) (f:Str):PySem.W.plainGet K C f=true:=c.pg
section
variable {X : Cx} {pins : List (Addr × Obj)} {σ : St} {H : Hp} {s : Shared} {a C dx : Addr} {fs : List (Str × V)} {f : Str} {v : V} {A : Around} {E : Value -> Shared -> Prop}
theorem attr_of {prog:Program} {w:World} {env:Env} {e:Expr} {f:Str} {pos:Pos} {s:Shared} {Q:Value->Shared->Prop} (hb:attributeBase e f env (eval e env)=eval e env)
  (h:wpAny (model prog w) A (eval e env) (fun o s₁=>wpAny (model prog w) A (getAttr o f true) Q E s₁) E s):wpAny (model prog w) A (eval (.Attribute e f pos) env) Q E s:=
 Attribute_any_ h (by rw[arm_eval_Attribute,hb])
end
section
variable {X : Cx} {o e value : Expr} {f : Str} {pos pos' tpos : Pos} {ta tv : TE}
end
section
variable {X : Cx} {pins : List (Addr × Obj)} {σ : St} {H : Hp} {s : Shared} {A : Around} {E : Value -> Shared -> Prop} {Q : Value -> Shared -> Prop} {c : Value} {b : Bool}
inductive JQ (K:PySem.W.Frag) (H:Hp):V->Value->Prop where
 | non:JQ K H .non (.type "NoneType")
 | bl (x:Bool):JQ K H (.bl x) (.type "bool")
 | int (i:Int):JQ K H (.int i) (.type "int")
 | str (x:Str):JQ K H (.str x) (.type "str")
 | flt (x:UInt64):JQ K H (.flt x) (.type "float")
 | lst {a:Addr} {xs:List V} (e:H a=some (.lst xs)):JQ K H (.ref a) (.type "list")
 | frz {a:Addr} {o:Obj} {xs:List V} (e:H a=some (.frz o (.lst xs))):JQ K H (.ref a) (.type "list")
 | tup {a:Addr} {xs:List V} (e:H a=some (.tup xs)):JQ K H (.ref a) (.type "tuple")
 | dK {a:Addr} {kvs:List (Key×V)} (e:H a=some (.dK kvs)):JQ K H (.ref a) (.type "dict")
 | dT {a:Addr} {kvs:List (List Key×V)} (e:H a=some (.dT kvs)):JQ K H (.ref a) (.type "dict")
 | ins {a C dx:Addr} {fs:List (Str×V)} (e:H a=some (.ins C dx fs)) (cl:Cls K C) (ha:PySem.W.findIn K (.ref C) "__class__" = some (some (.builtin "object.__class__")))
   (hn:PySem.W.specialIn K (.builtin "object.__class__") "__get__" = some (some (.builtin "getset_descriptor.__get__"))) (htk:PySem.W.takesIn K (.builtin "object.__class__")=some true)
   (hm:PySem.W.mroIn K C (.type "object")=some true):JQ K H (.ref a) (.ref C)
theorem WV {x:V} {u t:Value} (I:Inv X pins σ H s) (rx:RelV x u) (ty:JQ X.K H x t) (e:PySem.W.kitOne X.K t c=some b) (h:∀ tk,Q (.bool b) { s with toks:=tk }) :
  wpAny (model X.prog X.w) A (call (.builtin "isinstance") [u,c]) Q E s:=by
 cases ty with
 | non=>cases (show u=Value.none from rx);exact Ak PySem.W.kitx_none I.kIn True.intro e (fun z=>nomatch z) h
 | bl y=>cases (show u=Value.bool y from rx);exact Ak PySem.W.kitx_bool I.kIn True.intro e (fun z=>nomatch z) h
 | int i=>obtain⟨t,q⟩:=(show ∃ t,u=Value.int i t from rx);cases q;exact Ak PySem.W.kitx_int I.kIn True.intro e (fun z=>nomatch z) h
 | str y=>obtain⟨t,q⟩:=(show ∃ t,u=Value.str y t from rx);cases q;exact Ak PySem.W.kitx_str I.kIn True.intro e (fun z=>nomatch z) h
 | flt y=>obtain⟨t,q⟩:=(show ∃ t,u=Value.float y t from rx);cases q;exact Ak PySem.W.kitx_float I.kIn True.intro e (fun z=>nomatch z) h
 | @lst a xs ea=>
  cases (show u=Value.ref a from rx)
  obtain⟨_,_,n,_,h1⟩:=(show zV X.prog X.w H s.heap a (.lst xs) from I.hok a _ ea)
  exact Ak PySem.W.kitx_list I.kIn ⟨_,h1,rfl⟩ e (fun z=>nomatch z) h
 | @frz a ob xs ea=>
  cases (show u=Value.ref a from rx)
  obtain⟨_,_,_,n,_,h1⟩:=(show zV X.prog X.w H s.heap a (.frz ob (.lst xs)) from I.hok a _ ea)
  exact Ak PySem.W.kitx_list I.kIn ⟨_,h1,rfl⟩ e (fun z=>nomatch z) h
 | @tup a xs ea=>
  cases (show u=Value.ref a from rx)
  obtain⟨_,_,_,p⟩:=(show zV X.prog X.w H s.heap a (.tup xs) from I.hok a _ ea)
  obtain⟨o,h1,h2,_⟩:=p
  exact Ak PySem.W.kitx_tuple I.kIn ⟨o,h1,h2⟩ e (fun z=>nomatch z) h
 | @dK a kvs ea=>
  cases (show u=Value.ref a from rx)
  obtain⟨_,_,vs,_,p⟩:=(show zV X.prog X.w H s.heap a (.dK kvs) from I.hok a _ ea)
  obtain⟨o,es,ep,h1,h2,_⟩:=p
  exact Ak PySem.W.kitx_dict I.kIn ⟨o,h1,h2.1⟩ e (fun z=>nomatch z) h
 | @dT a kvs ea=>
  cases (show u=Value.ref a from rx)
  obtain⟨_,_,xs,_,o,es,ep,h1,h2,_⟩:=(show zV X.prog X.w H s.heap a (.dT kvs) from I.hok a _ ea)
  exact Ak PySem.W.kitx_dict I.kIn ⟨o,h1,h2.1⟩ e (fun z=>nomatch z) h
 | @ins a C dx fs ea cl ha hn htk hm=>
  cases (show u=Value.ref a from rx)
  obtain⟨mA,O,_⟩:=ins_get I.hok ea
  obtain⟨od,J,_⟩:=O.look
  exact Ak (PySem.W.kitx_own (cl.get _) cl.hd ha hn htk hm) I.kIn J e (fun z=>nomatch z) h
end
structure jk (k:Nat) (A:Around):Prop where
 hd:A.handled=none
 dp:A.depth+3 * k+5 < recursionLimit
 un:A.units+16 * k+200 < cLine
theorem jk.mono {j k:Nat} {A:Around} (r:jk k A) (h:j<=k):jk j A:=⟨r.hd,by have:=r.dp;omega,by have:=r.un;omega⟩
theorem jk.deeper {k:Nat} {A:Around} (r:jk (k+1) A) (env:Env):jk k (A.deeper env):=
 ⟨r.hd,by have:=r.dp;show A.depth+1+3 * k+5 < _;omega,by have:=r.un;show A.units+3+16 * k+200 < _;omega⟩
theorem Wd {A:Around} {C:Addr} {us:List Value} {kw:List (Str×Value)}:(A.under (.builtin "type.__call__" ⟨.ref C :: us,kw⟩)).depth=A.depth+1:=by
 first | rfl | simp[Around.under,Code.weight,Code.isCreation,Code.isGuard,Code.isCaller,Code.frames,Code.isFrame,guardIds]
theorem We {A:Around} {C:Addr} {us:List Value} {kw:List (Str×Value)}:(A.under (.builtin "type.__call__" ⟨.ref C :: us,kw⟩)).units=A.units+1:=by
 first | rfl | simp[Around.under,Code.cUnits,Code.frames,Code.isFrame]
theorem jk.make {k:Nat} {A:Around} (r:jk (k+1) A) (C:Addr) (us:List Value) (kw:List (Str×Value)):jk k (A.under (.builtin "type.__call__" ⟨.ref C :: us,kw⟩)):=
 ⟨r.hd,by have:=r.dp;rw[Wd];omega,by have:=r.un;rw[We];omega⟩
theorem jk.depth {k:Nat} {A:Around} (r:jk k A):A.depth < recursionLimit:=by have:=r.dp;omega
theorem jk.units {k:Nat} {A:Around} (r:jk k A):A.units+64 < cLine:=by have:=r.un;omega
def tNil:TA:=fun _ H Q=>Q [] H
def tCons (ta:TE) (tr:TA):TA:=fun σ H Q=>ta σ H fun x H1=>tr σ H1 fun xs H2=>Q (x :: xs) H2
section
variable {X : Cx} {e : Expr} {es : List Expr} {te : TE} {t : TA} {pos : Pos}
theorem zc:PA X [] tNil:=fun _ _ _ _ H Q I h=>CM ⟨[],H,I,.nil,h⟩
theorem za (ha:PE X e te) (hr:PA X es t) (hs:starEach (e :: es) X.env=(false,eval e X.env) :: starEach es X.env:=by rfl):PA X (e :: es) (tCons te t):=by
 intro pos pins s σ H Q I h
 rw[hs]
 show wpAny _ _ (spliced ((false,eval e X.env) :: backTo pos (starEach es X.env))) _ _ s
 refine Bj (thn (ha pins s σ H _ I h) fun u s1 ⟨x,H1,I1,r1,q1⟩=>?_)
 exact thn (hr pos pins s1 σ H1 _ I1 q1) fun us s2 ⟨xs,H2,I2,r2,q2⟩=>⟨x :: xs,H2,I2,.cons r1 r2,q2⟩
def tTup (t:TA):TE:=fun σ H Q=>t σ H fun xs H1=>xs.length<=sizeLine/\∀ p,H1 p=none->Q (.ref p) (upd H1 p (.tup xs))
def tLst (t:TA):TE:=fun σ H Q=>t σ H fun xs H1=>xs.length<=sizeLine/\∀ p,H1 p=none->Q (.ref p) (upd H1 p (.lst xs))
theorem zB {x1} (h:PA X es t):PE X (.Tuple es x1 pos) (tTup t):=by
 intro pins s σ H Q I hq
 refine wpAny_Tuple_spliced (thn (h pos pins s σ H _ I hq) fun us s1 ⟨xs,H1,I1,r,z,q⟩=>⟨by rw[<- r.length];exact z,?_⟩)
 have hf:H1 s1.heap.objs.size=none:=I1.hok.fresh (AG _)
 refine⟨.ref s1.heap.objs.size,upd H1 s1.heap.objs.size (.tup xs),I1.laid (t':=s1.toks) (fun b u e=>AC _ e) (AG _) ?_,rfl,q _ hf⟩
 exact⟨z,us,r,⟨_,AM _ rfl,rfl,⟨_,rfl⟩,rfl⟩⟩
theorem zW (h:PA X es t):PE X (.List es pos) (tLst t):=by
 intro pins s σ H Q I hq
 refine wpAny_List_spliced (thn (h pos pins s σ H _ I hq) fun us s1 ⟨xs,H1,I1,r,z,q⟩=>⟨by rw[<- r.length];exact z,?_⟩)
 have hf:H1 s1.heap.objs.size=none:=I1.hok.fresh (AG _)
 refine⟨.ref s1.heap.objs.size,upd H1 s1.heap.objs.size (.lst xs),I1.laid (t':=s1.toks) (fun b u e=>AC _ e) (AG _) ?_,rfl,q _ hf⟩
 exact⟨z,us,0,r,AM _ rfl⟩
end
abbrev Sp:=List V->Hp->VK->XK->Prop
abbrev CXT:=List Env->Hp->Shared->XK->Value->Shared->Prop
structure Env0 (P:Program) (w:World) (K:PySem.W.Frag) (mg:Str->Option Value) (base:Heap) (A:Around) (outer:List Env) (s:Shared) (H:Hp):Prop where
 frames:A.frames=some outer
 mod:Mod K mg base
 bs:∀ b o,base.get? b=some o->s.heap.get? b=some o/\H b=none
 bsz:base.objs.size<=s.heap.objs.size
 funs:s.heap.FunFrames base outer
 frf:∀ b ∈ frs outer,H b=none
 hok:HOk P w H s.heap
 bare:AllBare s.gens
def CE (outer:List Env) (P:Program) (w:World) (H:Hp) (s:Shared) (Q:VK) (u:Value) (s':Shared):Prop:=
 ∃ v H',s'.os=s.os/\AllBare s'.gens/\Un (frs outer) [] H H' s.heap s'.heap/\HOk P w H' s'.heap/\RelV v u/\Q v H'
def CR (CX:CXT) (outer:List Env) (P:Program) (w:World) (H:Hp) (s:Shared) (Q:VK) (E:XK) (r:Result) (s':Shared):Prop:=
 match r with
 | .ok (.ret u)=>CE outer P w H s Q u s'
 | .ok _=>False
 | .error e=>CX outer H s E e s'
structure qA (P:Program) (w:World) (K:PySem.W.Frag) (mg:Str->Option Value) (base:Heap) (CX:CXT) (k:Nat) (f:Addr) (fd:FuncData) (ps:List Str) (sp:Sp):Prop where
 len:∀ vs H Q E,sp vs H Q E->vs.length=ps.length
 run:∀ (A:Around) (outer:List Env) (s:Shared) (H:Hp) (args:Args) (us:List Value) (vs:List V) (Q:VK) (E:XK),jk k A->Env0 P w K mg base A outer s H->BindsTo s fd args (ps.zip us)->zR vs us->sp vs H Q E ->
  codeAny (model P w) A (.call (.ref f) args) (CR CX outer P w H s Q E) s
theorem Env0.make {P:Program} {w:World} {K:PySem.W.Frag} {mg:Str->Option Value} {base:Heap} {A:Around} {outer:List Env} {s:Shared} {H:Hp} (e:Env0 P w K mg base A outer s H) (C:Addr) (us:List Value) (kw:List (Str×Value)) :
  Env0 P w K mg base (A.under (.builtin "type.__call__" ⟨.ref C :: us,kw⟩)) outer s H:=⟨by first | exact e.frames | (simpa [Around.under,Code.envs,Code.isFrame,pushEnvs] using e.frames),e.mod,e.bs,e.bsz,e.funs,e.frf,e.hok,e.bare⟩
section
variable {X : Cx} {pins : List (Addr × Obj)} {σ : St} {H : Hp} {s s' : Shared}
theorem Inv.env0 (I:Inv X pins σ H s):Env0 X.prog X.w X.K X.mg X.base X.A X.stack s H:=
 ⟨I.ok.frames,I.ok.mod,I.bs,Ab I.ok.bsz I.sz,I.stack,I.stkFree,I.hok,I.bare⟩
theorem Inv.after {Q:VK} {u:Value} (I:Inv X pins σ H s) (h:CE X.stack X.prog X.w H s Q u s'):EP X pins σ Q u s':=by
 obtain⟨v,H',os,bare,un,hok,r,q⟩:=h
 obtain⟨hh,g,d,t,os'⟩:=s'
 obtain rfl:os'=s.os:=os
 exact⟨v,H',I.call (h':=hh) (g':=g) (d':=d) (t':=t) (ch:=[]) un hok bare (fun b z=>absurd z (by simp)),r,q⟩
end
def tCall (sp:Sp) (dvs:List V) (E:XK) (t:TA):TE:=fun σ H Q=>t σ H fun vs H1=>sp (vs++dvs) H1 Q E
def Binds (K:PySem.W.Frag) (fd:FuncData) (ps:List Str) (ds:List Value):Prop:=
 ∀ (s:Shared) (us:List Value),K.In s.heap->(us++ds).length=ps.length->BindsTo s fd ⟨us,[]⟩ (ps.zip (us++ds))
theorem Binds.all {K:PySem.W.Frag} {fd:FuncData} {ps:List Str} (h:∀ us:List Value,us.length=ps.length->bindArgs fd ⟨us,[]⟩=pure (ps.zip us)):Binds K fd ps []:=fun s us _ hl=>by
 rw[Bc] at hl ⊢
 exact .of_eq (h us hl)
def Q5 (CX:CXT) (X:Cx) (E:XK):Prop:=∀ (pins:List (Addr×Obj)) (σ:St) (H:Hp) (s:Shared) (e:Value) (s':Shared),Inv X pins σ H s->CX X.stack H s E e s'->X.xe e s'
section
variable {X : Cx} {CX : CXT} {k : Nat} {f C : Addr} {fd : FuncData} {ps : List Str} {sp : Sp} {dvs : List V} {ds : List Value} {E : XK} {x m : Str} {p pos apos : Pos} {e o : Expr} {es : List Expr} {ta : TE} {t : TA}
theorem run_fn {pins:List (Addr×Obj)} {σ:St} {H:Hp} {s:Shared} {Q:VK} {us:List Value} {vs:List V} (F:qA X.prog X.w X.K X.mg X.base CX k f fd ps sp) (hr:jk k X.A) (hb:Binds X.K fd ps ds) (hd:zR dvs ds) (hx:Q5 CX X E)
  (I:Inv X pins σ H s) (r:zR vs us) (h:sp (vs++dvs) H Q E):wpAny (model X.prog X.w) X.A (call (.ref f) us) (EP X pins σ Q) X.xe s:=by
 have r2:zR (vs++dvs) (us++ds):=r.append hd
 have hl:(us++ds).length=ps.length:=by rw[<- r2.length];exact F.len _ _ _ _ h
 refine BW (B3 (F.run X.A X.stack s H ⟨us,[]⟩ (us++ds) (vs++dvs) Q E hr I.env0 (hb s us I.kIn hl) r2 h) fun r s' hq=>?_)
 cases r with
 | error e=>exact hx pins σ H s e s' I hq
 | ok fl=>
  cases fl with
  | ret u=>exact I.after hq
  | next=>exact False.elim hq
  | brk=>exact False.elim hq
  | cont=>exact False.elim hq
theorem JR (F:qA X.prog X.w X.K X.mg X.base CX k f fd ps sp) (hr:jk k X.A) (hg:Gl X x) (hm:X.mg x=some (.ref f)) (hk:PySem.W.keepIn X.K (.ref f)=true) (hb:Binds X.K fd ps ds) (hd:zR dvs ds) (hx:Q5 CX X E)
  (ha:PA X (e :: es) t) (hdb:(x == ("__debug__" : Str))=false:=by decide) (he:starEach (e :: es) X.env=(false,eval e X.env) :: starEach es X.env:=by rfl) (hpl:(backTo pos (starEach es X.env)).any (·.1)=false:=by rfl) :
  PE X (.Call (.Name x p) (e :: es) [] pos) (tCall sp dvs E t):=by
 intro pins s σ H Q I h
 refine Bi (jA I hg hm ?_ hdb)
 refine Cb (h₀:=X.base) I.ok.mod.kin hk (thn (ha pos pins s σ H _ I h) fun us s1 ⟨vs,H1,I1,r,q⟩=>⟨I1.kIn,?_⟩) he hpl
 exact run_fn F hr hb hd hx I1 r q
end
section
variable {X : Cx} {CX : CXT} {k : Nat} {f C : Addr} {fd : FuncData} {ps ks : List Str} {sp : Sp} {E : XK} {x m : Str} {p pos apos kpos : Pos} {e o : Expr} {es : List Expr} {kws : List Keyword} {te ta : TE} {t tk : TA} {nm : Option Str}
variable {g : List Value -> List Value -> List Value} {gV : List V -> List V -> List V}
end
structure zu (N P:List Str) (sc:Scope):Prop where
 kind:sc.kind=.function
 co:sc.isCoroutine=false
 gen:sc.isGenerator=false
 nd:N.Nodup
 pre:N.take P.length=P
 par:∀ x ∈ P,sc.names.lookup x=some .local\/sc.names.lookup x=some .cell
 nofree:∀ y ∈ sc.names,y.2 ≠ .free
theorem Q6 {kindOf:Str->Option NameKind} {x:Str}:∀ {binds:List (Str×Value)} {m:Str->Option Value},(∀ v,(x,v) ∉ binds)->bindL kindOf binds m x=m x
 | [],_,_=>rfl
 | (n,v) :: r,m,h=>by
  unfold bindL
  rw[Q6 fun w hw=>h w (AV _ hw)]
  split
  ·have:x ≠ n:=by rintro rfl;exact h v Ai
   simp[this]
  ·rfl
theorem Q7 {kindOf:Str->Option NameKind} {x:Str}:∀ {binds:List (Str×Value)} {m:Str->Option Value},(∀ v,(x,v) ∉ binds)->bindC kindOf binds m x=m x
 | [],_,_=>rfl
 | (n,v) :: r,m,h=>by
  unfold bindC
  rw[Q7 fun w hw=>h w (AV _ hw)]
  split
  ·rfl
  ·have:x ≠ n:=by rintro rfl;exact h v Ai
   simp[this]
theorem Q8 {kindOf:Str->Option NameKind} {x:Str} {v:Value}:∀ {P:List Str} {vs:List Value} {i:Nat} {m:Str->Option Value},P.Nodup->P[i]? = some x->vs[i]? = some v->kindOf x=some .local ->
  bindL kindOf (P.zip vs) m x=some v
 | [],_,_,_,_,h,_,_=>by simp at h
 | _ :: _,[],_,_,_,_,h,_=>by simp at h
 | p :: P,w :: vs,0,m,nd,h1,h2,hk=>by
  simp at h1 h2;subst h1;subst h2
  show bindL kindOf ((p,w) :: P.zip vs) m p=_
  unfold bindL
  rw[Q6 fun v hv=>(CL.mp nd).1 (CK hv).1,if_pos hk]
  simp
 | p :: P,w :: vs,i+1,m,nd,h1,h2,hk=>by
  show bindL kindOf ((p,w) :: P.zip vs) m x=_
  unfold bindL
  exact Q8 (i:=i) (CL.mp nd).2 (by simpa using h1) (by simpa using h2) hk
theorem Q9 {kindOf:Str->Option NameKind} {x:Str} {v:Value}:∀ {P:List Str} {vs:List Value} {i:Nat} {m:Str->Option Value},P.Nodup->P[i]? = some x->vs[i]? = some v->kindOf x ≠ some .local ->
  bindC kindOf (P.zip vs) m x=some v
 | [],_,_,_,_,h,_,_=>by simp at h
 | _ :: _,[],_,_,_,_,h,_=>by simp at h
 | p :: P,w :: vs,0,m,nd,h1,h2,hk=>by
  simp at h1 h2;subst h1;subst h2
  show bindC kindOf ((p,w) :: P.zip vs) m p=_
  unfold bindC
  rw[Q7 fun v hv=>(CL.mp nd).1 (CK hv).1,if_neg hk]
  simp
 | p :: P,w :: vs,i+1,m,nd,h1,h2,hk=>by
  show bindC kindOf ((p,w) :: P.zip vs) m x=_
  unfold bindC
  exact Q9 (i:=i) (CL.mp nd).2 (by simpa using h1) (by simpa using h2) hk
def start (N:List Str) (vs:List V):St:=vs.map some++List.replicate (N.length - vs.length) none
def WC (CX:CXT) (P:Program) (w:World) (K:PySem.W.Frag) (mg:Str->Option Value) (base:Heap) (N:List Str) (qual:Str) (scope:Scope) (f:Addr) (cd:Value) (A:Around) (outer:List Env) (s:Shared) (H:Hp) (E:XK):Cx where
 prog:=P
 w:=w
 K:=K
 mg:=mg
 base:=base
 A:=A.deeper (envOfC qual scope s.heap.objs.size f cd)
 N:=N
 s₀:=s
 H₀:=H
 env:=envOfC qual scope s.heap.objs.size f cd
 outer:=outer
 stack:=envOfC qual scope s.heap.objs.size f cd :: outer
 ex:=[]
 calm:=true
 fn:=fun _=>true
 pn:=[]
 xe:=fun e s'=>wpAny (model P w) (A.deeper (envOfC qual scope s.heap.objs.size f cd)) (leaving (envOfC qual scope s.heap.objs.size f cd) e) (fun _ s''=>CX outer H s E e s'') (fun e' s''=>CX outer H s E e' s'') s'
theorem wD {sc:Scope} {n:Nat} {x:Str} (h:sc.names.lookup x=some .cell):∃ c,(cellsFrom n sc.names []).lookup x=some c:=by
 have q:=PySem.W.cellsFrom_some sc.names n [] (.inl h)
 exact B5.mp q
theorem WW {CX:CXT} {P:Program} {w:World} {K:PySem.W.Frag} {mg:Str->Option Value} {base:Heap} {N ps:List Str} {qual:Str} {scope:Scope} {f:Addr} {cd:Value} {A:Around} {outer:List Env} {s s1:Shared} {H:Hp} {E:XK} {us:List Value} {vs:List V}
  (S:zu N ps scope) (hd:A.handled=none) (e0:Env0 P w K mg base A outer s H) (hl:vs.length=ps.length) (r:zR vs us)
  (x:InCallC s s.heap.objs.size (bindL (envOfC qual scope s.heap.objs.size f cd).kindOf (ps.zip us) fun _=>none) (cellsFrom (s.heap.objs.size+1) scope.names []) (bindC (envOfC qual scope s.heap.objs.size f cd).kindOf (ps.zip us) fun _=>none) s1) :
  Inv (WC CX P w K mg base N qual scope f cd A outer s H E) [] (start N vs) H s1:=by
 have hpl:ps.length<=N.length:=by have:=BB List.length S.pre;rw[Al] at this;omega
 obtain⟨h1,tk,rfl,hk⟩:=x.done
 have noA:∀ b:Addr,b ∉ (WC CX P w K mg base N qual scope f cd A outer s H E).ex:=fun b z=>absurd (show b ∈ ([]:List Addr) from z) (by simp)
 refine⟨⟨e0.mod,S.kind,rfl,rfl,AG _,fun y z c h1 h2=>?_,fun y hy=>?_,fun y c _ h=>?_,fun _=>hd,Around.frames_deeper e0.frames,.inr ⟨rfl,rfl⟩,fun b z=>absurd z (noA b),e0.bs,e0.bsz,fun b _ _=>noA b,fun b z=>absurd z (noA b),e0.funs,e0.frf⟩,
  rfl,e0.bare,Un.kept hk,⟨_,x.toInCall.ns,fun i y v h1 h2 h3=>?_⟩,fun y c h=>⟨_,x.cell y c h⟩,e0.hok.fresh (AG _),fun y c h=>?_,fun p hp=>absurd (show p ∈ ([]:List (Addr×Obj)) from hp) (by simp),e0.hok.kept hk,?_⟩
 ·exact name_of_addr x.apart (As h1) (As h2)
 ·have hy:scope.names.lookup y=some .cell\/scope.names.lookup y=some .free:=hy
  rcases hy with hy | hy
  ·exact wD hy
  ·exact absurd rfl (S.nofree _ (As hy))
 ·exact Br (x.above y c (As h))
 ·have hi:i < vs.length:=by
   unfold start at h2
   by_cases hi:i < vs.length
   ·exact hi
   ·rw[BP (by simpa using hi)] at h2
    rw[List.getElem?_replicate] at h2
    split at h2 <;> cases h2
  have ha:vs[i]? = some v:=by
   unfold start at h2
   rw[BE (by simpa using hi),An] at h2
   cases e:vs[i]? with
   | none=>rw[e] at h2;cases h2
   | some a=>rw[e] at h2;cases h2;rfl
  obtain⟨u,hu,rv⟩:=r.get ha
  have hp:ps[i]? = some y:=by
   rw[<- S.pre,List.getElem?_take_of_lt (by omega)];exact h1
  have ndP:ps.Nodup:=by rw[<- S.pre];exact S.nd.sublist (List.take_sublist _ _)
  refine⟨u,rv,?_⟩
  rcases S.par y (AH hp) with k | k
  ·exact .inl ⟨k,Q8 ndP hp hu k⟩
  ·obtain⟨c,e⟩:=wD (n:=s.heap.objs.size+1) k
   refine .inr ⟨.inl k,c,e,?_⟩
   have q:=x.cell y c e
   rw[Q9 ndP hp hu (by show scope.names.lookup y ≠ _;rw[k];decide)] at q
   exact q
 ·exact e0.hok.fresh (Br (x.above y c (As h)))
 ·unfold start
  show _=N.length
  rw[AR,AF,List.length_replicate]
  omega
theorem fn_of {CX:CXT} {P:Program} {w:World} {K:PySem.W.Frag} {mg:Str->Option Value} {base:Heap} {k:Nat} {f:Addr} {name qual:Str} {params:Arguments} {body:List Stmt} {scope:Scope} {dV kV doc pm cdv ct oc:Value} {an od:Option Addr}
  {osl:Array (Option Value)} {N ps:List Str} {sp:Sp} (lk:K.lookup f=some ⟨oc,od,.func (PySem.W.fnOf name qual params body scope dV kV doc pm an cdv ct),osl⟩) (hcd:PySem.W.codeIn K cdv qual=true) (S:zu N ps scope)
  (len:∀ vs H Q E,sp vs H Q E->vs.length=ps.length)
  (hbody:∀ (A:Around) (outer:List Env) (s:Shared) (H:Hp) (vs:List V) (Q:VK) (E:XK),jk k (A.deeper (envOfC qual scope s.heap.objs.size f cdv))->sp vs H Q E ->
   ∃ t,PSs (WC CX P w K mg base N qual scope f cdv A outer s H E) body t/\t { nx:=fun _ H'=>Q .non H',rt:=Q } (start N vs) H) :
  qA P w K mg base CX (k+1) f (PySem.W.fnOf name qual params body scope dV kV doc pm an cdv ct) ps sp:=by
 refine⟨len,fun A outer s H args us vs Q E hr e0 hb r hsp=>?_⟩
 have hl:=len _ _ _ _ hsp
 have KX:K.In s.heap:=e0.mod.kin.keeps fun b o e=>(e0.bs b o e).1
 have lim:s.heap.NoLimit:=e0.mod.nolimit.keeps fun b o e=>(e0.bs b o e).1
 have hkind:∀ y ∈ ps.zip us,scope.names.lookup y.1=some .local\/(scope.names.lookup y.1=some .cell/\((cellsFrom (s.heap.objs.size+1) scope.names []).lookup y.1).isSome=true):=fun ⟨n,v⟩ hy=>by
  rcases S.par n (CK hy).1 with q | q
  ·exact .inl q
  ·exact .inr ⟨q,PySem.W.cellsFrom_some _ _ _ (.inl q)⟩
 refine codeAny_call_function hr.depth (KX _ _ lk) rfl S.co S.gen rfl (PySem.W.codeRec_of KX hcd) (hb _ _ _ _ ?_)
 refine wpAny_newFunctionEnv_cells S.kind hkind fun env he s1 x=>?_
 subst he
 refine⟨lim.keeps x.toInCall.keep,codeAny_func ?_⟩
 obtain⟨t,ht,hq⟩:=hbody A outer s H vs Q E (hr.deeper _) hsp
 have I:Inv (WC CX P w K mg base N qual scope f cdv A outer s H E) [] (start N vs) H s1:=WW S hr.hd e0 hl r x
 refine A4 (ht [] s1 (start N vs) H _ I hq) (fun fl s' hs=>?_) fun e s' hs=>hs
 have fin:∀ {σ':St} {H':Hp} {v:V} {u:Value},Inv (WC CX P w K mg base N qual scope f cdv A outer s H E) [] σ' H' s'->RelV v u->Q v H'->CE outer P w H s Q u s':=
  fun {σ' H' v u} J rv q=>⟨v,H',J.os,J.bare,J.base,J.hok,rv,q⟩
 cases fl with
 | ret u=>
  obtain⟨v,σ',H',J,rv,q⟩:=hs
  exact fin J rv q
 | next=>
  obtain⟨σ',H',J,q⟩:=hs
  exact fin (v:=V.non) (u:=Value.none) J rfl q
 | brk=>
  obtain⟨_,_,_,q⟩:=hs
  exact False.elim q
 | cont=>
  obtain⟨_,_,_,q⟩:=hs
  exact False.elim q
section
variable {X : Cx} {x : Str} {p pos : Pos} {e : Expr} {es : List Expr} {t : TA} {id T : String} {r : List V -> Hp -> VK -> Prop}
def tCB (r:List V->Hp->VK->Prop) (t:TA):TE:=fun σ H Q=>t σ H fun vs H1=>r vs H1 Q
theorem zo (hc:qU X (.builtin id) r) (hg:Gl X x) (hm:X.mg x=none) (hv:bootBuiltins x=some (.builtin id)) (ha:PA X (e :: es) t) (hn:x ≠ "__name__":=by decide) (hdb:(x == ("__debug__" : Str))=false:=by decide)
  (he:starEach (e :: es) X.env=(false,eval e X.env) :: starEach es X.env:=by rfl) (hpl:(backTo pos (starEach es X.env)).any (·.1)=false:=by rfl):PE X (.Call (.Name x p) (e :: es) [] pos) (tCB r t):=by
 intro pins s σ H Q I h
 refine Bi (Zt I hg hm hv ?_ hn hdb)
 exact Cj (thn (ha pos pins s σ H _ I h) fun us s1 ⟨vs,H1,I1,r1,q1⟩=>hc pins s1 σ H1 vs us Q I1 r1 q1) he hpl
theorem Zz (hc:qU X (.type T) r) (hg:Gl X x) (hm:X.mg x=none) (hv:bootBuiltins x=some (.type T)) (ha:PA X (e :: es) t) (hn:x ≠ "__name__":=by decide) (hdb:(x == ("__debug__" : Str))=false:=by decide)
  (he:starEach (e :: es) X.env=(false,eval e X.env) :: starEach es X.env:=by rfl) (hpl:(backTo pos (starEach es X.env)).any (·.1)=false:=by rfl):PE X (.Call (.Name x p) (e :: es) [] pos) (tCB r t):=by
 intro pins s σ H Q I h
 refine Bi (Zt I hg hm hv ?_ hn hdb)
 exact A9 (thn (ha pos pins s σ H _ I h) fun us s1 ⟨vs,H1,I1,r1,q1⟩=>hc pins s1 σ H1 vs us Q I1 r1 q1) he hpl
end
end L2
namespace HT
open PySem PyProof.Rows
section
open PySem.SeqAt
open PySem.AutoSeq1 (wpAny_loadPart')
open PySem.MeetsSeq PySem.MeetsSeq2 PySem.MeetsSeq3
end
section
variable {prog : Program} {w : World} {A : Around} {E : Value -> Shared -> Prop} {s : Shared}
theorem cat_tup {t b:Addr} {vs ws:List Value} {Q:Value->Shared->Prop} (ht:IsTup s.heap t vs.toArray) (hb:IsTup s.heap b ws.toArray) (hv:vs ≠ [])
  (h1:ws=[]->Q (.ref t) s) (h2:ws ≠ []->Q (.ref s.heap.objs.size) { s with heap:=s.heap.push { cls:=.type "tuple",data:=.seq (vs++ws).toArray } })
  (hsz:vs.length+ws.length<=sizeLine):wpAny (model prog w) A (binaryOp .Add (.ref t) (.ref b)) Q E s:=by
 obtain⟨⟨cls,dd,data,sl⟩,ho,hc,n,hd⟩:=id ht
 obtain⟨⟨cls2,dd2,data2,sl2⟩,ho2,hc2,n2,hd2⟩:=id hb
 simp only at hc hd hc2 hd2
 subst hc hd hc2 hd2
 have e:vs.toArray++ws.toArray=(vs++ws).toArray:=by simp
 by_cases hw:ws=[]
 ·exact concat_meets ⟨_,ho,rfl⟩ ⟨_,ho2,rfl⟩ noFill_tuple_add seq_tuple_add CC B8 (B4 _ _)
   (tuple_addW1 t b vs.toArray ws.toArray n n2 dd dd2 sl sl2 (by simpa using hv) (by simp[hw])) ⟨ho,ho2,h1 hw⟩
 ·refine concat_meets ⟨_,ho,rfl⟩ ⟨_,ho2,rfl⟩ noFill_tuple_add seq_tuple_add CC B8 (B4 _ _)
   (tuple_addW2 t b vs.toArray ws.toArray n n2 dd dd2 sl sl2 (by simpa using hv) (by simpa using hw) (by rw[List.size_toArray,List.size_toArray];exact hsz)) ⟨ho,ho2,?_⟩
  rw[e]
  exact h2 hw
def sIx (n d:Nat):Option Int->Nat
 | none=>d
 | some v=>if v < 0 then (v+(n:Int)).toNat else min v.toNat n
theorem sIx_none (n d:Nat):sIx n d none=d:=rfl
theorem sIx_nat (n d k:Nat):sIx n d (some (k:Int))=min k n:=by
 show (if (k:Int) < 0 then ((k:Int)+(n:Int)).toNat else min (k:Int).toNat n)=min k n
 rw[if_neg (by omega),B1]
theorem sIx_le (n d:Nat) (hd:d<=n) (o:Option Int):sIx n d o<=n:=by
 cases o with
 | none=>exact hd
 | some v=>
  show (if v < 0 then (v+(n:Int)).toNat else min v.toNat n)<=n
  by_cases hv:v < 0
  ·rw[if_pos hv];omega
  ·rw[if_neg hv];exact Nat.min_le_right _ _
theorem clip_eq (v:Int) (n d:Nat):(if v < 0 then max (v+(n:Int)) 0 else min v (n:Int))=((sIx n d (some v):Nat):Int):=by
 show (if v < 0 then max (v+(n:Int)) 0 else min v (n:Int))=(((if v < 0 then (v+(n:Int)).toNat else min v.toNat n):Nat):Int)
 by_cases hv:v < 0
 ·simp only[if_pos hv];omega
 ·simp only[if_neg hv];omega
theorem adjust_gen (lo hi:Option Int) (n:Nat):Builtin.Slice.sliceAdjust lo hi 1 (n:Int)=(((sIx n 0 lo:Nat):Int),((sIx n n hi:Nat):Int)):=by
 have h1:¬ ((1:Int) < 0):=by omega
 unfold Builtin.Slice.sliceAdjust
 simp only[h1,if_false]
 refine Prod.ext ?_ ?_
 ·cases lo with
  | none=>rfl
  | some v=>exact clip_eq v n 0
 ·cases hi with
  | none=>rfl
  | some v=>exact clip_eq v n n
theorem places_gen (i j:Nat):Builtin.Slice.slicePlaces (i:Int) (j:Int) 1=j - i:=by
 unfold Builtin.Slice.slicePlaces
 have h1:(1:Int) > 0:=by omega
 simp only[h1,if_true,Int.ediv_one]
 split <;> omega
theorem slicePart_ {v:Value} {o:Option Int} {Q:Option Int->Shared->Prop} (p:IsPart v o) (h:Q o s):wpAny (model prog w) A (Builtin.Slice.slicePartIndex v) Q E s:=by
 cases p with
 | none=>exact slicePart_none h
 | int i t=>exact slicePart_int h
theorem sliceApplied_gen {sl:Addr} {vl vu:Value} {lo hi:Option Int} {n:Nat} {Q:Int×Int×Nat->Shared->Prop} (hs:s.heap.IsSliceOf sl vl vu .none) (pl:IsPart vl lo) (pu:IsPart vu hi)
  (h:Q (((sIx n 0 lo:Nat):Int),1,sIx n n hi - sIx n 0 lo) s):wpAny (model prog w) A (Builtin.Slice.sliceApplied (.ref sl) (pure (n:Int))) Q E s:=by
 obtain⟨os,hos,hcs,hds⟩:=id hs
 unfold Builtin.Slice.sliceApplied Builtin.Slice.sliceFields
 refine AA (AA (A2 hos hds (x:=vl) rfl (AA (A2 hos hds (x:=vu) rfl (AA (A2 hos hds (x:=.none) rfl (AB ?_)))))))
 refine AA (slicePart_none ?_)
 show wpAny _ _ (if ((1:Int) == 0)=true then _ else _) _ _ s
 rw[if_neg (by decide)]
 refine AA (slicePart_ pl (AA (slicePart_ pu (AA (AB ?_)))))
 show wpAny _ _ (match Builtin.Slice.sliceAdjust lo hi 1 (n:Int) with | (lo,hi)=>pure (lo,(1:Int),Builtin.Slice.slicePlaces lo hi 1)) _ _ s
 rw[adjust_gen lo hi n]
 show wpAny _ _ (pure (((sIx n 0 lo:Nat):Int),(1:Int),Builtin.Slice.slicePlaces ((sIx n 0 lo:Nat):Int) ((sIx n n hi:Nat):Int) 1)) _ _ s
 rw[places_gen]
 exact AB h
theorem pick_gen (xs:Array Value) (i k:Nat):((List.range k).filterMap fun (m:Nat)=>xs[((i:Int)+(m:Int) * 1).toNat]?).toArray=((xs.toList.drop i).take k).toArray:=by
 have e:(fun (m:Nat)=>xs[((i:Int)+(m:Int) * 1).toNat]?)=fun m=>xs[i+m]?:=by
  funext m
  have:((i:Int)+(m:Int) * 1).toNat=i+m:=by omega
  rw[this]
 rw[e]
 have:=pick_run xs i k
 rw[List.filterMap_map] at this
 have e2:((fun x=>xs[x]?) ∘ fun x=>i+x)=fun m=>xs[i+m]?:=rfl
 rw[e2] at this
 rw[this]
theorem getItem_tuple_cut {t sl:Addr} {items:Array Value} {vl vu:Value} {lo hi:Option Int} {Q:Value->Shared->Prop} (ht:IsTup s.heap t items) (hs:s.heap.IsSliceOf sl vl vu .none) (pl:IsPart vl lo) (pu:IsPart vu hi)
  (hw:¬ (sIx items.size 0 lo=0/\sIx items.size items.size hi=items.size))
  (h:Q (.ref s.heap.objs.size) { s with heap:=s.heap.push { cls:=.type "tuple",data:=.seq ((items.toList.drop (sIx items.size 0 lo)).take (sIx items.size items.size hi - sIx items.size 0 lo)).toArray } })
  (hsz:items.size<=sizeLine):wpAny (model prog w) A (getItem (.ref t) (.ref sl)) Q E s:=by
 have htake:sizeOk (.seq ((items.toList.drop (sIx items.size 0 lo)).take (sIx items.size items.size hi - sIx items.size 0 lo)).toArray):=by
  show ((items.toList.drop (sIx items.size 0 lo)).take (sIx items.size items.size hi - sIx items.size 0 lo)).toArray.size<=sizeLine
  rw[AY,Al,BH,Array.length_toList]
  omega
 have hj:sIx items.size items.size hi<=items.size:=sIx_le _ _ (AG _) hi
 obtain⟨os,hos,hcs,hds⟩:=id hs
 have hTs:s.TypeIs (.ref sl) "slice":=⟨os,hos,hcs⟩
 unfold getItem
 try with_reducible refine Aw ?_
 first | refine AA (AB ?_) | skip
 refine AA (wpAny_sequenceKey ht.typeIs (by decide) ?_)
 refine AA (wpAny_callSpecial?_slot (name:=Str.ofString "__getitem__") ht.typeIs Ap
  (BJ Ap ht.typeIs entry_tuple_getitem ?_ (args_tuple_getitem _ _)))
 show wpAny _ _ (Builtin.Tuple.tupleItemsOf (.ref t) >>= _) _ _ s
 refine AA (tupleItemsOf_ ht ?_)
 refine AA (CV hTs ?_)
 rw[if_pos (by decide)]
 refine AA (sliceApplied_gen hs pl pu ?_)
 have hno:¬ ((((sIx items.size 0 lo:Nat):Int) == 0 && (1:Int) == 1 && (sIx items.size items.size hi - sIx items.size 0 lo) == items.size)=true):=by
  intro q
  rw[Az,Az] at q
  have q1:((sIx items.size 0 lo:Nat):Int)=0:=eq_of_beq q.1.1
  have q2:sIx items.size items.size hi - sIx items.size 0 lo=items.size:=eq_of_beq q.2
  exact hw ⟨by omega,by omega⟩
 show wpAny _ _ (if (((sIx items.size 0 lo:Nat):Int) == 0 && (1:Int) == 1 && (sIx items.size items.size hi - sIx items.size 0 lo) == items.size)=true then _ else _) _ _ s
 rw[if_neg hno,pick_gen]
 first
  | exact AA (m:=Builtin.Tuple.tupleExact _) (Aj (AB ⟨_,rfl,AB h⟩) htake)
  | exact AA (m:=Builtin.Tuple.tupleExact _) (Aj (AA (AB (AB ⟨_,rfl,AB h⟩))) htake)
  | exact AA (AA (m:=Builtin.Tuple.tupleExact _) (Aj (AB (AB ⟨_,rfl,AB h⟩)) htake))
  | exact AA (AA (m:=Builtin.Tuple.tupleExact _) (Aj (AB ⟨_,rfl,AB h⟩) htake))
end
end HT
namespace L2
open PySem PySem.Spec PyProof.Rows
abbrev TO:=St->Hp->(Option Int->Hp->Prop)->Prop
def PO (X:Cx) (e:Option Expr) (t:TO):Prop:=
 ∀ (pins:List (Addr×Obj)) (s:Shared) (σ:St) (H:Hp) (Q:Option Int->Hp->Prop),Inv X pins σ H s->t σ H Q ->
  wpAny (model X.prog X.w) X.A (evalPart e X.env) (fun u s'=>∃ o H',Inv X pins σ H' s'/\IsPart u o/\Q o H') X.xe s
def tNoPart:TO:=fun _ H Q=>Q none H
def tPart (t:TE):TO:=fun σ H Q=>t σ H fun x H1=>∃ i,x=.int i/\Q (some i) H1
section
variable {X : Cx} {e : Expr} {te : TE} {lo hi : Option Expr} {tl th : TO} {pos p2 : Pos}
theorem qP:PO X none tNoPart:=by
 intro pins s σ H Q I h
 rw[evalPart_none]
 exact AB ⟨none,H,I,.none,h⟩
theorem qQ (h:PE X e te):PO X (some e) (tPart te):=by
 intro pins s σ H Q I hw
 rw[evalPart_some]
 refine thn (h pins s σ H _ I hw) fun u s1 ⟨x,H1,I1,r1,q1⟩=>?_
 obtain⟨i,rfl,q⟩:=q1
 obtain⟨t,rfl⟩:=r1
 exact⟨some i,H1,I1,.int i t,q⟩
def SlR (X:Cx) (r:V->Option Int->Option Int->Hp->VK->Prop):Prop:=
 ∀ (pins:List (Addr×Obj)) (s:Shared) (σ:St) (H:Hp) (x:V) (v vl vu:Value) (lo hi:Option Int) (sl:Addr) (Q:VK),Inv X pins σ H s->RelV x v->s.heap.IsSliceOf sl vl vu .none->IsPart vl lo->IsPart vu hi->r x lo hi H Q ->
  ∃ T id,typeLookup (.type T) "__getitem__" = pure (some (.builtin id))/\s.TypeIs v T/\wpAny (model X.prog X.w) X.A (getItem v (.ref sl)) (EP X pins σ Q) X.xe s
theorem SlR.or {r r':V->Option Int->Option Int->Hp->VK->Prop} (h:SlR X r) (h':SlR X r'):SlR X (fun x lo hi H Q=>r x lo hi H Q\/r' x lo hi H Q):=by
 intro pins s σ H x v vl vu lo hi sl Q I rx hs pl pu q
 rcases q with q | q
 ·exact h pins s σ H x v vl vu lo hi sl Q I rx hs pl pu q
 ·exact h' pins s σ H x v vl vu lo hi sl Q I rx hs pl pu q
def tSl (r:V->Option Int->Option Int->Hp->VK->Prop) (te:TE) (tl th:TO):TE:=fun σ H Q=>te σ H fun x H1=>tl σ H1 fun l H2=>th σ H2 fun u H3=>r x l u H3 Q
theorem qm {r:V->Option Int->Option Int->Hp->VK->Prop} (hr:SlR X r) (he:PE X e te) (hl:PO X lo tl) (hu:PO X hi th):PE X (.Subscript e (.Slice lo hi none p2) pos) (tSl r te tl th):=by
 intro pins s σ H Q I h
 refine Subscript_ (thn (he pins s σ H _ I h) fun v s1 ⟨x,H1,I1,r1,q1⟩=>?_)
 refine wpAny_Slice (thn (hl pins s1 σ H1 _ I1 q1) fun vl s2 ⟨l,H2,I2,pl,q2⟩=>thn (hu pins s2 σ H2 _ I2 q2) fun vu s3 ⟨u,H3,I3,pu,q3⟩=>?_)
 rw[evalPart_none]
 refine AB ?_
 have I4:Inv X pins σ H3 { s3 with heap:=s3.heap.push { cls:=.type "slice",data:=.fields #[vl,vu,.none] } }:=I3.kept (t':=s3.toks) fun b ob q=>AC _ q
 obtain⟨T,id,hT,ht,hg⟩:=hr pins { s3 with heap:=s3.heap.push { cls:=.type "slice",data:=.fields #[vl,vu,.none] } } σ H3 x v vl vu l u s3.heap.objs.size Q I4 r1 (Heap.IsSliceOf.new ..) pl pu q3
 show wpAny (model X.prog X.w) X.A (subscriptTail e (.Slice lo hi none p2) v (.ref s3.heap.objs.size)) (EP X pins σ Q) X.xe { s3 with heap:=s3.heap.push { cls:=.type "slice",data:=.fields #[vl,vu,.none] } }
 exact tail_any (ops:=[.ref s3.heap.objs.size,v]) ht hT hg (by with_unfolding_all rfl)
def Qe (xs:List V) (lo hi:Option Int):List V:=(xs.drop (HT.sIx xs.length 0 lo)).take (HT.sIx xs.length xs.length hi - HT.sIx xs.length 0 lo)
theorem ZA (xs:List V) (lo hi:Option Int):(Qe xs lo hi).length<=xs.length:=by
 unfold Qe
 rw[Al,BH]
 omega
def rSlT (K:PySem.W.Frag):V->Option Int->Option Int->Hp->VK->Prop:=fun x lo hi H Q=>∃ a xs,x=.ref a/\SqT K H a xs /\
 ¬ (HT.sIx xs.length 0 lo=0/\HT.sIx xs.length xs.length hi=xs.length)/\∀ p,H p=none->Q (.ref p) (upd H p (.tup (Qe xs lo hi)))
theorem sl_tup:SlR X (rSlT X.K):=by
 intro pins s σ H x v vl vu lo hi sl Q I rx hs pl pu h
 obtain⟨a,xs,rfl,hx,hw,q⟩:=h
 cases rx
 obtain⟨its,r,ht,hz⟩:=I.tuple hx
 have hlen:its.toArray.size=xs.length:=by rw[AY];exact r.length.symm
 refine⟨"tuple",_,Ap.lookup,ht.typeIs,?_⟩
 refine HT.getItem_tuple_cut ht hs pl pu (by rw[hlen];exact hw) ?_ (by rw[hlen];exact hz)
 rw[hlen]
 refine⟨.ref s.heap.objs.size,_,I.laid (t':=s.toks) (o:=.tup (Qe xs lo hi)) (fun b ob q=>AC _ q) (AG _) ?_,rfl,q _ (I.hok.fresh (AG _))⟩
 exact⟨Ab (ZA xs lo hi) hz,_,(r.drop (HT.sIx xs.length 0 lo)).take (HT.sIx xs.length xs.length hi - HT.sIx xs.length 0 lo),PTup.new _ _⟩
def rCatT (K:PySem.W.Frag):R2:=fun x y H Q=>∃ a b xs ys,x=.ref a/\y=.ref b/\SqT K H a xs/\SqT K H b ys/\xs ≠ []/\xs.length+ys.length<=sizeLine /\
 (ys=[]->Q (.ref a) H)/\(ys ≠ []->∀ p,H p=none->Q (.ref p) (upd H p (.tup (xs++ys))))
theorem zR.nil_iff {xs:List V} {us:List Value} (r:zR xs us):us=[] ↔ xs=[]:=by
 cases r with
 | nil=>simp
 | cons _ _=>simp
theorem op_catT:OpR X (binaryOp .Add) (rCatT X.K):=by
 intro pins s σ H x y v u Q I rx ry h
 obtain⟨a,b,xs,ys,rfl,rfl,ha,hb,hx,hz,q1,q2⟩:=h
 cases rx
 cases ry
 obtain⟨its,r1,p1,_⟩:=I.tuple ha
 obtain⟨its2,r2,p2,_⟩:=I.tuple hb
 refine HT.cat_tup p1 p2 (fun z=>hx (r1.nil_iff.mp z)) (fun z=>⟨.ref a,H,I,rfl,q1 (r2.nil_iff.mp z)⟩) (fun z=>?_) (by rw[<- r1.length,<- r2.length];exact hz)
 refine⟨.ref s.heap.objs.size,_,I.laid (t':=s.toks) (o:=.tup (xs++ys)) (fun b ob q=>AC _ q) (AG _) ?_,rfl,q2 (fun w=>z (r2.nil_iff.mpr w)) _ (I.hok.fresh (AG _))⟩
 exact⟨by rw[AR];exact hz,_,r1.append r2,PTup.new _ _⟩
end
def ixN (n:Nat) (i:Int):Option Nat:=if 0<=i then (if i < n then some i.toNat else none) else if -(n:Int)<=i then some (i+n).toNat else none
def atI {α:Type} (xs:List α) (i:Int):Option α:=(ixN xs.length i).bind fun j=>xs[j]?
theorem ixN_seq {n:Nat} {i:Int} {j:Nat} (h:ixN n i=some j):seqIndex? i n=some j/\j < n /\ -(n:Int)<=i/\i < n:=by
 unfold ixN at h
 by_cases h0:0<=i
 ·rw[if_pos h0] at h
  by_cases h1:i < n
  ·rw[if_pos h1] at h
   have e:i.toNat=j:=AO h
   exact⟨by rw[seqIndex_of h0 h1,e],by omega,by omega,h1⟩
  ·rw[if_neg h1] at h;cases h
 ·rw[if_neg h0] at h
  by_cases h1:-(n:Int)<=i
  ·rw[if_pos h1] at h
   have e:(i+n).toNat=j:=AO h
   exact⟨by rw[seqIndex_neg (by omega) h1,e],by omega,h1,by omega⟩
  ·rw[if_neg h1] at h;cases h
theorem JS {α:Type} {xs:List α} {i:Int} {v:α} (h:atI xs i=some v):∃ j,seqIndex? i xs.length=some j/\xs[j]? = some v/\j < xs.length /\ -(xs.length:Int)<=i/\i < xs.length:=by
 unfold atI at h
 cases e:ixN xs.length i with
 | none=>rw[e] at h;cases h
 | some j=>
  rw[e] at h
  obtain⟨h1,h2,h3,h4⟩:=ixN_seq e
  exact⟨j,h1,h,h2,h3,h4⟩
theorem qZ {α:Type} {xs:List α} {j:Nat} {v:α} (h:xs[j]? = some v):atI xs (j:Int)=some v:=by
 have hj:j < xs.length:=(AD.mp h).1
 have e:ixN xs.length (j:Int)=some j:=by
  unfold ixN
  rw[if_pos (by omega),if_pos (by omega)];simp
 unfold atI;rw[e];exact h
def PlainIx (b:Expr):Prop:=∀ o i,subscripted b false o i=operate [o,i] (getItem o i)
def IxR (X:Cx) (r:R2):Prop:=
 ∀ (value slice:Expr) (pins:List (Addr×Obj)) (s:Shared) (σ:St) (H:Hp) (x y:V) (v u:Value) (Q:VK),Inv X pins σ H s->RelV x v->RelV y u->r x y H Q ->
  subscripted slice false v u=operate [v,u] (getItem v u)->wpAny (model X.prog X.w) X.A (subscriptTail value slice v u) (EP X pins σ Q) X.xe s
def MtR (X:Cx) (id:String) (r:V->List V->Hp->VK->Prop):Prop:=
 ∀ (pins:List (Addr×Obj)) (s:Shared) (σ:St) (H:Hp) (x:V) (xs:List V) (v:Value) (us:List Value) (Q:VK),Inv X pins σ H s->RelV x v->zR xs us->r x xs H Q ->
  wpAny (model X.prog X.w) X.A (call (.builtin id) (v :: us)) (EP X pins σ Q) X.xe s
section
variable {X : Cx} {a b : Expr} {ta tb : TE} {pos : Pos}
theorem IxR.or {r r':R2} (h:IxR X r) (h':IxR X r'):IxR X (fun x y H Q=>r x y H Q\/r' x y H Q):=by
 intro value slice pins s σ H x y v u Q I rx ry q hs
 rcases q with q | q
 ·exact h value slice pins s σ H x y v u Q I rx ry q hs
 ·exact h' value slice pins s σ H x y v u Q I rx ry q hs
theorem zy {r:R2} (hr:IxR X r) (ha:PE X a ta) (hb:PE X b tb) (hs:PlainIx b):PE X (.Subscript a b pos) (tOp r ta tb):=by
 intro pins s σ H Q I h
 exact Subscript_ (binT ha hb I h fun v u s2 x y H2 I2 rx ry q=>hr a b pins s2 σ H2 x y v u Q I2 rx ry q (hs _ _))
def rIxL (K:PySem.W.Frag):R2:=fun x y H Q=>∃ p xs i v,x=.ref p/\y=.int i/\SqL K H p xs/\atI xs i=some v/\Q v H
def rIxT (K:PySem.W.Frag):R2:=fun x y H Q=>∃ p xs i v,x=.ref p/\y=.int i/\SqT K H p xs/\atI xs i=some v/\Q v H
def rIxS:R2:=fun x y H Q=>∃ z i c,x=.str z/\y=.int i/\z.length<=sizeLine/\atI z.cps.toList i=some c/\Q (.str ⟨#[c]⟩) H
theorem ix_list:IxR X (rIxL X.K):=by
 intro value slice pins s σ H x y v u Q I rx ry h hs
 obtain⟨p,xs,i,z,rfl,rfl,hq,he,q⟩:=h
 cases rx
 obtain⟨t,rfl⟩:=ry
 obtain⟨its,r,pl,hz⟩:=I.list hq
 obtain⟨j,h1,h2,h3,h4,h5⟩:=JS he
 obtain⟨w,ew,rw'⟩:=r.get h2
 have hl:=r.length
 have hn:=wB
 have fin:EP X pins σ Q w s:=⟨z,H,I,rw',q⟩
 by_cases h0:0<=i
 ·have hj:i.toNat=j:=by
   rw[seqIndex_of h0 h5] at h1
   exact AO h1
  exact item_listR pl.isList h0 (by omega) (by rw[hj];simpa using ew) fin hs
 ·have hj:(i+(its.toArray.size:Int)).toNat=j:=by
   rw[seqIndex_neg (by omega) h4] at h1
   rw[AY,<- hl]
   exact AO h1
  exact subscriptTail_builtinR (x:=w) pl.isList.typeIs slot_list_getitem.lookup
   (wpAny_getItem_list_neg (Q:=fun r s'=>r=w/\EP X pins σ Q r s') pl.isList (by omega) (by rw[AY] <;> omega) (by omega) (by rw[hj];simpa using ew) ⟨rfl,fin⟩) hs
theorem ix_tup:IxR X (rIxT X.K):=by
 intro value slice pins s σ H x y v u Q I rx ry h hs
 obtain⟨p,xs,i,z,rfl,rfl,hq,he,q⟩:=h
 cases rx
 obtain⟨t,rfl⟩:=ry
 obtain⟨its,r,pl,hz⟩:=I.tuple hq
 obtain⟨j,h1,h2,h3,h4,h5⟩:=JS he
 obtain⟨w,ew,rw'⟩:=r.get h2
 have hl:=r.length
 have hn:=wB
 have fin:EP X pins σ Q w s:=⟨z,H,I,rw',q⟩
 exact subscriptTail_builtinR (x:=w) pl.typeIs slot_tuple_getitem.lookup
  (getItem_tuple (j:=j) (Q:=fun r s'=>r=w/\EP X pins σ Q r s') pl (by omega) (by omega) (by rw[AY,<- hl];exact h1) (by simpa using ew) ⟨rfl,fin⟩) hs
theorem ix_str:IxR X rIxS:=by
 intro value slice pins s σ H x y v u Q I rx ry h hs
 obtain⟨z,i,c,rfl,rfl,hz,he,q⟩:=h
 obtain⟨t,rfl⟩:=rx
 obtain⟨t',rfl⟩:=ry
 obtain⟨j,h1,h2,h3,h4,h5⟩:=JS he
 have hl:z.cps.toList.length=z.length:=by simp[Str.length]
 rw[hl] at h1 h4 h5
 have hn:=wB
 exact tail_any (typeIs_str s z t) slot_str_getitem.lookup (getItem_str (c:=c) (by
  have e1:decide (i < -(2 ^ 63:Int))=false:=AQ (by omega)
  have e2:decide (i ≥ 2 ^ 63)=false:=AQ (by omega)
  rw[e1,e2,Bool.or_false]) (by rw[h1];simpa using h2) ⟨.str ⟨#[c]⟩,H,I.tok _,⟨_,rfl⟩,q⟩) hs
def rIx (K:PySem.W.Frag):R2:=fun x y H Q=>rIxL K x y H Q\/rIxT K x y H Q\/rIxS x y H Q
theorem ix_seq:IxR X (rIx X.K):=ix_list.or (ix_tup.or ix_str)
theorem Ja (lo hi:Option Int) (n:Nat):(sliceBounds lo hi none n).1=((HT.sIx n 0 lo:Nat):Int)/\(sliceBounds lo hi none n).2.1=((HT.sIx n n hi:Nat):Int)/\(sliceBounds lo hi none n).2.2=1:=by
 refine⟨?_,?_,rfl⟩
 ·cases lo with
  | none=>simp[sliceBounds,HT.sIx]
  | some i=>
   simp only[sliceBounds,HT.sIx,Option.getD_none,show (1:Int) > 0 by decide,if_true]
   by_cases h:i < 0
   ·simp only[h,if_true] <;> omega
   ·simp only[h,if_false] <;> omega
 ·cases hi with
  | none=>simp[sliceBounds,HT.sIx]
  | some i=>
   simp only[sliceBounds,HT.sIx,Option.getD_none,show (1:Int) > 0 by decide,if_true]
   by_cases h:i < 0
   ·simp only[h,if_true] <;> omega
   ·simp only[h,if_false] <;> omega
theorem Qu (its:List Value) (lo hi:Option Int):slicePick its.toArray lo hi none=((its.drop (HT.sIx its.length 0 lo)).take (HT.sIx its.length its.length hi - HT.sIx its.length 0 lo)).toArray:=by
 obtain⟨h1,h2,h3⟩:=Ja lo hi its.toArray.size
 unfold slicePick
 rw[h1,h2,h3]
 simp only[sliceRange_one,pick_run,List.size_toArray] <;> rfl
def rSlL (K:PySem.W.Frag):V->Option Int->Option Int->Hp->VK->Prop:=fun x lo hi H Q=>∃ a xs,x=.ref a/\SqL K H a xs/\∀ p,H p=none->Q (.ref p) (upd H p (.lst (Qe xs lo hi)))
theorem sl_list:SlR X (rSlL X.K):=by
 intro pins s σ H x v vl vu lo hi sl Q I rx hs pl pu h
 obtain⟨a,xs,rfl,hx,q⟩:=h
 cases rx
 obtain⟨its,r,ht,hz⟩:=I.list hx
 have hlen:=r.length
 refine⟨"list",_,slot_list_getitem.lookup,ht.isList.typeIs,?_⟩
 refine wpAny_getItem_list_slice ht.isList hs pl pu .none (by simp) ?_ (by rw[List.size_toArray] <;> omega)
 rw[Qu,<- hlen]
 refine⟨.ref s.heap.objs.size,_,I.laid (t':=s.toks) (o:=.lst (Qe xs lo hi)) (fun b ob q=>AC _ q) (AG _) ?_,rfl,q _ (I.hok.fresh (AG _))⟩
 exact⟨Ab (ZA xs lo hi) hz,_,0,(r.drop (HT.sIx xs.length 0 lo)).take (HT.sIx xs.length xs.length hi - HT.sIx xs.length 0 lo),AM _ rfl⟩
def qK:V->Bool
 | .non=>true
 | .bl _=>true
 | .int _=>true
 | .str _=>true
 | _=>false
def eqV:V->V->Bool
 | .non,.non=>true
 | .bl a,.bl b=>a == b
 | .bl a,.int b=>(if a then 1 else 0) == b
 | .int a,.bl b=>a == (if b then 1 else 0)
 | .int a,.int b=>a == b
 | .str a,.str b=>a == b
 | _,_=>false
theorem eqAt_V {A:Around} {s:Shared} {y x:V} {u v:Value} (ry:RelV y u) (rx:RelV x v) (fy:qK y=true) (fx:qK x=true):SeqAt.EqAt A s u v (eqV y x):=by
 cases y with
 | non=>
  cases ry
  cases x with
  | non=>cases rx;exact SeqAt.EqAt.same _
  | bl b=>cases rx;exact SeqAt.EqAt.none_bool b
  | int b=>obtain⟨t,rfl⟩:=rx;exact SeqAt.EqAt.none_int b t
  | str b=>obtain⟨t,rfl⟩:=rx;exact SeqAt.EqAt.none_str b t
  | _=>exact absurd (show false=true from fx) AK
 | bl a=>
  cases ry
  cases x with
  | non=>cases rx;exact SeqAt.EqAt.bool_none a
  | bl b=>cases rx;exact SeqAt.EqAt.bool_bool a b
  | int b=>obtain⟨t,rfl⟩:=rx;exact SeqAt.EqAt.bool_int a b t
  | str b=>obtain⟨t,rfl⟩:=rx;exact SeqAt.EqAt.bool_str a b t
  | _=>exact absurd (show false=true from fx) AK
 | int a=>
  obtain⟨t',rfl⟩:=ry
  cases x with
  | non=>cases rx;exact SeqAt.EqAt.int_none a t'
  | bl b=>cases rx;exact SeqAt.EqAt.int_bool a t' b
  | int b=>obtain⟨t,rfl⟩:=rx;exact SeqAt.EqAt.int_int a t' b t
  | str b=>obtain⟨t,rfl⟩:=rx;exact SeqAt.EqAt.int_str a t' b t
  | _=>exact absurd (show false=true from fx) AK
 | str a=>
  obtain⟨t',rfl⟩:=ry
  cases x with
  | non=>cases rx;exact SeqAt.EqAt.str_none a t'
  | bl b=>cases rx;exact SeqAt.EqAt.str_bool a t' b
  | int b=>obtain⟨t,rfl⟩:=rx;exact SeqAt.EqAt.str_int a t' b t
  | str b=>obtain⟨t,rfl⟩:=rx;exact SeqAt.EqAt.str_str a t' b t
  | _=>exact absurd (show false=true from fx) AK
 | _=>exact absurd (show false=true from fy) AK
def eqU (x:V) (u:Value):Bool:=match u with
 | .none=>eqV .non x
 | .bool b=>eqV (.bl b) x
 | .int i _=>eqV (.int i) x
 | .str z _=>eqV (.str z) x
 | _=>false
theorem WX {x y:V} {u:Value} (r:RelV y u) (f:qK y=true):eqU x u=eqV y x:=by
 cases y with
 | non=>cases r;rfl
 | bl b=>cases r;rfl
 | int i=>obtain⟨t,rfl⟩:=r;rfl
 | str z=>obtain⟨t,rfl⟩:=r;rfl
 | _=>exact absurd (show false=true from f) AK
theorem JT {x:V}:∀ {xs:List V} {us:List Value},zR xs us->xs.all qK=true->us.any (eqU x)=xs.any fun y=>eqV y x
 | _,_,.nil,_=>rfl
 | y :: xs,u :: us,.cons r t,f=>by
  rw[Ba,Az] at f
  rw[BA,BA,WX r f.1,JT t f.2]
theorem Zk {A:Around} {s:Shared} {x:V} {v:Value} (rx:RelV x v) (fx:qK x=true):∀ {xs:List V} {us:List Value},zR xs us->xs.all qK=true->∀ u ∈ us,SeqAt.EqAt A s u v (eqU x u)
 | _,_,.nil,_=>fun u hu=>by cases hu
 | y :: xs,u :: us,.cons r t,f=>fun u' hu=>by
  rw[Ba,Az] at f
  rcases AZ.mp hu with rfl | hu
  ·rw[WX r f.1];exact eqAt_V r rx f.1 fx
  ·exact Zk rx fx t f.2 u' hu
def inV (x:V) (xs:List V):Bool:=xs.any fun y=>eqV y x
def rIn (K:PySem.W.Frag) (neg:Bool):R2:=fun x y H Q=>∃ p xs,y=.ref p/\(SqL K H p xs\/SqT K H p xs)/\qK x=true/\xs.all qK=true/\Q (.bl (if neg then !inV x xs else inV x xs)) H
theorem Jb:OpR X (compareOp .NotIn) (rIn X.K true):=by
 intro pins s σ H x y v u Q I rx ry h
 obtain⟨p,xs,rfl,hq,fx,fs,q⟩:=h
 cases ry
 rcases hq with hq | hq
 ·obtain⟨its,r,pl,hz⟩:=I.list hq
  refine SeqAt.notIn_listAt (eqU x) pl.isList (fun w hw=>Zk rx fx r fs w (by simpa using hw)) ⟨.bl _,H,I,rfl,?_⟩
  rw[show its.toArray.any (eqU x)=its.any (eqU x) by simp,JT r fs]
  exact q
 ·obtain⟨its,r,pl,hz⟩:=I.tuple hq
  refine SeqAt.notIn_tupleAt (eqU x) pl (fun w hw=>Zk rx fx r fs w (by simpa using hw)) ⟨.bl _,H,I,rfl,?_⟩
  rw[show its.toArray.any (eqU x)=its.any (eqU x) by simp,JT r fs]
  exact q
theorem Jc:qU X (.type "list") (fun xs H Q=>∃ p ys,xs=[.ref p]/\(SqL X.K H p ys\/SqT X.K H p ys)/\∀ l,H l=none->Q (.ref l) (upd H l (.lst ys))):=by
 intro pins s σ H xs us Q I r h
 obtain⟨p,ys,rfl,hq,q⟩:=h
 obtain⟨u,rfl,rx⟩:=vals1 r
 cases rx
 have fin:∀ (its:List Value),zR ys its->ys.length<=sizeLine->∀ (h':Heap) (c':Nat),(∀ b o',s.heap.get? b=some o'->h'.get? b=some o') ->
   h'.get? s.heap.objs.size=some { cls:=.type "list",dict:=none,data:=.seq its.toArray c',slots:=#[] }->EP X pins σ Q (.ref s.heap.objs.size) { s with heap:=h' }:=fun its r' hz h' c' kp e=>
  ⟨.ref s.heap.objs.size,_,I.laid (t':=s.toks) kp (AG _) (show zV X.prog X.w _ h' _ (.lst ys) from⟨hz,its,c',r',e⟩),rfl,q _ (I.hok.fresh (AG _))⟩
 rcases hq with hq | hq
 ·obtain⟨its,r',pl,hz⟩:=I.list hq
  have hlen:=r'.length
  obtain⟨o,ho,hc,n,hd⟩:=pl.isList
  exact call_list_seq p (.inl rfl) ho hc hd (fun h' c' kp e=>fin its r' hz h' c' kp e) (by simp only[List.size_toArray] <;> omega)
 ·obtain⟨its,r',pl,hz⟩:=I.tuple hq
  have hlen:=r'.length
  obtain⟨o,ho,hc,n,hd⟩:=pl
  exact call_list_seq p (.inr rfl) ho hc hd (fun h' c' kp e=>fin its r' hz h' c' kp e) (by simp only[List.size_toArray] <;> omega)
theorem Qv:qU X (.type "tuple") (fun xs H Q=>∃ p ys,xs=[.ref p]/\((SqL X.K H p ys/\∀ l,H l=none->Q (.ref l) (upd H l (.tup ys)))\/(SqT X.K H p ys/\Q (.ref p) H))):=by
 intro pins s σ H xs us Q I r h
 obtain⟨p,ys,rfl,h⟩:=h
 obtain⟨u,rfl,rx⟩:=vals1 r
 cases rx
 rcases h with ⟨hq,q⟩ | ⟨hq,q⟩
 ·obtain⟨its,r',pl,hz⟩:=I.list hq
  have hlen:=r'.length
  refine call_tuple_list pl.isList (fun h' kp=>?_) (by simp only[List.size_toArray] <;> omega)
  have I1:Inv X pins σ H { s with heap:=h' }:=I.kept (t':=s.toks) kp
  have I2:Inv X pins σ (upd H h'.objs.size (.tup ys)) { s with heap:=h'.push { cls:=.type "tuple",data:=.seq its.toArray } }:=
   I1.laid (t':=s.toks) (fun b o e=>AC _ e) (AG _) (show zV X.prog X.w _ _ _ (.tup ys) from⟨hz,its,r',PTup.new _ _⟩)
  exact⟨.ref h'.objs.size,_,I2,rfl,q _ (I1.hok.fresh (AG _))⟩
 ·obtain⟨its,r',pl,hz⟩:=I.tuple hq
  exact call_tuple_same pl ⟨.ref p,H,I,rfl,q⟩
def tyV (K:PySem.W.Frag) (T:String) (x:V) (H:Hp):Prop:=match x with
 | .str _=>T = "str"
 | .int _=>T = "int"
 | .ref p=>(T = "list" /\ ∃ xs,SqL K H p xs)\/(T = "tuple" /\ ∃ o,K.lookup p=some o/\o.cls=.type "tuple" /\ o.dict=none) \/
   (T = "dict" /\ ((∃ kvs,H p=some (.dK kvs))\/∃ kvs,H p=some (.dT kvs)))\/(T = "set" /\ ∃ S n,H p=some (.set S n))\/(T = "tuple" /\ ∃ xs,H p=some (.tup xs))
 | _=>False
theorem tyV_is {pins:List (Addr×Obj)} {σ:St} {H:Hp} {s:Shared} {T:String} {x:V} {v:Value} (I:Inv X pins σ H s) (r:RelV x v) (ty:tyV X.K T x H) :
  s.TypeIs v T/\∀ a,v=.ref a->∃ ob,s.heap.get? a=some ob/\ob.dict=none:=by
 cases x with
 | str z=>
  obtain⟨t,rfl⟩:=r
  cases (show T = "str" from ty)
  exact⟨typeIs_str s z t,fun _ e=>nomatch e⟩
 | int i=>
  obtain⟨t,rfl⟩:=r
  cases (show T = "int" from ty)
  exact⟨typeIs_int s i t,fun _ e=>nomatch e⟩
 | ref p=>
  cases r
  rcases ty with ⟨rfl,xs,hq⟩ | ⟨rfl,o,hk,hc,hd⟩ | ⟨rfl,hk⟩ | ⟨rfl,S,n,hk⟩ | ⟨rfl,xs,hk⟩
  rotate_left 4
  ·obtain⟨_,its,_,o,e,c,_,hd⟩:=I.hok p _ hk
   exact⟨⟨o,e,c⟩,fun a e2=>by cases e2;exact⟨o,e,hd⟩⟩
  ·obtain⟨its,_,pl,_⟩:=I.list hq
   refine⟨pl.isList.typeIs,fun a e=>?_⟩
   cases e
   obtain⟨o,n,e,c,hd,_⟩:=pl
   exact⟨o,e,hd⟩
  ·refine⟨⟨o,I.kIn p o hk,hc⟩,fun a e=>?_⟩
   cases e
   exact⟨o,I.kIn _ o hk,hd⟩
  ·have z:∃ o,s.heap.get? p=some o/\o.ExactDict:=by
    rcases hk with ⟨kvs,hk⟩ | ⟨kvs,hk⟩
    ·obtain⟨_,_,_,_,o,_,_,e,ex,_⟩:=I.hok p _ hk
     exact⟨o,e,ex⟩
    ·obtain⟨_,_,_,_,o,_,_,e,ex,_⟩:=I.hok p _ hk
     exact⟨o,e,ex⟩
   obtain⟨o,e,ex⟩:=z
   refine⟨⟨o,e,ex.1⟩,fun a e2=>?_⟩
   cases e2
   exact⟨o,e,ex.2.1⟩
  ·obtain⟨o,_,_,_,e,ex,_⟩:=I.hok p _ hk
   refine⟨⟨o,e,ex.1⟩,fun a e2=>?_⟩
   cases e2
   exact⟨o,e,ex.2.1⟩
 | _=>exact False.elim ty
def tBM0 (K:PySem.W.Frag) (T:String) (r:V->List V->Hp->VK->Prop) (to:TE):TE:=fun σ H Q=>to σ H fun x H1=>tyV K T x H1/\r x [] H1 Q
def tBM (K:PySem.W.Frag) (T:String) (r:V->List V->Hp->VK->Prop) (to:TE) (t:TA):TE:=fun σ H Q=>to σ H fun x H1=>tyV K T x H1/\t σ H1 fun xs H2=>r x xs H2 Q
variable {o e : Expr} {es : List Expr} {to : TE} {t : TA} {name : Str} {apos cpos : Pos} {T id : String} {r : V -> List V -> Hp -> VK -> Prop}
theorem pe_bm0 (pa:PlainAttrs T) (slot:Slot T name id) (hty:typeOf (.builtin id)=pure (.type "method_descriptor")) (hm:MtR X id r) (ho:PE X o to)
  (hbase:attributeBase o name X.env (eval o X.env)=eval o X.env:=by rfl) (hline:(apos.endLine == cpos.line)=true:=by rfl):PE X (.Call (.Attribute o name apos) [] [] cpos) (tBM0 X.K T r to):=by
 intro pins s σ H Q I h
 refine wpAny_Call_method0_late hbase hline (thn (ho pins s σ H _ I h) fun v s1 ⟨x,H1,I1,r1,ty,q1⟩=>?_)
 obtain⟨h1,h2⟩:=tyV_is I1 r1 ty
 exact⟨T,id,pa,slot,hty,h1,h2,Bm rfl (PySem.evalArgs_none (hm pins s1 σ H1 x [] v [] Q I1 r1 .nil q1))⟩
theorem pe_bm (pa:PlainAttrs T) (slot:Slot T name id) (hty:typeOf (.builtin id)=pure (.type "method_descriptor")) (hm:MtR X id r) (ho:PE X o to) (ha:PA X (e :: es) t)
  (hbase:attributeBase o name X.env (eval o X.env)=eval o X.env:=by rfl)
  (hfew:((backTo cpos (starEach (e :: es) X.env)).all (fun x=>!x.1) && (backToKw cpos (keywordEach [] X.env)).all (fun x=>x.1.isSome)
   && decide ((e :: es).length+([]:List Keyword).length+(if ([]:List Keyword).isEmpty then 0 else 1) < 30))=true:=by rfl)
  (hline:(apos.endLine == cpos.line)=true:=by rfl) (hs:starEach (e :: es) X.env=(false,eval e X.env) :: starEach es X.env:=by rfl) (hplain:(backTo cpos (starEach es X.env)).any (·.1)=false:=by rfl) :
  PE X (.Call (.Attribute o name apos) (e :: es) [] cpos) (tBM X.K T r to t):=by
 intro pins s σ H Q I h
 refine wpAny_Call_method_late hbase hfew hline rfl (thn (ho pins s σ H _ I h) fun v s1 ⟨x,H1,I1,r1,ty,q1⟩=>?_)
 obtain⟨h1,h2⟩:=tyV_is I1 r1 ty
 refine⟨T,id,pa,slot,hty,h1,h2,?_⟩
 have hA:=ha cpos pins s1 σ H1 _ I1 q1
 rw[hs] at hA ⊢
 refine Bm (by show (false || (backTo cpos (starEach es X.env)).any (·.1))=false;rw[hplain] <;> rfl) (Bx ?_)
 exact thn hA fun us s2 ⟨vs,H2,I2,r2,q2⟩=>hm pins s2 σ H2 x vs v us Q I2 r1 r2 q2
/- xs.append(e),list.index on a module's tuple .. are MtR facts of 06m -/
end
def MtM (X:Cx) (id:String) (r:V->List V->Hp->VK->Prop):Prop:=
 ∀ (pins:List (Addr×Obj)) (s:Shared) (σ:St) (H:Hp) (x:V) (xs:List V) (v:Value) (us:List Value) (Q:VK),Inv X pins σ H s->RelV x v->zR xs us->r x xs H Q ->
  wpAny (model X.prog X.w) X.A (call (.builtin id) (v :: us)) (EP X pins σ Q) X.xe s
theorem zR.one:∀ {x:V} {us:List Value},zR [x] us->∃ u,us=[u]/\RelV x u
 | _,_,.cons r .nil=>⟨_,rfl,r⟩
theorem zR.zero:∀ {us:List Value},zR [] us->us=[]
 | _,.nil=>rfl
theorem zR.dropLast {xs:List V} {us:List Value} (h:zR xs us):zR xs.dropLast us.dropLast:=by
 induction h with
 | nil=>exact .nil
 | cons r t ih=>
  cases t with
  | nil=>exact .nil
  | cons q t'=>exact .cons r ih
theorem zR.rep {xs:List V} {us:List Value} (h:zR xs us):∀ k:Nat,zR (List.replicate k xs).flatten (List.replicate k us).flatten
 | 0=>.nil
 | k+1=>by
  rw[A8,A8,Bg,Bg]
  exact zR.append h (zR.rep h k)
theorem Wf {α:Type} (l:List α):l.eraseIdx (l.length - 1)=l.dropLast:=by
 induction l with
 | nil=>rfl
 | cons a r ih=>
  cases r with
  | nil=>rfl
  | cons b r=>
   have e:(a :: b :: r).length - 1=((b :: r).length - 1)+1:=by
    have h1:(a :: b :: r).length=r.length+2:=rfl
    have h2:(b :: r).length=r.length+1:=rfl
    omega
   rw[e,List.eraseIdx_cons_succ,ih]
   all_goals rfl
theorem Jd (its:List Value):∀ (k:Nat) (acc:List Value),
  List.foldl (fun x1 x2=>x1++x2) acc.toArray (List.replicate k its.toArray)=(acc++(List.replicate k its).flatten).toArray
 | 0,acc=>by simp
 | k+1,acc=>by
  have e:acc.toArray++its.toArray=(acc++its).toArray:=by simp
  have e2:(acc++its)++(List.replicate k its).flatten=acc++(List.replicate (k+1) its).flatten:=by
   rw[A8,Bg,List.append_assoc]
  rw[<- e2,<- Jd its k (acc++its),<- e,A8,List.foldl_cons]
section
variable {X : Cx} {pins : List (Addr × Obj)} {σ : St} {H : Hp} {s : Shared} {l b : Addr} {xs ys zs : List V}
theorem Inv.lset {its its':List Value} {n:Nat} {f:Array Value->Array Value} {t':Nat} (I:Inv X pins σ H s) (hH:H l=some (.lst xs))
  (e:s.heap.get? l=some { cls:=.type "list",data:=.seq its.toArray n }) (hf:f its.toArray=its'.toArray) (hv:zR ys its') (hz:ys.length<=sizeLine) :
  Inv X pins σ (upd H l (.lst ys)) { s with heap:=s.heap.update l (Obj.mapSeq f),toks:=t' }:=by
 have q:=PySem.IsL.update e f
 rw[hf] at q
 refine I.write (x:=l) (e:=l) (by rw[hH];exact trivial) (.inl rfl) (fun b' u hb hu=>(BD s.heap (Obj.mapSeq f) (A3 hb)).trans hu) ⟨_,q⟩ ?_
 exact⟨hz,its',_,hv,q⟩
theorem Inv.lnew {its:List Value} {t':Nat} (I:Inv X pins σ H s) (hv:zR ys its) (hz:ys.length<=sizeLine) :
  Inv X pins σ (upd H s.heap.objs.size (.lst ys)) { s with heap:=s.heap.push { cls:=.type "list",data:=.seq its.toArray },toks:=t' }:=
 I.laid (fun _ _ q=>AC _ q) (AG _) ⟨hz,its,0,hv,AM _ rfl⟩
theorem Inv.fresh (I:Inv X pins σ H s):H s.heap.objs.size=none:=I.hok.fresh (AG _)
theorem Inv.lstM (I:Inv X pins σ H s) (hH:H l=some (.lst xs)):xs.length<=sizeLine/\∃ (its:List Value) (n:Nat),zR xs its/\xs.length=its.length/\s.heap.get? l=some { cls:=.type "list",data:=.seq its.toArray n }:=by
 obtain⟨z,its,n,r,e⟩:=I.hok l _ hH
 exact⟨z,its,n,r,r.length,e⟩
theorem notLongL {n:Nat} (h:n<=sizeLine):Builtin.List.listTooLong n=false:=by
 unfold Builtin.List.listTooLong
 exact AQ (by omega)
end
section
variable {X : Cx}
def rAppend:V->List V->Hp->VK->Prop:=fun x vs H Q=>∃ l xs y,x=.ref l/\vs=[y]/\H l=some (.lst xs)/\xs.length < sizeLine/\Q .non (upd H l (.lst (xs++[y])))
theorem jn:MtM X "list.append" rAppend:=by
 intro pins s σ H x vs v us Q I rx rv h
 obtain⟨l,xs,y,rfl,rfl,hH,hz,q⟩:=h
 cases rx
 obtain⟨u,rfl,ru⟩:=rv.one
 obtain⟨z,its,n,r,hl,e⟩:=I.lstM hH
 refine CW F.slot_list_append ⟨_,e,rfl⟩ F.entry_list_append (F.args_list_append_2 _ _) (PySem.list_append l its.toArray n u (by rw[AY];omega)) ⟨e,?_⟩
 refine⟨.non,_,I.lset (its':=its++[u]) hH e (by simp) (r.append (.cons ru .nil)) ?_,rfl,q⟩
 rw[AR,List.length_singleton]
 omega
def rExtend:V->List V->Hp->VK->Prop:=fun x vs H Q=>∃ l b xs zs,x=.ref l/\vs=[.ref b]/\H l=some (.lst xs)/\H b=some (.lst zs)/\xs.length+zs.length<=sizeLine/\Q .non (upd H l (.lst (xs++zs)))
theorem Je:MtM X "list.extend" rExtend:=by
 intro pins s σ H x vs v us Q I rx rv h
 obtain⟨l,b,xs,zs,rfl,rfl,hH,hB,hz,q⟩:=h
 cases rx
 obtain⟨u,rfl,ru⟩:=rv.one
 cases ru
 obtain⟨z,its,n,r,hl,e⟩:=I.lstM hH
 obtain⟨z2,its2,n2,r2,hl2,e2⟩:=I.lstM hB
 have hsz:its.toArray.size+its2.toArray.size<=sizeLine:=by rw[AY,AY];omega
 have hlong:¬ (!its.toArray.isEmpty && Builtin.List.listTooLong (its.toArray.size+its2.toArray.size))=true:=by
  rw[notLongL hsz,Bool.and_false]
  exact AK
 refine CW F.slot_list_extend ⟨_,e,rfl⟩ F.entry_list_extend (F.args_list_extend_2 _ _)
  (AutoSeq1.list_extend_list_list_0 l its.toArray n b its2.toArray n2 hlong (by rw[AY];omega) (by omega)) ⟨e,e2,?_⟩
 refine⟨.non,_,I.lset (its':=its++its2) hH e (by simp) (r.append r2) ?_,rfl,q⟩
 rw[AR]
 omega
def rPop:V->List V->Hp->VK->Prop:=fun x vs H Q=>∃ l xs y,x=.ref l/\vs=[]/\H l=some (.lst xs)/\xs[xs.length - 1]? = some y/\Q y (upd H l (.lst xs.dropLast))
theorem mt_pop:MtM X "list.pop" rPop:=by
 intro pins s σ H x vs v us Q I rx rv h
 obtain⟨l,xs,y,rfl,rfl,hH,hy,q⟩:=h
 cases rx
 have hus:=rv.zero
 subst hus
 obtain⟨z,its,n,r,hl,e⟩:=I.lstM hH
 obtain⟨u,hu,ru⟩:=r.get hy
 have hy':its.toArray[its.toArray.size - 1]? = some u:=by
  show its.toArray[its.length - 1]? = some u
  rw[<- Array.getElem?_toList,<- hl]
  exact hu
 refine CW F.slot_list_pop ⟨_,e,rfl⟩ F.entry_list_pop (F.args_list_pop_1 _) (MeetsSeq.list_pop_last l its.toArray n u hy' (by rw[AY];omega)) ⟨e,?_⟩
 refine⟨y,_,I.lset (its':=its.dropLast) hH e ?_ r.dropLast ?_,ru,q⟩
 ·show its.toArray.eraseIdxIfInBounds (its.toArray.size - 1)=its.dropLast.toArray
  rw[AY,List.eraseIdxIfInBounds_toArray,Wf]
 ·rw[List.length_dropLast]
  omega
def rCat:R2:=fun x y H Q=>∃ l b xs zs,x=.ref l/\y=.ref b/\H l=some (.lst xs)/\H b=some (.lst zs)/\xs.length+zs.length<=sizeLine/\∀ p,H p=none->Q (.ref p) (upd H p (.lst (xs++zs)))
theorem ZB:OpR X (binaryOp .Add) rCat:=by
 intro pins s σ H x y v u Q I rx ry h
 obtain⟨l,b,xs,zs,rfl,rfl,hH,hB,hz,q⟩:=h
 cases rx
 cases ry
 obtain⟨z,its,n,r,hl,e⟩:=I.lstM hH
 obtain⟨z2,its2,n2,r2,hl2,e2⟩:=I.lstM hB
 refine PySem.P.add_list e e2 ?_ (by rw[AY,AY];omega)
 have ea:its.toArray++its2.toArray=(its++its2).toArray:=by simp
 rw[ea]
 exact⟨.ref _,_,I.lnew (t':=s.toks) (r.append r2) (by rw[AR];omega),rfl,q _ I.fresh⟩
theorem len_rep {α:Type} (xs:List α) (k:Nat):(List.replicate k xs).flatten.length=k * xs.length:=by
 induction k with
 | zero=>simp
 | succ k ih=>rw[A8,Bg,AR,ih,Nat.succ_mul,Nat.add_comm]
end
section
variable {prog : Program} {w : World} {A : Around} {E : Value -> Shared -> Prop} {s : Shared}
set_option maxRecDepth 100000 in
end
section
variable {X : Cx}
end
end L2
namespace Att
open PySem PySem.W PySem.Calls PyProof.Rows
theorem ints_of_wellAll {P:Params} {h:Heap}:∀ (ns:List Int) (vs:List Value),WellAll P h vs (ns.map WData.int)->IntsAre vs ns:=by
 intro ns
 induction ns with
 | nil=>
  intro vs w
  rw[Cf] at w
  cases w
  exact .nil
 | cons n ns ih=>
  intro vs w
  rw[Ag] at w
  cases w with
  | cons a b=>
   cases a
   exact .cons _ _ (ih _ b)
theorem script_of {l:OpenLaw} {n:Nat} (hn:l.most=some n) {P:Params} {h:Heap} {args:List WData} {vals:List Value}
  (hpre:l.row.toRowW.claim.pre args=true) (hwl:WellAll P h vals args) :
  ∃ a vs ns,vals=[Value.ref a]/\args=[WData.list (ns.map WData.int)]/\h.get? a=some { cls:=.type "list",data:=.seq vs.toArray }/\IntsAre vs ns/\ns.length<=n:=by
 have hsh:WShape.hasAll [] args [.list .int]=true:=(pre_splitW hpre).1
 have hc:l.pre.holds [] { args:=args } = true:=(pre_splitW hpre).2
 obtain⟨d,r,rfl,h1,h2⟩:=hasAllW_cons hsh
 obtain rfl:=hasAllW_nil h2
 obtain⟨xs,rfl,h3⟩:=hasW_list h1
 obtain⟨ns,rfl⟩:=items_int h3
 have hlen:ns.length<=n:=by
  unfold OpenLaw.pre at hc
  have h4:(WTm.not (.lt (.lit (.int (n:Int))) (.len (.arg 0)))).holds [] { args:=[.list (ns.map .int)] } = true:=by
   have h4:=(holds_andW hc).1
   rw[hn] at h4
   exact h4
  have h5:=condW_of h4 (w_not (w_lt w_lit (w_len_list (w_arg rfl))))
  rw[AF] at h5
  refine Nat.le_of_not_lt fun q=>?_
  have q':(n:Int) < ((ns.length:Nat):Int):=by omega
  first
   | (rw[AS q'] at h5;exact absurd h5 (by decide))
   | (simp at h5;omega)
 cases hwl with
 | cons w1 w2=>
  cases w2
  cases w1 with
  | list ho hall=>exact⟨_,_,ns,rfl,rfl,ho,ints_of_wellAll ns _ hall,hlen⟩
theorem post_true (l:OpenLaw) (args:List WData):l.row.toRowW.claim.post args (.bool true) args=true:=
 postW_of (r:=l.row.toRowW) (X:=(true == true))
  (show WShape.has [] (.bool true) .bool=true by first | rfl | decide | simp[WShape.has,WShape.arms,WShape.armsAll])
  (show (WTm.eq .res (.lit (.bool true))).value [] { args:=args,res:=some (.bool true),after:=args } = some (.bool (true == true)) from w_eq_bool (w_res rfl) w_lit) rfl
theorem attach_call {l:OpenLaw} {n:Nat} {q:Program} {loose:List Str} {XP:(Str->Option Value)->Heap->Prop} {YP:World->Heap->Prop} {d:DefRec}
  (hn:l.most=some n) (hdf:d.params.defaults=[])
  (call:∀ (w:World) (s₀ s₁:Shared) (mg mb:Str->Option Value) (fa:Addr) (o:Obj) (pm cd doc:Value) (a:Addr) (vs:List Value) (ns:List Int),
   Ground q loose [] XP w s₀ mg mb s₁.heap->YP w s₁.heap ->
   s₁.heap.get? fa=some o->o.data=.func (docDef d.name d.params d.body d.scope pm cd doc)->s₁.heap.CodeRec cd d.name->mg d.name=some (.ref fa) ->
   s₁.heap.get? a=some { cls:=.type "list",data:=.seq vs.toArray }->IntsAre vs ns->ns.length<=n->s₁.gens = #[] ->
   codeAny (model l.prog w) callerA (.call (.ref fa) ⟨[.ref a],[]⟩) (fun r s'=>r=.ok (.ret (.bool true))/\OldK s₁.heap s'.heap/\s'.os=s₁.os/\AllBare s'.gens) s₁) :
  WalkO q loose XP YP l.row.toRowW d [] (fun f vs=>PySem.call f vs):=by
 intro w s₀ s₁ mg mb G Y fa o pm cd doc dV kV ho hd hcd hD hmg hg args vals as hpre hlay hrd hwl hlo
 obtain rfl:dV=.none:=Dflts.none hD hdf
 obtain rfl:kV=.none:=Dflts.noKw hD
 obtain⟨a,vs,ns,rfl,rfl,hobj,hints,hlen⟩:=script_of hn hpre hwl
 refine enter_call (B3 (call w s₀ s₁ mg mb fa o pm cd doc a vs ns G Y ho (fd_plain hd) hcd hmg hobj hints hlen hg) fun r s' hq=>?_)
 obtain⟨rfl,h2,h3,h4⟩:=hq
 exact⟨.inl ⟨.bool true,.bool true,[],rfl,fun _=>rfl,.bool true,post_true l _,fun _=>⟨List.Pairwise.nil,fun _ hm=>(nomatch hm)⟩⟩,h2,h3,h4⟩
section
variable {prog : Program} {w : World} {A : Around} {E : Value -> Shared -> Prop} {s : Shared} {K : Frag}
end
end Att
namespace L2
open PySem PySem.Spec PyProof.Rows
theorem Jf:∀ {vs:List Value} {ns:List Int},IntsAre vs ns->zR (ns.map V.int) vs
 | _,_,.nil=>.nil
 | _,_,.cons n t h=>.cons ⟨t,rfl⟩ (Jf h)
def Only (H:Hp):Prop:=∀ b,H b=none\/∃ o xs,H b=some (.frz o (.lst xs))
theorem law_call {P:Program} {w:World} {K:PySem.W.Frag} {mg mb:Str->Option Value} {CX:CXT} {k:Nat} {fa a:Addr} {fd:FuncData} {x:Str} {sp:Sp} {s₁:Shared} {vs:List Value} {ns:List Int}
  (KX:K.In s₁.heap) (hns:s₁.heap.Ns mainGlobals mg) (hb:s₁.heap.Ns builtinsNs mb) (hbb:∀ x:Str,x ≠ "__name__" -> mb x=bootBuiltins x) (hlim:s₁.heap.NoLimit) (hg:s₁.gens = #[])
  (ha:s₁.heap.get? a=some { cls:=.type "list",data:=.seq vs.toArray }) (hi:IntsAre vs ns) (hl:ns.length<=sizeLine) (hr:jk k callerA)
  (F:∀ base:Heap,K.In base->base.Ns mainGlobals mg->qA P w K mg base CX k fa fd [x] sp) (hbind:∀ (s:Shared) (u:Value),BindsTo s fd ⟨[u],[]⟩ [(x,u)])
  (hsp:∀ H:Hp,Only H->SqL K H a (ns.map V.int)->sp [.ref a] H (fun v _=>v=.bl true) fun _ _ _=>False)
  (hCX:∀ H e s',CX [] H s₁ (fun _ _ _=>False) e s'->False) :
  codeAny (model P w) callerA (.call (.ref fa) ⟨[.ref a],[]⟩) (fun r s'=>r=.ok (.ret (.bool true))/\OldK s₁.heap s'.heap/\s'.os=s₁.os/\AllBare s'.gens) s₁:=by
 have rv:=Jf hi
 have lenV:=hi.length
 -- from an abstract heap in which nothing but the script may be tracked
 have core:∀ H:Hp,Only H->SqL K H a (ns.map V.int)->HOk P w H s₁.heap->(∀ b,H b ≠ none->b=a)->(H a ≠ none->K.lookup a=none) ->
   codeAny (model P w) callerA (.call (.ref fa) ⟨[.ref a],[]⟩) (fun r s'=>r=.ok (.ret (.bool true))/\OldK s₁.heap s'.heap/\s'.os=s₁.os/\AllBare s'.gens) s₁:=by
  intro H hO hS hok hA hK
  have base_of:∀ {b:Addr} {o:Obj},s₁.heap.get? b=some o->H b=none->(hidT s₁.heap H).get? b=some o:=fun e n=>hidT_get e n
  have noA:∀ {b:Addr} {o:Obj} {es:Array DictEntry} {ep:Nat},s₁.heap.get? b=some o->o.data=.dict es ep->H b=none:=fun {b o es ep} e d=>by
   cases q:H b with
   | none=>rfl
   | some u=>
    have e':b=a:=hA b (by rw[q];simp)
    subst e'
    rw[ha] at e;cases e
    have d':Data.seq vs.toArray _=Data.dict es ep:=d
    cases d'
  have nsK:∀ {b:Addr} {m:Str->Option Value},s₁.heap.Ns b m->(hidT s₁.heap H).Ns b m:=fun {b m} ⟨o,es,ep,e,d,r⟩=>⟨o,es,ep,base_of e (noA e d),d,r⟩
  have hKb:K.In (hidT s₁.heap H):=fun b o e=>base_of (KX b o e) (by
   cases q:H b with
   | none=>rfl
   | some u=>
    have e':b=a:=hA b (by rw[q];simp)
    subst e'
    rw[hK (by rw[q];simp)] at e;cases e)
  have hM:Mod K mg (hidT s₁.heap H):=⟨hKb,nsK hns,⟨mb,nsK hb,hbb⟩,let ⟨mc,h1,h2⟩:=hlim;⟨mc,nsK h1,h2⟩⟩
  have e0:Env0 P w K mg (hidT s₁.heap H) callerA [] s₁ H:=⟨rfl,hM,fun b o e=>of_hidT e,Nat.le_of_eq (WF _ _),trivial,fun b hb=>absurd (show b ∈ ([]:List Addr) from hb) (by simp),hok,.of_eq hg⟩
  refine B3 ((F _ hKb (nsK hns)).run callerA [] s₁ H ⟨[.ref a],[]⟩ [.ref a] [.ref a] _ _ hr e0 (hbind s₁ (.ref a)) (.cons rfl .nil) (hsp H hO hS)) fun r s' h=>?_
  cases r with
  | error e=>exact (hCX H e s' h).elim
  | ok fl=>
   cases fl with
   | next=>exact False.elim h
   | brk=>exact False.elim h
   | cont=>exact False.elim h
   | ret u=>
    obtain⟨v,H',os,bare,un,hok',r',q⟩:=h
    have q':v=.bl true:=q
    subst q'
    obtain rfl:u=Value.bool true:=r'
    refine⟨rfl,OldK.of_keep fun b o e=>?_,os,bare⟩
    cases q:H b with
    | none=>exact un.keep b o e q (by intro z;exact absurd (show b ∈ ([]:List Addr) from z) (by simp)) (by simp)
    | some u=>
     rcases hO b with z | ⟨ob,xs,z⟩
     ·rw[q] at z;cases z
     ·have z2:=un.frzs b ob _ z
      obtain⟨e1,_⟩:=hok b _ z
      obtain⟨e2,_⟩:=hok' b _ z2
      rw[e] at e1;cases e1
      exact e2
 cases hk:K.lookup a with
 | some o=>
  -- the script is one of the module's own objects
  have e:=KX a o hk
  rw[ha] at e
  cases e
  refine core (fun _=>none) (fun _=>.inl rfl) (.inr ⟨_,vs.toArray,_,hk,rfl,rfl,rfl,by rw[AY,lenV];exact hl,by simpa using rv⟩) (fun b u z=>by have z':(none:Option HO)=some u:=z;cases z') (fun b z=>absurd rfl z) fun z=>absurd rfl z
 | none=>
  refine core (fun b=>if b=a then some (.frz { cls:=.type "list",data:=.seq vs.toArray } (.lst (ns.map V.int))) else none) (fun b=>?_) (.inl (.inr ⟨{ cls:=.type "list",data:=.seq vs.toArray },if_pos rfl⟩)) (fun b u z=>?_) (fun b z=>?_) fun _=>hk
  ·by_cases hb:b=a
   ·exact .inr ⟨_,_,if_pos hb⟩
   ·exact .inl (if_neg hb)
  ·by_cases hb:b=a
   ·have z':=(if_pos hb).symm.trans z
    cases z'
    subst hb
    exact⟨ha,by rw[AF];exact hl,vs,_,rv,ha⟩
   ·have z':=(if_neg hb).symm.trans z
    cases z'
  ·by_cases hb:b=a
   ·exact hb
   ·exact absurd (if_neg hb) z
theorem WY {l:PySem.W.OpenLaw} {n k:Nat} {q:Program} {loose:List Str} {XP:(Str->Option Value)->Heap->Prop} {YP:World->Heap->Prop} {d:DefRec} {K:Params->PySem.W.Frag} {CX:World->CXT} {sp:World->Sp} {x:Str}
  (hn:l.most=some n) (hn2:n<=sizeLine) (hdf:d.params.defaults=[]) (hr:jk k callerA)
  (hY:∀ (w:World) (h:Heap),YP w h->(K w.params).In h)
  (F:∀ (w:World) (mg:Str->Option Value) (fa:Addr) (h:Heap),(K w.params).In h->h.Ns mainGlobals mg->mg d.name=some (.ref fa) ->
   ∃ fd:FuncData,(∀ (s:Shared) (u:Value),BindsTo s fd ⟨[u],[]⟩ [(x,u)]) /\
    ∀ base:Heap,(K w.params).In base->base.Ns mainGlobals mg->qA l.prog w (K w.params) mg base (CX w) k fa fd [x] (sp w))
  (hsp:∀ (w:World) (H:Hp) (a:Addr) (ns:List Int),ns.length<=n->Only H->SqL (K w.params) H a (ns.map V.int)->sp w [.ref a] H (fun v _=>v=.bl true) fun _ _ _=>False)
  (hCX:∀ (w:World) (H:Hp) (s:Shared) (e:Value) (s':Shared),CX w [] H s (fun _ _ _=>False) e s'->False) :
  PySem.W.WalkO q loose XP YP l.row.toRowW d [] (fun f vs=>PySem.call f vs):=by
 refine Att.attach_call hn hdf fun w s₀ s₁ mg mb fa o pm cd doc a vs ns G Y ho hd hcd hmg hobj hints hlen hg=>?_
 have KX:=hY w _ Y
 obtain⟨fd,hb,hF⟩:=F w mg fa _ KX G.T.g hmg
 exact law_call KX G.T.g G.T.b G.T.builtins G.T.nolimit hg hobj hints (Ab hlen hn2) hr hF hb (fun H hO hS=>hsp w H a ns hlen hO hS) fun H e s'=>hCX w H s₁ e s'
end L2
/- THE LAST THEOREM (shape; LID, My.* are yours):
   My.Adr: a structure of the addresses that your layer names (classes, functions); My.Txt K t: a structure (Prop) of the equations over K;
   My.txt_mk : {K} {implicit addresses ..} (e1 : nsIn K mainGlobals "law" = some (some (.ref f))) (e2 : K.lookup f = some ⟨oc, od, .func (fnOf "law" "law" params body scope dV kV doc pm an cdv ct), sl⟩) (e3 : codeIn K cdv "law" = true) .. : ∃ t, My.Txt K t
set_option maxRecDepth 100000 in
set_option maxHeartbeats 0 in
theorem PySem.Challenge.cw_LID_holds : PySem.Challenge.rw_LID.Holds := by
 w_on;o_law;k_head;(case hw=>w_witness2)
 k_fill
 refine L2.WY (l:=PySem.Challenge.rw_LID) (n:=63) (k:=40) (x := "script") (CX:=fun w=>..) (sp:=fun _=>My.sp_law) rfl (by decide) rfl ⟨rfl,by decide,by decide⟩ (fun w h Y=>PySem.W.kIn_of Y) ?F ?S ?C
 case F=>
  intro w mg fa h KX G hmg
  have T:∃ t,My.Txt (L2.KOf KX) t:=by
   dsimp only[L2.KOf]                          -- K must stand as «<heap const> w.params» for k_is
   refine' My.txt_mk ?e1 ?e2 ?e3 ..
   (case e1=>PySem.W.k_is)                    -- in the order: a name->its address->its object->its parts
   (case e2=>PySem.W.k_is)
   ..
  obtain⟨t,T⟩:=T
  have e0:=hmg.symm.trans (Ad KX G T.law)
  cases e0                                       -- fa is the law's own address
  exact⟨_,fun s u=>.of_eq rfl,fun base kb nb=>My.law_fn T kb nb⟩     -- if «.of_eq rfl» comes too early: refine' ⟨_,?b,fun base kb nb=>My.law_fn T kb nb⟩;exact fun s u=>.of_eq rfl
 case S=>exact fun w H a ns hl hO hS=>..
 case C=>exact ..
(the tactic k_is has no namespace: write k_is) -/
namespace L2
open PySem PySem.Spec PyProof.Rows
def qR (s:Stmt):Arguments:=match s with
 | .FunctionDef _ a _ _ _ _ _ _ _ _=>a
 | _=>{ posonlyargs:=[],args:=[],vararg:=none,kwonlyargs:=[],kw_defaults:=[],kwarg:=none,defaults:=[] }
def qt (s:Stmt):List Stmt:=match s with
 | .FunctionDef _ _ b _ _ _ _ _ _ _=>b
 | _=>[]
def zi (s:Stmt):Scope:=match s with
 | .FunctionDef _ _ _ _ _ _ sc _ _ _=>sc
 | _=>{ kind:=.function,names:=[],isGenerator:=false,isCoroutine:=false }
abbrev CX0:CXT:=fun _ _ _ _ _ _=>False
abbrev E0:XK:=fun _ _ _=>False
theorem pass0 {X:Cx}:Q5 CX0 X E0:=fun _ _ _ _ _ _ _ h=>h.elim
structure Fun (K:PySem.W.Frag) (x qual:Str) (st:Stmt) (f:Addr) (fd:FuncData):Prop where
 ex:∃ (oc:Value) (od:Option Addr) (kV doc pm:Value) (an:Option Addr) (cdv ct:Value) (osl:Array (Option Value)),
  fd=PySem.W.fnOf x qual (qR st) (qt st) (zi st) .none kV doc pm an cdv ct/\K.lookup f=some ⟨oc,od,.func fd,osl⟩/\PySem.W.codeIn K cdv qual=true
 kp:PySem.W.keepIn K (.ref f)=true
section
variable {P : Program} {w : World} {K : PySem.W.Frag} {mg : Str -> Option Value} {base : Heap}
theorem Fun.ok {x qual:Str} {st:Stmt} {f:Addr} {fd:FuncData} {N ps:List Str} {k:Nat} {sp:Sp} (F:Fun K x qual st f fd) (S:zu N ps (zi st)) (len:∀ vs H Q E,sp vs H Q E->vs.length=ps.length)
  (hbody:∀ (cdv:Value) (A:Around) (outer:List Env) (s:Shared) (H:Hp) (vs:List V) (Q:VK) (E:XK),jk k (A.deeper (envOfC qual (zi st) s.heap.objs.size f cdv))->sp vs H Q E ->
   ∃ t,PSs (WC CX0 P w K mg base N qual (zi st) f cdv A outer s H E).nox (qt st) t/\t { nx:=fun _ H'=>Q .non H',rt:=Q } (start N vs) H):qA P w K mg base CX0 (k+1) f fd ps sp:=by
 obtain⟨oc,od,kV,doc,pm,an,cdv,ct,osl,rfl,lk,hcd⟩:=F.ex
 refine fn_of lk hcd S len fun A outer s H vs Q E hr hsp=>?_
 obtain⟨t,h,q⟩:=hbody cdv A outer s H vs Q E hr hsp
 exact⟨t,h.nox,q⟩
theorem Fun.binds {x qual:Str} {st:Stmt} {f:Addr} {fd:FuncData} {ps:List Str} (F:Fun K x qual st f fd)
  (h:∀ (kV doc pm:Value) (an:Option Addr) (cdv ct:Value) (us:List Value),us.length=ps.length->bindArgs (PySem.W.fnOf x qual (qR st) (qt st) (zi st) .none kV doc pm an cdv ct) ⟨us,[]⟩=pure (ps.zip us)):Binds K fd ps []:=by
 obtain⟨oc,od,kV,doc,pm,an,cdv,ct,osl,rfl,lk,hcd⟩:=F.ex
 exact .all (h kV doc pm an cdv ct)
theorem WZ {x qual:Str} {st:Stmt} {f:Addr} {oc:Value} {od an:Option Addr} {osl:Array (Option Value)} {kV doc pm cdv ct:Value} (l:K.lookup f=some ⟨oc,od,.func (PySem.W.fnOf x qual (qR st) (qt st) (zi st) .none kV doc pm an cdv ct),osl⟩)
  (c:PySem.W.codeIn K cdv qual=true) (k:PySem.W.keepIn K (.ref f)=true):Fun K x qual st f (PySem.W.fnOf x qual (qR st) (qt st) (zi st) .none kV doc pm an cdv ct):=⟨⟨oc,od,kV,doc,pm,an,cdv,ct,osl,rfl,l,c⟩,k⟩
end
theorem hu_of {A:Around} {k:Nat} (hr:jk k A):A.units+1 < cLine:=Bu (Nat.add_le_add_left (by decide:1<=64) _) hr.units
theorem zK {n:Nat} (h:n<=1000):n < sizeLine:=Bu h (by decide)
theorem pgl {X:Cx} (i:Nat) (x:Str) (pos:Pos) (hN:X.N.Nodup) (hi:X.N[i]? = some x) (hl:X.env.scope.names.lookup x=some .local):PG X (.Name x pos) (Zg i):=WH hN hi (.inl hl) (.inr hl)
def vOk (n:List (Str×NameKind)) (x:Str):Bool:=(match n.lookup x with | some .local=>true | some .cell=>true | some .free=>true | _=>false) && (!(x == ("__debug__" : Str)) && !(x == ("__classdict__" : Str)))
theorem pw {X:Cx} (i:Nat) (x:Str) (pos:Pos) (hN:X.N[i]? = some x) (h:vOk X.env.scope.names x=true):PE X (.Name x pos) (tVar i):=by
 unfold vOk at h
 rw[Az,Az,Bool.not_eq_true',Bool.not_eq_true'] at h
 refine pe_var hN ?_ h.2.1 h.2.2
 cases e:X.env.scope.names.lookup x with
 | none=>rw[e] at h;cases h.1
 | some k=>cases k <;> first | exact .inl e | exact .inr (.inl e) | exact .inr (.inr e) | (rw[e] at h;cases h.1)
section
variable {X : Cx}
theorem pv (i:Nat) {x:Str} {pos:Pos} (hN:X.N[i]? = some x:=by rfl) (hv:Vis X.env.scope x:=by first | exact Or.inl rfl | exact Or.inr (Or.inl rfl) | exact Or.inr (Or.inr rfl)) (hd:(x == ("__debug__" : Str))=false:=by decide)
  (hcd:(x == ("__classdict__" : Str))=false:=by decide):PE X (.Name x pos) (tVar i):=pe_var hN hv hd hcd
end
theorem ZC {A B:Prop} (h:B):if false=true then A else B:=by
 rw[if_neg AK]
 exact h
theorem jN {A B:Prop} (h:A):if true=true then A else B:=by
 rw[if_pos rfl]
 exact h
theorem W0 {c A B:Prop} [Decidable c] (h1:c->A) (h2:¬ c->B):if c then A else B:=by
 by_cases h:c
 ·rw[if_pos h]
  exact h1 h
 ·rw[if_neg h]
  exact h2 h
def zE (H H':Hp):Prop:=∀ b o,H b=some o->H' b=some o
theorem zE.refl (H:Hp):zE H H:=fun _ _ h=>h
theorem zE.trans {H H1 H2:Hp} (a:zE H H1) (b:zE H1 H2):zE H H2:=fun c o h=>b c o (a c o h)
theorem zE.free {H H':Hp} (e:zE H H') {l:Addr} (h:H' l=Option.none):H l=Option.none:=by
 cases q:H l with
 | none=>rfl
 | some o=>
  rw[e l o q] at h
  cases h
abbrev NoX:Value->Shared->Prop:=fun _ _=>False
theorem wpX {α:Type} {M:Model} {A:Around} {t:Sem α} {Q:α->Shared->Prop} {E:Value->Shared->Prop} {s:Shared} (h:wpAny M A t Q NoX s):wpAny M A t Q E s:=
 A4 h (fun _ _ q=>q) fun _ _ f=>f.elim
def ya (ifs:List Expr) (env:Env):Sem Bool:=
 forIn ifs true fun c r=>if r=true then do let ok <- isTrue c env (eval c env);pure (ForInStep.yield ok) else pure (ForInStep.yield r)
theorem Qw {prog:Program} {w:World} {A:Around} {R:Result->Shared->Prop} {s:Shared} {elt tg iter:Expr} {ifs:List Expr} {scope:Scope} {pos:Pos} {it acc:Value} {env:Env} (Iv:Nat->Shared->Prop)
  (turn:∀ n s,Iv n s->wpAny (model prog w) A (pyNext it) (fun r s1=>match r with
   | none=>R (.ok .next) s1
   | some v=>wpAny (model prog w) A (letOwnedTupleGo tg it v) (fun _ s2=>wpAny (model prog w) A (assign tg env v) (fun _ s3=>wpAny (model prog w) A (ya ifs env) (fun ok s4=>
      if ok=true then wpAny (model prog w) A (eval elt env) (fun x s5=>wpAny (model prog w) A (call (.builtin "list.append") [acc,x]) (fun _ s6=>∃ m,m < n/\Iv m s6) NoX s5) NoX s4
      else ∃ m,m < n/\Iv m s4) NoX s3) NoX s2) NoX s1) NoX s)
  (n:Nat) (h:Iv n s):codeAny (model prog w) A (.compLoop (.ListComp elt [⟨tg,iter,ifs,0⟩] scope pos) 0 it acc env) R s:=by
 refine codeAny_loop rfl Iv (fun n s hI=>?_) n h
 show wpAny (model prog w) A ((compTurn (.ListComp elt [⟨tg,iter,ifs,0⟩] scope pos) 0 it acc env).onRaise (fun x=>do noteFrame x env;theTreesLotGoes x)) _ _ s
 refine wpAny_noted (wpX ?_)
 rw[compTurn_list]
 refine AA (Co (AA (thn (turn n s hI) fun r s1 h1=>?_)))
 cases r with
 | none=>exact AB h1
 | some v=>
  refine AA (thn h1 fun _ s2 h2=>AA (thn h2 fun _ s3 h3=>AA (thn h3 fun ok s4 h4=>?_)))
  cases ok with
  | false=>exact AB ⟨rfl,h4⟩
  | true=>exact AA (AA (thn h4 fun x s5 h5=>AA (thn h5 fun _ s6 h6=>AB (AB ⟨rfl,h6⟩))))
def qG (env:Env) (y:Str×NameKind) (cs:List (Str×Addr)):List (Str×Addr):=if (y.2 == NameKind.free)=true then (y.1,(env.cells.lookup y.1).getD 0) :: cs else cs
def yb (env:Env) (scope:Scope):List (Str×Addr):=scope.names.foldl (fun c y=>qG env y c) []
theorem ZD {α β:Type} {f:α->β->Sem (ForInStep β)} {g:β->α->β}:∀ (l:List α) (c:β),(∀ x ∈ l,∀ c,f x c=pure (.yield (g c x)))->forIn l c f=pure (l.foldl g c)
 | [],c,_=>rfl
 | x :: l,c,h=>by
  rw[List.forIn_cons,h x Ai,pure_bind]
  exact ZD l (g c x) fun y hy=>h y (AV _ hy)
theorem Qf {env:Env} {scope:Scope} (h:∀ y ∈ scope.names,y.2=.free->∃ c,env.cells.lookup y.1=some c):closureFor scope env=pure (yb env scope):=by
 simp only[closureFor]
 rw[ZD (g:=fun c y=>qG env y c) scope.names [] (fun y hy c=>?_)]
 ·rfl
 ·obtain⟨n,k⟩:=y
  by_cases hk:k=.free
  ·subst hk
   obtain⟨a,ha⟩:=h _ hy rfl
   have ha':env.cells.lookup n=some a:=ha
   simp[qG,cellOf,ha']
  ·have hb:(k == NameKind.free)=false:=by simpa using hk
   simp only[qG,hb,Bool.false_eq_true,if_false]
theorem Ze {env:Env}:∀ (ns:List (Str×NameKind)) (cs:List (Str×Addr)),(∀ y ∈ ns,y.2=.free->∃ c,env.cells.lookup y.1=some c)->(∀ x c,cs.lookup x=some c->env.cells.lookup x=some c) ->
  ∀ x c,(ns.foldl (fun c y=>qG env y c) cs).lookup x=some c->env.cells.lookup x=some c
 | [],_,_,h=>h
 | y :: ns,cs,hf,h=>by
  refine Ze ns (qG env y cs) (fun z hz=>hf z (AV _ hz)) fun x c e=>?_
  unfold qG at e
  split at e
  ·rename_i hk
   have hk':y.2=.free:=by simpa using hk
   obtain⟨a,ha⟩:=hf y Ai hk'
   rw[CA] at e
   split at e
   ·rename_i hx
    have hx':x=y.1:=by simpa using hx
    rw[ha] at e
    rw[hx',ha]
    exact e
   ·exact h x c e
  ·exact h x c e
theorem jo {env:Env} (x:Str):∀ (ns:List (Str×NameKind)) (cs:List (Str×Addr)),((x,NameKind.free) ∈ ns\/∃ c,cs.lookup x=some c)->∃ c,(ns.foldl (fun c y=>qG env y c) cs).lookup x=some c
 | [],_,h=>by
  rcases h with h | h
  ·exact absurd h (by simp)
  ·exact h
 | y :: ns,cs,h=>by
  refine jo x ns (qG env y cs) ?_
  rcases h with h | ⟨c,h⟩
  ·rcases AZ.mp h with e | h
   ·subst e
    exact .inr ⟨(List.lookup x env.cells).getD 0,by simp[qG]⟩
   ·exact .inl h
  ·refine .inr ?_
   unfold qG
   split
   ·rw[CA]
    split
    ·exact⟨_,rfl⟩
    ·exact⟨c,h⟩
   ·exact⟨c,h⟩
def relK (env:Env) (n:Str) (k:NameKind):NameKind:=if (k == NameKind.free && env.scope.kind == .function && env.kindOf n == some .cell)=true then .cell else k
def relP (env:Env) (y:Str×NameKind):Str×NameKind:=if (y.2 == NameKind.free && env.scope.kind == .function && env.kindOf y.1 == some .cell)=true then (y.1,NameKind.cell) else (y.1,y.2)
theorem relP_eq (env:Env) (y:Str×NameKind):relP env y=(y.1,relK env y.1 y.2):=by
 unfold relP relK
 split <;> rfl
theorem Qg {env:Env} (x:Str):∀ ns:List (Str×NameKind),(ns.map (relP env)).lookup x=(ns.lookup x).map (relK env x)
 | []=>rfl
 | (n,k) :: r=>by
  have ih:=Qg (env:=env) x r
  rw[Ag,relP_eq,CA,CA]
  cases hx:x == n with
  | true=>
   have e:x=n:=by simpa using hx
   subst e
   rfl
  | false=>exact ih
theorem jx {env : Env} {scope : Scope} (x : Str) : (relabel scope env).names.lookup x = (scope.names.lookup x).map (relK env x) := Qg x scope.names
def capOne (N:List Str) (scope:Scope) (p:Option Nat×Str):Bool:=match p.1 with
 | none=>true
 | some j=>decide (N[j]? = some p.2) && decide (scope.names.lookup p.2=some .free)
structure qH (N:List Str) (sc:Scope) (N':List Str) (ix:List (Option Nat)) (scope:Scope):Prop where
 kind:scope.kind=.function
 nocell:∀ y ∈ scope.names,y.2 ≠ .cell
 locs:∀ y ∈ scope.names,y.2=.local->scope.names.lookup y.1=some .local
 frees:∀ y ∈ scope.names,y.2=.free->(sc.names.lookup y.1=some .cell\/sc.names.lookup y.1=some .free)
 nd:N'.Nodup
 len:ix.length=N'.length
 cap:(ix.zip N').all (capOne N scope)=true
def ixSt (ix:List (Option Nat)) (σ:St):St:=ix.map fun o=>o.bind fun i=>(σ[i]?).join
def qo (X:Cx) (N':List Str) (scope:Scope) (C:Addr) (fp:List Addr) (s₀:Shared) (H₀:Hp):Cx where
 prog:=X.prog
 w:=X.w
 K:=X.K
 mg:=X.mg
 base:=X.base
 A:=X.A
 N:=N'
 s₀:=s₀
 H₀:=H₀
 env:=compEnvC scope (yb X.env scope) C X.env
 outer:=X.stack
 stack:=X.stack
 ex:=fp
 fn:=fun _=>false
 calm:=X.calm
 pn:=[]
 xe:=NoX
section
variable {X : Cx} {N' : List Str} {ix : List (Option Nat)} {scope : Scope} {pins : List (Addr × Obj)} {σ : St} {H : Hp} {s : Shared} {fp : List Addr}
theorem qH.has (S:qH X.N X.env.scope N' ix scope) (ok:X.Ok):∀ y ∈ scope.names,y.2=.free->∃ c,X.env.cells.lookup y.1=some c:=fun y hy hk=>ok.has y.1 (S.frees y hy hk)
theorem qH.sub (S:qH X.N X.env.scope N' ix scope) (ok:X.Ok):∀ x c,(yb X.env scope).lookup x=some c->X.env.cells.lookup x=some c:=
 Ze scope.names [] (S.has ok) fun x c e=>by simp at e
theorem qH.frK (S : qH X.N X.env.scope N' ix scope) {x : Str} (h : (relabel scope X.env).names.lookup x = some .cell \/ (relabel scope X.env).names.lookup x = some .free) : scope.names.lookup x = some .free := by
 rw [jx] at h
 cases e:scope.names.lookup x with
 | none=>rw[e] at h;simp at h
 | some k=>
  rw[e] at h
  cases k with
  | free=>rfl
  | cell=>exact absurd rfl (S.nocell _ (As e))
  | «local»=>simp[relK] at h
  | globalExplicit=>simp[relK] at h
  | globalImplicit=>simp[relK] at h
theorem Wg {h1:Heap} {m:Str->Option Value} {tk:Nat} (S:qH X.N X.env.scope N' ix scope) (I:Inv X pins σ H s) (hf:∀ b ∈ fp,WI X pins H b) (hlt:∀ b ∈ fp,b < s.heap.objs.size)
  (ns:h1.Ns s.heap.objs.size m) (kp:∀ b o,s.heap.get? b=some o->h1.get? b=some o) :
  Inv (qo X N' scope s.heap.objs.size fp s H) [] (ixSt ix σ) H { s with heap:=h1,toks:=tk }:=by
 have sub:=S.sub I.ok
 have cellS:∀ x c,(yb X.env scope).lookup x=some c->c < s.heap.objs.size:=fun x c e=>by
  obtain⟨v,q⟩:=I.cell x c (sub x c e)
  exact q.lt
 refine⟨⟨I.ok.mod,S.kind,I.ok.glob,I.ok.blt,AG _,fun x y c h1 h2=>I.ok.inj x y c (sub x c h1) (sub y c h2),fun x hx=>?_,fun x c z _=>?_,I.ok.hd,I.ok.frames,.inl rfl,fun b hb=>⟨?_,fun x c e=>?_⟩,I.bs,Ab I.ok.bsz I.sz,fun b o e hb=>?_,fun b hb z=>?_,I.stack,I.stkFree⟩,
  rfl,I.bare,Un.kept kp,⟨m,ns,fun i x v h1 h2 h3=>?_⟩,fun x c e=>?_,I.hok.fresh (AG _),fun x c e=>I.freeC x c (sub x c e),fun p hp=>absurd (show p ∈ ([]:List (Addr×Obj)) from hp) (by simp),I.hok.kept kp,?_⟩
 ·exact jo x scope.names [] (.inl (As (S.frK hx)))
 ·exact absurd (show false=true from z) (by simp)
 ·exact AW (hlt b hb)
 ·exact (hf b hb).2.2.2.2.1 x c (sub x c e)
 ·rcases (hf b hb).2.2.2.1 with z | z
  ·exact I.ok.noex b o e z
  ·exact absurd (AN (AI e) (Ab I.ok.bsz z)) (A1 _)
 ·rcases AZ.mp (I.stkSub b z) with e | e
  ·exact (hf b hb).2.1 e
  ·exact (hf b hb).2.2.1 e
 ·have hi:i < ix.length:=by
   have:=(AD.mp h1).1
   rw[S.len];exact this
  have e1:ix[i]? = some ix[i]:=AE hi
  have h2':(ixSt ix σ)[i]? = some (some v):=h2
  rw[ixSt,An,e1] at h2'
  have h2'':(ix[i].bind fun j=>(σ[j]?).join)=some v:=AO h2'
  cases ej:ix[i] with
  | none=>rw[ej] at h2'';cases h2''
  | some j=>
   rw[ej] at h2''
   have h2j:(σ[j]?).join=some v:=h2''
   have hz:(ix[i],x) ∈ ix.zip N':=by
    have ez:(ix.zip N')[i]? = some (ix[i],x):=by rw[List.getElem?_zip_eq_some];exact⟨e1,h1⟩
    exact AH ez
   have cq:=A5.mp S.cap _ hz
   have cq':(decide (X.N[j]? = some x) && decide (scope.names.lookup x=some .free))=true:=by
    unfold capOne at cq
    simp only[ej] at cq
    exact cq
   rw[Az] at cq'
   have c1:=Am cq'.1
   have c2:=Am cq'.2
   have kx:X.env.scope.names.lookup x=some .cell\/X.env.scope.names.lookup x=some .free:=S.frees (x,.free) (As c2) rfl
   have hs:σ[j]? = some (some v):=by
    cases q:σ[j]? with
    | none=>rw[q] at h2j;cases h2j
    | some o=>rw[q] at h2j;have:o=some v:=h2j;rw[this]
   obtain⟨m0,hn0,hl0⟩:=I.loc
   obtain⟨u,ru,lk⟩:=hl0 j x v c1 hs (kx.elim (fun z=>.inr (.inl z)) fun z=>.inr (.inr z))
   refine⟨u,ru,.inr ⟨?_,?_⟩⟩
   ·show (relabel scope X.env).names.lookup x = some .cell \/ (relabel scope X.env).names.lookup x = some .free
    rw [jx, c2]
    simp only[Option.map_some,relK]
    split
    ·exact .inl rfl
    ·exact .inr rfl
   ·rcases lk with ⟨k,_⟩ | ⟨_,c,ec,hc⟩
    ·have k':X.env.scope.names.lookup x=some .local:=k
     rw[k'] at kx
     rcases kx with z | z <;> cases z
    ·obtain⟨c',ec'⟩:=jo (env:=X.env) x scope.names [] (.inl (As c2))
     have:=sub x c' ec'
     rw[ec] at this;cases this
     exact⟨c,ec',hc.keeps kp⟩
 ·obtain⟨v,q⟩:=I.cell x c (sub x c e)
  exact⟨v,q.keeps kp⟩
 ·show (ixSt ix σ).length=N'.length
  rw[ixSt,AF,S.len]
def PF (X:Cx) (ifs:List Expr) (t:TT):Prop:=∀ (pins:List (Addr×Obj)) (s:Shared) (σ:St) (H:Hp) (Q:Bool->Hp->Prop),Inv X pins σ H s->t σ H Q->wpAny (model X.prog X.w) X.A (ya ifs X.env) (TP X pins σ Q) X.xe s
def tYes:TT:=fun _ H Q=>Q true H
theorem wE:PF X [] tYes:=fun _ _ _ H _ I h=>wpAny_tests_nil ⟨H,I,h⟩
theorem pf_one {c:Expr} {t:TT} (hc:PT X c t):PF X [c] t:=fun pins s σ H Q I h=>wpAny_tests_one (hc pins s σ H Q I h)
def ZE (J:It) (g:TG) (tt:TT) (te:TE) (σ0:St) (H1:Hp) (Q:VK) (D:Addr):Prop:=∃ W:Nat->Nat->St->Hp->Prop,(∃ m,W 0 m σ0 (upd H1 D (.lst [])))/\∀ i m σ' H',W i m σ' H' ->
 (J.stop i H'/\Q (.ref D) H')\/(J.go i H'/\∀ x H2,J.yld i H' x H2->g x σ' H2 fun σ2 H3=>tt σ2 H3 fun b H4=>
  if b=true then te σ2 H4 fun v H5=>∃ xs,H5 D=some (.lst xs)/\xs.length < sizeLine/\∃ m',m' < m/\W (i+1) m' σ2 (upd H5 D (.lst (xs++[v]))) else ∃ m',m' < m/\W (i+1) m' σ2 H4)
def tComp (ix:List (Option Nat)) (wi:TI) (g:TG) (tt:TT) (te:TE):TE:=fun σ H Q=>wi σ H fun J H1=>∀ D,H1 D=none->ZE J g tt te (ixSt ix σ) H1 Q D
theorem Qh {elt tg iter:Expr} {ifs:List Expr} {pos:Pos} {g:TG} {tt:TT} {te:TE} {Q:VK} {Z:Value->Addr->Result->Shared->Prop} {it:Addr} {tn:Nat->Heap->Prop} {J:It}
  (S:qH X.N X.env.scope N' ix scope) (hc:X.calm=true)
  (hg:∀ C fp s₀ H₀,PG (qo X N' scope C fp s₀ H₀) tg g) (ht:∀ C fp s₀ H₀,PF (qo X N' scope C fp s₀ H₀) ifs tt) (he:∀ C fp s₀ H₀,PE (qo X N' scope C fp s₀ H₀) elt te)
  (I:Inv X pins σ H s) (T:Turn X.prog X.w X.K tg J fp it tn) (st:tn 0 s.heap) (hf:∀ b ∈ fp,WI X pins H b)
  (h:∀ D,H D=none->∃ W:Nat->Nat->St->Hp->Prop,(∃ m,W 0 m (ixSt ix σ) (upd H D (.lst [])))/\∀ i m σ' H',W i m σ' H' ->
   (J.stop i H'/\Q (.ref D) H')\/(J.go i H'/\∀ x H2,J.yld i H' x H2->g x σ' H2 fun σ2 H3=>tt σ2 H3 fun b H4=>
    if b=true then te σ2 H4 fun v H5=>∃ xs,H5 D=some (.lst xs)/\xs.length < sizeLine/\∃ m',m' < m/\W (i+1) m' σ2 (upd H5 D (.lst (xs++[v]))) else ∃ m',m' < m/\W (i+1) m' σ2 H4))
  (hZ:∀ D C H' s' m,Inv X pins σ H' s'->s'.heap.Ns C m->H' C=none->s.heap.objs.size<=C->Q (.ref D) H'->Z (.ref D) C (.ok .next) s') :
  wpAny (model X.prog X.w) X.A (newList []) (fun acc s3=>wpAny (model X.prog X.w) X.A (newFunctionEnv scope X.env.globals (yb X.env scope) [] X.env.qual none .none (some X.env)) (fun cenv s4=>
   codeAny (model X.prog X.w) X.A (.compStart (.ListComp elt [⟨tg, iter, ifs, 0⟩] scope pos) 0 (.ref it) acc { cenv with scope := relabel scope X.env }) (Z acc cenv.locals) s4) X.xe s3) X.xe s := by
 refine Aj (wpAny_newFunctionEnv S.nocell (by intro y hy;simp at hy) (fun h1 ns1 sb1=>?_) S.kind)
 have I3:Inv X pins σ (upd H s.heap.objs.size (.lst [])) { s with heap:=s.heap.push { cls:=.type "list",data:=.seq ([]:List Value).toArray },toks:=s.toks }:=I.lnew (ys:=[]) (its:=[]) .nil (Ax _)
 generalize hs3:({ s with heap:=s.heap.push { cls:=.type "list",data:=.seq ([]:List Value).toArray } }:Shared)=s3 at ns1 sb1 ⊢
 have I3:Inv X pins σ (upd H s.heap.objs.size (.lst [])) s3:=by rw[<- hs3];exact I3
 have hsz:s3.heap.objs.size=s.heap.objs.size+1:=by rw[<- hs3];exact CB _ _
 have st3:tn 0 s3.heap:=by
  rw[<- hs3]
  exact T.keep _ _ _ st fun b _ o e=>AC _ e
 have blw:∀ b ∈ fp,b < s.heap.objs.size:=fun b hb=>by
  obtain⟨o,e,_⟩:=T.obj _ _ st b hb
  exact AI e
 have hf3:∀ b ∈ fp,WI X pins (upd H s.heap.objs.size (.lst [])) b:=fun b hb=>⟨by rw[zt (AW (blw b hb))];exact (hf b hb).1,(hf b hb).2⟩
 obtain⟨W,⟨m0,w0⟩,turn⟩:=h s.heap.objs.size I.fresh
 have kp:∀ b o,s3.heap.get? b=some o->h1.get? b=some o:=fun b o e=>(sb1.2 b (AW (AI e))).trans (AC _ e)
 have J0:=Wg (tk:=s3.toks+([]:List (Str×Value)).length) S I3 hf3 (fun b hb=>by rw[hsz];exact Be (blw b hb)) ns1 kp
 have st4:tn 0 h1:=T.keep _ _ _ st3 fun b _ o e=>kp b o e
 have stat:∀ {H':Hp} {pl:List (Addr×Obj)},(∀ b ∈ fp,H' b=none)->(∀ b ∈ fp,∀ p ∈ pl,p.1 ≠ b)->∀ b ∈ fp,WI (qo X N' scope s3.heap.objs.size fp s3 (upd H s.heap.objs.size (.lst []))) pl H' b:=fun hn hp b hb=>
  ⟨hn b hb,(J0.ok.exf b hb).1,J0.ok.exfs b hb,.inl hb,(J0.ok.exf b hb).2,fun p q=>hp b hb p q⟩
 have loop:codeAny (model X.prog X.w) X.A (.compLoop (.ListComp elt [⟨tg,iter,ifs,0⟩] scope pos) 0 (.ref it) (.ref s.heap.objs.size) (qo X N' scope s3.heap.objs.size fp s3 (upd H s.heap.objs.size (.lst []))).env) (Z (.ref s.heap.objs.size) s3.heap.objs.size)
   { s3 with heap:=h1,toks:=s3.toks+([]:List (Str×Value)).length }:=by
  refine Qw (fun n s'=>∃ i σ' H',Inv (qo X N' scope s3.heap.objs.size fp s3 (upd H s.heap.objs.size (.lst []))) [] σ' H' s'/\tn i s'.heap/\(∀ b ∈ fp,H' b=none)/\W i n σ' H') ?_ m0
   ⟨0,_,_,J0,st4,fun b hb=>(hf3 b hb).1,w0⟩
  rintro n s5 ⟨i,σ5,H5,I5,st5,fr5,w5⟩
  rcases turn i n σ5 H5 w5 with ⟨stop,q⟩ | ⟨go,step⟩
  ·refine thn (T.done (qo X N' scope s3.heap.objs.size fp s3 (upd H s.heap.objs.size (.lst []))) rfl rfl rfl hc i [] s5 σ5 H5 NoX I5 (stat (pl:=[]) fr5 (fun _ _ p hp=>absurd hp (by simp))) st5 stop) fun r s6 ⟨hr,I6⟩=>?_
   subst hr
   have I7:Inv X pins σ H5 s6:=I3.call' (ch:=fp) I6.os I6.base I6.hok I6.bare fun b hb=>⟨(hf3 b hb).2.2.2.1,(hf3 b hb).2.1,(hf3 b hb).2.2.2.2.1,(hf3 b hb).2.2.2.2.2⟩
   obtain⟨m6,n6,_⟩:=I6.loc
   exact hZ _ _ H5 s6 m6 I7 n6 I6.free (by rw[hsz];exact CT _) q
  ·refine thn (T.item (qo X N' scope s3.heap.objs.size fp s3 (upd H s.heap.objs.size (.lst []))) rfl rfl rfl hc i [] s5 σ5 H5 NoX I5 (stat (pl:=[]) fr5 (fun _ _ p hp=>absurd hp (by simp))) st5 go) fun r s6 ⟨u,hr,h6⟩=>?_
   subst hr
   refine thn h6 fun _ s7 ⟨x,H7,I7,r7,y7,st7,fr7⟩=>?_
   have I7':=I7.pinned (stat (pl:=[]) fr7 (fun _ _ p hp=>absurd hp (by simp))) (T.obj _ _ st7)
   refine thn (hg _ _ _ _ _ s7 σ5 H7 x u _ I7' r7 (step x H7 y7)) fun _ s8 ⟨σ8,H8,I8,q8⟩=>?_
   refine thn (ht _ _ _ _ _ s8 σ8 H8 _ I8 q8) fun b s9 ⟨H9,I9,q9⟩=>?_
   have again:∀ {σ':St} {H':Hp} {s':Shared} {m':Nat},Inv (qo X N' scope s3.heap.objs.size fp s3 (upd H s.heap.objs.size (.lst []))) ([]++Q4 fp s7.heap) σ' H' s'->m' < n->W (i+1) m' σ' H' ->
     ∃ m,m < n/\∃ i σ' H',Inv (qo X N' scope s3.heap.objs.size fp s3 (upd H s.heap.objs.size (.lst []))) [] σ' H' s'/\tn i s'.heap/\(∀ b ∈ fp,H' b=none)/\W i m σ' H':=fun {σ' H' s' m'} I' hm w'=>by
    refine⟨m',hm,i+1,σ',H',I'.unpinned,T.keep _ _ _ st7 fun b hb o e=>(I'.pin (b,o) (AX _ (AX _ (jw hb e)))).1,fun b hb=>?_,w'⟩
    obtain⟨o,e,d⟩:=T.obj _ _ st7 b hb
    exact (I'.pin (b,o) (AX _ (AX _ (jw hb e)))).2.1
   cases b with
   | false=>
    obtain⟨m',hm,w'⟩:=(show ∃ m',m' < n/\W (i+1) m' σ8 H9 from q9)
    exact again I9 hm w'
   | true=>
    refine thn (he _ _ _ _ _ s9 σ8 H9 _ I9 q9) fun v s10 ⟨y,H10,I10,r10,q10⟩=>?_
    obtain⟨xs,hx,hl,m',hm,w'⟩:=q10
    refine thn (jn _ s10 σ8 H10 (.ref s.heap.objs.size) [y] (.ref s.heap.objs.size) [v] (fun _ H'=>W (i+1) m' σ8 H') I10 rfl (.cons r10 .nil) ⟨_,xs,y,rfl,rfl,hx,hl,w'⟩) fun _ s11 ⟨_,H11,I11,_,q11⟩=>?_
    exact again I11 hm q11
 exact codeAny_compStart_list loop (T.self _ _ _ _ _ st4 loop)
theorem Qx {elt tg iter:Expr} {ifs:List Expr} {pos:Pos} {wi:TI} {g:TG} {tt:TT} {te:TE} (S:qH X.N X.env.scope N' ix scope) (hc:X.calm=true) (hi:PI X tg iter wi)
  (hg:∀ C fp s₀ H₀,PG (qo X N' scope C fp s₀ H₀) tg g) (ht:∀ C fp s₀ H₀,PF (qo X N' scope C fp s₀ H₀) ifs tt) (he:∀ C fp s₀ H₀,PE (qo X N' scope C fp s₀ H₀) elt te)
  (hs:∀ x,foldedSetIterable iter X.env x=pure x:=by intro _;rfl):PE X (.ListComp elt [⟨tg,iter,ifs,0⟩] scope pos) (tComp ix wi g tt te):=by
 intro pins s σ H Q I h
 rw[eval_ListComp]
 refine wpAny_comprehension_free (use:=none) rfl hs (Qf (S.has I.ok)) S.kind S.locs (thn (hi pins s σ H _ I h) fun v s1 h1=>thn h1 fun itv s2 h2=>?_)
 obtain⟨it,fp,tn,J,H2,e,I2,T,st2,f2,q⟩:=h2
 subst e
 refine Qh (Z:=fun acc C=>compPost (model X.prog X.w) X.A X.xe none (EP X pins σ Q) acc C) S hc hg ht he I2 T st2 f2 q ?_
 intro D C H' s' m I' hn hC hz qD
 refine⟨m,hn,fun h' sb=>?_⟩
 have I'':Inv X pins σ H' { s' with heap:=h',toks:=s'.toks }:=I'.turned (it:=C) (fun b o hb e=>(sb.2 b hb).trans e) hC (fun z=>absurd (AN I2.lt (by rw[<- z];exact hz)) (A1 _))
  (.inr (Ab I2.sz hz)) (fun x c e z=>by obtain⟨v,w⟩:=I2.cell x c e;exact absurd (AN w.lt (by rw[z];exact hz)) (A1 _)) (fun p hp z=>absurd (AN (AI (I2.pin p hp).1) (by rw[z];exact hz)) (A1 _))
 exact⟨.ref D,H',I'',rfl,qD⟩
theorem Wh {i:Nat} {y:Str} {py spos:Pos} {elt tg iter:Expr} {ifs:List Expr} {pos:Pos} {wi:TI} {g:TG} {tt:TT} {te:TE} (S:qH X.N X.env.scope N' ix scope) (hc:X.calm=true) (hi:PI X tg iter wi)
  (hg:∀ C fp s₀ H₀,PG (qo X N' scope C fp s₀ H₀) tg g) (ht:∀ C fp s₀ H₀,PF (qo X N' scope C fp s₀ H₀) ifs tt) (he:∀ C fp s₀ H₀,PE (qo X N' scope C fp s₀ H₀) elt te)
  (hN:X.N.Nodup) (hy:X.N[i]? = some y) (hl:X.env.scope.names.lookup y=some .local) (hsw:swapsWith (.ListComp elt [⟨tg,iter,ifs,0⟩] scope pos) (some (.Name y py)) spos.line X.env=pure true)
  (hs:∀ x,foldedSetIterable iter X.env x=pure x:=by intro _;rfl):PS X (.Assign [.Name y py] (.ListComp elt [⟨tg,iter,ifs,0⟩] scope pos) spos) (tAsg (tComp ix wi g tt te) (Zg i)):=by
 intro pins s σ H D I h
 rw[exec_Assign_Name_used _ _ _ _ hsw]
 refine AA (Co (AA ?_))
 rw[arm_evalThenUse_ListComp]
 refine AA (thn (wpAny_comprehension_free (use:=some (assign (.Name y py) X.env)) (Q:=fun _ s'=>SP X pins D .next s') rfl hs (Qf (S.has I.ok)) S.kind S.locs
  (thn (hi pins s σ H _ I h) fun v s1 h1=>thn h1 fun itv s2 h2=>?_)) fun _ s' q=>AB (AB q))
 obtain⟨it,fp,tn,J,H2,e,I2,T,st2,f2,q⟩:=h2
 subst e
 refine Qh (Q:=fun x H1=>Zg i x σ H1 D.nx) (Z:=fun acc C=>compPost (model X.prog X.w) X.A X.xe (some (assign (.Name y py) X.env)) (fun _ s'=>SP X pins D .next s') acc C) S hc hg ht he I2 T st2 f2 q ?_
 intro Dl C H' s' m I' hn hC hz qD
 have neL:C ≠ X.env.locals:=fun z=>absurd (AN I2.lt (by rw[<- z];exact hz)) (A1 _)
 have neC:∀ x c,X.env.cells.lookup x=some c->c ≠ C:=fun x c e z=>by obtain⟨v,w⟩:=I2.cell x c e;exact absurd (AN w.lt (by rw[z];exact hz)) (A1 _)
 show wpAny (model X.prog X.w) X.A (assign (.Name y py) X.env (.ref Dl)) _ X.xe s'
 refine wpAny_assign_Name (Q3 I' hN hy (.inl hl) (show RelV (.ref Dl) (.ref Dl) from rfl) (fun s'' J' ⟨a,sb,ha⟩=>?_) (.inr hl))
 have na:C ≠ a:=by
  rcases ha with z | z
  ·rw[z];exact neL
  ·exact A3 (neC y a z)
 refine⟨m,hn.sameBut sb na,fun h' sb'=>?_⟩
 have I'':Inv X pins (σ.set i (some (.ref Dl))) H' { s'' with heap:=h',toks:=s''.toks }:=J'.turned (it:=C) (fun b o hb e=>(sb'.2 b hb).trans e) hC neL (.inr (Ab I2.sz hz)) neC
  (fun p hp z=>absurd (AN (AI (I2.pin p hp).1) (by rw[z];exact hz)) (A1 _))
 exact⟨_,H',I'',qD⟩
end
theorem bt_abs:bootBuiltins "abs" = some (.builtin "abs"):=by decide +kernel
theorem jP:bootBuiltins "len" = some (.builtin "len"):=by decide +kernel
theorem bt_all:bootBuiltins "all" = some (.builtin "all"):=by decide +kernel
theorem zn:bootBuiltins "isinstance" = some (.builtin "isinstance"):=by decide +kernel
theorem bt_int:bootBuiltins "int" = some (.type "int"):=by decide +kernel
theorem bt_bool:bootBuiltins "bool" = some (.type "bool"):=by decide +kernel
theorem Jg:bootBuiltins "str" = some (.type "str"):=by decide +kernel
theorem wF:bootBuiltins "tuple" = some (.type "tuple"):=by decide +kernel
theorem yc:bootBuiltins "list" = some (.type "list"):=by decide +kernel
def Def (P:Program) (w:World) (K:PySem.W.Frag) (mg:Str->Option Value) (base:Heap) (k:Nat) (x:Str) (ps:List Str) (sp:Sp):Prop:=
 ∃ (f:Addr) (fd:FuncData),qA P w K mg base CX0 k f fd ps sp/\mg x=some (.ref f)/\PySem.W.keepIn K (.ref f)=true/\Binds K fd ps []
section
variable {X : Cx}
theorem zw {k k':Nat} {x:Str} {ps:List Str} {sp:Sp} {e:Expr} {es:List Expr} {t:TA} {p pos:Pos} (D:Def X.prog X.w X.K X.mg X.base k x ps sp) (hr:jk k' X.A) (hk:k<=k') (hg:Gl X x) (ha:PA X (e :: es) t)
  (hdb:(x == ("__debug__" : Str))=false:=by decide) (he:starEach (e :: es) X.env=(false,eval e X.env) :: starEach es X.env:=by rfl) (hpl:(backTo pos (starEach es X.env)).any (·.1)=false:=by rfl) :
  PE X (.Call (.Name x p) (e :: es) [] pos) (tCall sp [] E0 t):=by
 obtain⟨f,fd,F,m,kp,b⟩:=D
 exact JR F (hr.mono hk) hg m kp b .nil pass0 ha hdb he hpl
theorem Qi {x:V}:∀ {xs:List V} {us:List Value},zR xs us->xs.all qK=true->us.countP (eqU x)=xs.countP fun y=>eqV y x
 | _,_,.nil,_=>rfl
 | y :: xs,u :: us,.cons r t,f=>by
  rw[Ba,Az] at f
  rw[List.countP_cons,List.countP_cons,WX r f.1,Qi t f.2]
theorem yd:qU X (.builtin "isinstance") (fun xs H Q=>∃ x n t b,xs=[x,.ty n]/\JQ X.K H x t/\PySem.W.kitOne X.K t (.type n)=some b/\Q (.bl b) H):=by
 intro pins s σ H xs us Q I r h
 obtain⟨x,n,t,b,rfl,ty,e,q⟩:=h
 obtain⟨u,w',rfl,r1,r2⟩:=vals2 r
 cases r2
 exact WV I r1 ty e fun tk=>⟨.bl b,H,I.tok tk,rfl,q⟩
theorem qN {K:PySem.W.Frag} (n:String):PySem.W.kitOne K (.type n) (.type n)=some true:=by simp[PySem.W.kitOne]
def Its (z:Str):It:=⟨fun i _=>i < z.cps.size,fun i H x H'=>H'=H/\∃ c,z.cps[i]? = some c/\x=.str ⟨#[c]⟩,fun i _=>z.cps.size<=i⟩
def iStr (tl:TE):TI:=fun σ H R=>tl σ H fun x H1=>∃ z,x=.str z/\R (Its z) H1
theorem turn_str {P:Program} {w:World} {K:PySem.W.Frag} {tg:Expr} {z:Str} {tk:Tok} {it:Addr} {ty:String} (hty:ty = "str_ascii_iterator" \/ ty = "str_iterator") :
  Turn P w K tg (Its z) [it] it (fun i h=>h.IsStrIter it ty z tk i/\i<=z.cps.size) where
 mem:=by simp
 obj:=fun i h st b hb=>by
  have e:b=it:=by simpa using hb
  subst e
  obtain⟨⟨o,h1,h2,h3⟩,_⟩:=st
  exact⟨o,h1,fun v q=>by rw[h3] at q;cases q⟩
 keep:=fun i h h' st k=>by
  obtain⟨⟨o,h1,h2⟩,h3⟩:=st
  exact⟨⟨o,k it (by simp) o h1,h2⟩,h3⟩
 item:=by
  intro X hP hw hK hc i pins s σ H E I hf st hg
  subst hP hw hK
  obtain⟨f0,f1,f2,f3,f4,f5⟩:=hf it (by simp)
  have fin:∀ (v:Value) (h':Heap) (tk':Nat),SignAt z i v->h'.IsStrIter it ty z tk (i+1)->(∀ b o,b ∉ [it]->s.heap.get? b=some o->h'.get? b=some o) ->
    ∃ u,some v=some u/\wpAny (model X.prog X.w) X.A (letOwnedTupleGo tg (.ref it) u) (fun _ s2=>∃ x H',Inv X pins σ H' s2/\RelV x u/\(Its z).yld i H x H'/\(s2.heap.IsStrIter it ty z tk (i+1)/\i+1<=z.cps.size)/\∀ b ∈ [it],H' b=none) E { s with heap:=h',toks:=tk' }:=by
   intro v h' tk' hv st' kk
   obtain⟨c,t,hcx,rfl⟩:=hv
   have I1:Inv X pins σ H { s with heap:=h',toks:=tk' }:=I.turned (fun b o hb e=>kk b o (by simpa using hb) e) f0 f1 f3 f4 f5
   obtain⟨o,h1,h2,h3⟩:=id st'
   refine⟨_,rfl,go_of (s:={ s with heap:=h',toks:=tk' }) (n:=ty) h1 h2 h3 ?_ ⟨.str ⟨#[c]⟩,H,I1,⟨t,rfl⟩,⟨rfl,c,hcx,rfl⟩,⟨st',hg⟩,fun b hb=>(hf b hb).1⟩⟩
   rcases hty with rfl | rfl <;> decide
  rcases hty with rfl | rfl
  ·exact (Walks.strAscii (I.ok.hd hc) it z tk).item i s _ _ hg st.1 fun v h' tk' hv st' kk=>fin v h' tk' hv st' kk
  ·exact (Walks.strWide (I.ok.hd hc) it z tk).item i s _ _ hg st.1 fun v h' tk' hv st' kk=>fin v h' tk' hv st' kk
 done:=by
  intro X hP hw hK hc i pins s σ H E I hf st hg
  subst hP hw hK
  obtain⟨f0,f1,f2,f3,f4,f5⟩:=hf it (by simp)
  have e:i=z.cps.size:=Nat.le_antisymm st.2 hg
  subst e
  rcases hty with rfl | rfl
  ·exact (Walks.strAscii (I.ok.hd hc) it z tk).done s _ _ st.1 fun h' tk' kk=>⟨rfl,I.turned (fun b o hb e=>kk b o (by simpa using hb) e) f0 f1 f3 f4 f5⟩
  ·exact (Walks.strWide (I.ok.hd hc) it z tk).done s _ _ st.1 fun h' tk' kk=>⟨rfl,I.turned (fun b o hb e=>kk b o (by simpa using hb) e) f0 f1 f3 f4 f5⟩
 self:=fun A i s Q E st h=>by
  rcases hty with rfl | rfl
  ·exact wpAny_pyIter_striter_ascii st.1 h
  ·exact wpAny_pyIter_striter_wide st.1 h
theorem pi_str {tg l:Expr} {tl:TE} (hl:PE X l tl):PI X tg l (iStr tl):=by
 intro pins s σ H R I h
 refine thn (hl pins s σ H _ I h) fun v s1 ⟨x,H1,I1,r1,q1⟩=>?_
 obtain⟨z,rfl,q⟩:=q1
 obtain⟨t,rfl⟩:=r1
 have fin:∀ ty:String,ty = "str_ascii_iterator" \/ ty = "str_iterator" -> PIE X pins σ tg R (.ref s1.heap.objs.size) { s1 with heap:=s1.heap.push { cls:=.type ty,data:=.fields #[.str z t,.int 0 0] } }:=fun ty hty=>by
  refine⟨s1.heap.objs.size,[s1.heap.objs.size],_,_,H1,rfl,I1.kept (t':=s1.toks) fun b o e=>AC _ e,turn_str (z:=z) (tk:=t) hty,⟨⟨_,AM _ rfl,rfl,rfl⟩,Ax _⟩,fun b hb=>?_,q⟩
  have e:b=s1.heap.objs.size:=by simpa using hb
  subst e
  exact I1.fpOk (AG _) (I1.hok.fresh (AG _))
 cases ha:z.cps.all (· < 128)
 ·exact wpAny_pyIter_wide ha (fin _ (.inr rfl))
 ·exact wpAny_pyIter_ascii ha (fin _ (.inl rfl))
def rSlS:V->Option Int->Option Int->Hp->VK->Prop:=fun x lo hi H Q=>∃ z,x=.str z/\z.length<=sizeLine/\Q (.str (PySem.Txt.slice z lo hi)) H
theorem sl_str:SlR X rSlS:=by
 intro pins s σ H x v vl vu lo hi sl Q I rx hs pl pu h
 obtain⟨z,rfl,hz,q⟩:=h
 obtain⟨t,rfl⟩:=rx
 refine⟨"str",_,F.slot_str_getitem.lookup,typeIs_str _ _ _,?_⟩
 cases pl with
 | none=>
  cases pu with
  | none=>exact Bk (l:=none) (u:=none) (st:=none) hs rfl (CZ ⟨Ab (Bt z _ _) hz,fun t' k=>⟨.str _,H,I.tok k,⟨t',rfl⟩,q⟩⟩)
  | int j uj=>exact Bk (l:=none) (u:=some (j,uj)) (st:=none) hs rfl (CZ ⟨Ab (Bt z _ _) hz,fun t' k=>⟨.str _,H,I.tok k,⟨t',rfl⟩,q⟩⟩)
 | int i ui=>
  cases pu with
  | none=>exact Bk (l:=some (i,ui)) (u:=none) (st:=none) hs rfl (CZ ⟨Ab (Bt z _ _) hz,fun t' k=>⟨.str _,H,I.tok k,⟨t',rfl⟩,q⟩⟩)
  | int j uj=>exact Bk (l:=some (i,ui)) (u:=some (j,uj)) (st:=none) hs rfl (CZ ⟨Ab (Bt z _ _) hz,fun t' k=>⟨.str _,H,I.tok k,⟨t',rfl⟩,q⟩⟩)
theorem sl_any:SlR X (fun x lo hi H Q=>rSlL X.K x lo hi H Q\/(rSlT X.K x lo hi H Q\/rSlS x lo hi H Q)):=sl_list.or (sl_tup.or sl_str)
end
def cW (R:St->Prop) (P:Nat->List V->Hp->Prop) (n:Nat) (D:Addr):Nat->Nat->St->Hp->Prop:=fun i m σ' H=>m=n - i/\i<=n/\R σ'/\∃ ys,P i ys H/\H D=some (.lst ys)
def cYes (R:St->Prop) (P:Nat->List V->Hp->Prop) (n:Nat) (D:Addr) (σ:St) (i:Nat):VK:=fun v H5=>∃ xs,H5 D=some (.lst xs)/\xs.length < sizeLine/\∃ m',m' < n - i/\cW R P n D (i+1) m' σ (upd H5 D (.lst (xs++[v])))
def cNo (R:St->Prop) (P:Nat->List V->Hp->Prop) (n:Nat) (D:Addr) (σ:St) (i:Nat):Hp->Prop:=fun H4=>∃ m',m' < n - i/\cW R P n D (i+1) m' σ H4
theorem cyes {R:St->Prop} {P:Nat->List V->Hp->Prop} {n:Nat} {D:Addr} {σ:St} {i:Nat} {ys:List V} {v:V} {H:Hp} (hi:i < n) (r:R σ) (h:H D=some (.lst ys)) (hl:ys.length < sizeLine) (p:P (i+1) (ys++[v]) (upd H D (.lst (ys++[v])))):cYes R P n D σ i v H:=
 ⟨ys,h,hl,n - (i+1),by omega,rfl,hi,r,_,p,zb⟩
theorem cno {R:St->Prop} {P:Nat->List V->Hp->Prop} {n:Nat} {D:Addr} {σ:St} {i:Nat} {ys:List V} {H:Hp} (hi:i < n) (r:R σ) (h:H D=some (.lst ys)) (p:P (i+1) ys H):cNo R P n D σ i H:=
 ⟨n - (i+1),by omega,rfl,hi,r,_,p,h⟩
theorem Zl {J:It} {g:TG} {tt:TT} {te:TE} {σ0:St} {H1:Hp} {Q:VK} {D:Addr} {n:Nat} {xv:Nat->V} {st:Nat->St} (R:St->Prop) (P:Nat->List V->Hp->Prop) (r0:R σ0) (h0:P 0 [] (upd H1 D (.lst [])))
  (hj:∀ i ys H,i < n->P i ys H->H D=some (.lst ys)->J.go i H/\∀ x H2,J.yld i H x H2->H2=H/\x=xv i) (he:∀ ys H,P n ys H->H D=some (.lst ys)->J.stop n H)
  (hg:∀ i ys σ' H (K:St->Hp->Prop),i < n->R σ'->P i ys H->K (st i) H->g (xv i) σ' H K)
  (hs:∀ i ys H,i < n->P i ys H->H D=some (.lst ys)->tt (st i) H fun b H4=>if b=true then te (st i) H4 (cYes R P n D (st i) i) else cNo R P n D (st i) i H4)
  (hd:∀ ys H,P n ys H->H D=some (.lst ys)->Q (.ref D) H) :
  ZE J g tt te σ0 H1 Q D:=by
 refine⟨cW R P n D,⟨n,by simp[cW,r0];exact⟨_,h0,zb⟩⟩,?_⟩
 rintro i m σ' H' ⟨rfl,hi,r,ys,p,hD⟩
 by_cases hlt:i < n
 ·obtain⟨g1,g2⟩:=hj i ys H' hlt p hD
  refine .inr ⟨g1,fun x H2 y=>?_⟩
  obtain⟨rfl,rfl⟩:=g2 x H2 y
  exact hg i ys σ' H2 _ hlt r p (hs i ys H2 hlt p hD)
 ·have e:i=n:=by omega
  subst e
  exact .inl ⟨he ys H' p hD,hd ys H' p hD⟩
def wG (t:Nat) (σ0:St):St->Prop:=fun σ'=>∀ v,σ'.set t v=σ0.set t v
theorem rset0 {t:Nat} {σ0:St}:wG t σ0 σ0:=fun _=>rfl
theorem Wi {t:Nat} {σ0:St} {x:Option V}:wG t σ0 (σ0.set t x):=fun v=>by rw[List.set_set]
theorem Wj {t:Nat} {tt:TT} {te:TE} {σ0:St} {H1:Hp} {Q:VK} {D:Addr} {lo:Int} {n:Nat} (P:Nat->List V->Hp->Prop) (h0:P 0 [] (upd H1 D (.lst [])))
  (hs:∀ i ys H,i < n->P i ys H->H D=some (.lst ys)->tt (σ0.set t (some (.int (lo+i)))) H fun b H4=>if b=true then te (σ0.set t (some (.int (lo+i)))) H4 (cYes (wG t σ0) P n D (σ0.set t (some (.int (lo+i)))) i) else cNo (wG t σ0) P n D (σ0.set t (some (.int (lo+i)))) i H4)
  (hd:∀ ys H,P n ys H->H D=some (.lst ys)->Q (.ref D) H) :
  ZE (Itr lo n) (Zg t) tt te σ0 H1 Q D:=
 Zl (xv:=fun i=>.int (lo+i)) (st:=fun i=>σ0.set t (some (.int (lo+i)))) (wG t σ0) P rset0 h0 (fun i _ H hi _ _=>⟨hi,fun x H2 y=>y⟩) (fun _ _ _ _=>AG n)
  (fun i _ σ' H K _ r _ k=>by show K (σ'.set t (some (.int (lo+i)))) H;rw[r];exact k) hs hd
theorem yf {K:PySem.W.Frag} {a:Addr} {xs:List V} {t:Nat} {tt:TT} {te:TE} {σ0:St} {H1:Hp} {Q:VK} {D:Addr} (P:Nat->List V->Hp->Prop) (h0:P 0 [] (upd H1 D (.lst []))) (hl:∀ i ys H,P i ys H->H D=some (.lst ys)->SqL K H a xs)
  (hs:∀ i ys H x,xs[i]? = some x->P i ys H->H D=some (.lst ys)->tt (σ0.set t (some x)) H fun b H4=>if b=true then te (σ0.set t (some x)) H4 (cYes (wG t σ0) P xs.length D (σ0.set t (some x)) i) else cNo (wG t σ0) P xs.length D (σ0.set t (some x)) i H4)
  (hd:∀ ys H,P xs.length ys H->H D=some (.lst ys)->Q (.ref D) H) :
  ZE (Itl K a) (Zg t) tt te σ0 H1 Q D:=by
 have get:∀ i,i < xs.length->xs[i]? = some (xs.getD i .non):=fun i hi=>by simp[List.getD,hi]
 refine Zl (xv:=fun i=>xs.getD i .non) (st:=fun i=>σ0.set t (some (xs.getD i .non))) (wG t σ0) P rset0 h0 (fun i ys H hi p hD=>⟨⟨xs,_,hl i ys H p hD,get i hi⟩,fun x H2 y=>⟨y.1,?_⟩⟩) (fun ys H p hD=>⟨xs,hl _ ys H p hD,AG _⟩)
  (fun i _ σ' H K _ r _ k=>by show K (σ'.set t (some (xs.getD i .non))) H;rw[r];exact k) (fun i ys H hi p hD=>hs i ys H _ (get i hi) p hD) hd
 have e:=y.2 xs (hl i ys H p hD)
 rw[get i hi] at e
 exact (AO e).symm
theorem comp_tup {K:PySem.W.Frag} {a:Addr} {xs:List V} {t:Nat} {tt:TT} {te:TE} {σ0:St} {H1:Hp} {Q:VK} {D:Addr} (P:Nat->List V->Hp->Prop) (h0:P 0 [] (upd H1 D (.lst []))) (hl:∀ i ys H,P i ys H->H D=some (.lst ys)->SqT K H a xs)
  (hs:∀ i ys H x,xs[i]? = some x->P i ys H->H D=some (.lst ys)->tt (σ0.set t (some x)) H fun b H4=>if b=true then te (σ0.set t (some x)) H4 (cYes (wG t σ0) P xs.length D (σ0.set t (some x)) i) else cNo (wG t σ0) P xs.length D (σ0.set t (some x)) i H4)
  (hd:∀ ys H,P xs.length ys H->H D=some (.lst ys)->Q (.ref D) H) :
  ZE (Itt K a) (Zg t) tt te σ0 H1 Q D:=by
 have get:∀ i,i < xs.length->xs[i]? = some (xs.getD i .non):=fun i hi=>by simp[List.getD,hi]
 refine Zl (xv:=fun i=>xs.getD i .non) (st:=fun i=>σ0.set t (some (xs.getD i .non))) (wG t σ0) P rset0 h0 (fun i ys H hi p hD=>⟨⟨xs,_,hl i ys H p hD,get i hi⟩,fun x H2 y=>⟨y.1,?_⟩⟩) (fun ys H p hD=>⟨xs,hl _ ys H p hD,AG _⟩)
  (fun i _ σ' H K _ r _ k=>by show K (σ'.set t (some (xs.getD i .non))) H;rw[r];exact k) (fun i ys H hi p hD=>hs i ys H _ (get i hi) p hD) hd
 have e:=y.2 xs (hl i ys H p hD)
 rw[get i hi] at e
 exact (AO e).symm
theorem wH {z:Str} {t:Nat} {tt:TT} {te:TE} {σ0:St} {H1:Hp} {Q:VK} {D:Addr} (P:Nat->List V->Hp->Prop) (h0:P 0 [] (upd H1 D (.lst [])))
  (hs:∀ i ys H c,z.cps[i]? = some c->P i ys H->H D=some (.lst ys)->tt (σ0.set t (some (.str ⟨#[c]⟩))) H fun b H4=>if b=true then te (σ0.set t (some (.str ⟨#[c]⟩))) H4 (cYes (wG t σ0) P z.cps.size D (σ0.set t (some (.str ⟨#[c]⟩))) i) else cNo (wG t σ0) P z.cps.size D (σ0.set t (some (.str ⟨#[c]⟩))) i H4)
  (hd:∀ ys H,P z.cps.size ys H->H D=some (.lst ys)->Q (.ref D) H) :
  ZE (Its z) (Zg t) tt te σ0 H1 Q D:=by
 have get:∀ i,i < z.cps.size->z.cps[i]? = some (z.cps.getD i 0):=fun i hi=>by simp[Array.getD,hi]
 refine Zl (xv:=fun i=>.str ⟨#[z.cps.getD i 0]⟩) (st:=fun i=>σ0.set t (some (.str ⟨#[z.cps.getD i 0]⟩))) (wG t σ0) P rset0 h0 (fun i ys H hi p hD=>⟨hi,fun x H2 y=>⟨y.1,?_⟩⟩) (fun ys H p hD=>AG _)
  (fun i _ σ' H K _ r _ k=>by show K (σ'.set t (some (.str ⟨#[z.cps.getD i 0]⟩))) H;rw[r];exact k) (fun i ys H hi p hD=>hs i ys H _ (get i hi) p hD) hd
 obtain⟨c,e,ex⟩:=y.2
 rw[get i hi] at e
 rw[ex,<- AO e]
theorem yes {σ:St} {H:Hp} {A B:Hp->Prop} (h:A H):tYes σ H fun b H4=>if b=true then A H4 else B H4:=by
 show if true=true then A H else B H
 rw[if_pos rfl]
 exact h
section
variable {X : Cx} (K : PySem.W.Frag)
theorem zj (hK:X.K=K:=by rfl):IxR X (rIx K):=hK ▸ ix_seq
theorem jQ (hK:X.K=K:=by rfl):OpR X (compareOp .NotIn) (rIn K true):=hK ▸ Jb
theorem JU (hK:X.K=K:=by rfl):SlR X (fun x lo hi H Q=>rSlL K x lo hi H Q\/(rSlT K x lo hi H Q\/rSlS x lo hi H Q)):=hK ▸ sl_any
theorem qe (hK:X.K=K:=by rfl):qU X (.builtin "len") (fun xs H Q=>∃ x n,xs=[x]/\LenV K x H n/\Q (.int n) H):=hK ▸ call_len
theorem Qy (hK:X.K=K:=by rfl):qU X (.type "list") (fun xs H Q=>∃ p ys,xs=[.ref p]/\(SqL K H p ys\/SqT K H p ys)/\∀ l,H l=none->Q (.ref l) (upd H l (.lst ys))):=hK ▸ Jc
theorem ZZ (hK:X.K=K:=by rfl):qU X (.type "tuple") (fun xs H Q=>∃ p ys,xs=[.ref p]/\((SqL K H p ys/\∀ l,H l=none->Q (.ref l) (upd H l (.tup ys)))\/(SqT K H p ys/\Q (.ref p) H))):=hK ▸ Qv
theorem zZ (hK:X.K=K:=by rfl):qU X (.builtin "isinstance") (fun xs H Q=>∃ x n t b,xs=[x,.ty n]/\JQ K H x t/\PySem.W.kitOne K t (.type n)=some b/\Q (.bl b) H):=hK ▸ yd
theorem q5 {tg l:Expr} {tl:TE} (hl:PE X l tl) (hK:X.K=K:=by rfl):PI X tg l (iList K tl):=hK ▸ pi_list hl
theorem JV {tg l:Expr} {tl:TE} (hl:PE X l tl) (hK:X.K=K:=by rfl):PI X tg l (iTup K tl):=hK ▸ pi_tup hl
theorem ZF {o e:Expr} {es:List Expr} {to:TE} {t:TA} {name:Str} {apos cpos:Pos} {T id:String} {r:V->List V->Hp->VK->Prop} (pa:PlainAttrs T) (slot:Slot T name id) (hty:typeOf (.builtin id)=pure (.type "method_descriptor")) (hm:MtR X id r) (ho:PE X o to) (ha:PA X (e :: es) t)
  (hbase:attributeBase o name X.env (eval o X.env)=eval o X.env:=by rfl)
  (hfew:((backTo cpos (starEach (e :: es) X.env)).all (fun x=>!x.1) && (backToKw cpos (keywordEach [] X.env)).all (fun x=>x.1.isSome)
   && decide ((e :: es).length+([]:List Keyword).length+(if ([]:List Keyword).isEmpty then 0 else 1) < 30))=true:=by rfl)
  (hline:(apos.endLine == cpos.line)=true:=by rfl) (hs:starEach (e :: es) X.env=(false,eval e X.env) :: starEach es X.env:=by rfl) (hplain:(backTo cpos (starEach es X.env)).any (·.1)=false:=by rfl) (hK:X.K=K:=by rfl) :
  PE X (.Call (.Attribute o name apos) (e :: es) [] cpos) (tBM K T r to t):=hK ▸ pe_bm pa slot hty hm ho ha hbase hfew hline hs hplain
theorem kpe_bm0 {o:Expr} {to:TE} {name:Str} {apos cpos:Pos} {T id:String} {r:V->List V->Hp->VK->Prop} (pa:PlainAttrs T) (slot:Slot T name id) (hty:typeOf (.builtin id)=pure (.type "method_descriptor")) (hm:MtR X id r) (ho:PE X o to)
  (hbase:attributeBase o name X.env (eval o X.env)=eval o X.env:=by rfl) (hline:(apos.endLine == cpos.line)=true:=by rfl) (hK:X.K=K:=by rfl):PE X (.Call (.Attribute o name apos) [] [] cpos) (tBM0 K T r to):=hK ▸ pe_bm0 pa slot hty hm ho hbase hline
theorem kpg_tup {es:List Expr} {k:Nat} {pos:Pos} {t:TGs} {n:Nat} (hc:X.calm=true) (h:PGs X es t) (hn:(assignEach es X.env).length=n:=by rfl) (hst:(assignEach es X.env).findIdx? (·.1)=none:=by rfl) (hK:X.K=K:=by rfl):PG X (.Tuple es k pos) (gTup K n t):=hK ▸ pg_tup hc h hn hst
end
def Mid (i:Int):Prop:=i.natAbs < 2 ^ 8000
theorem Mid.log {i:Int} (h:Mid i):i.natAbs.log2 < 8000:=by
 rcases Nat.eq_zero_or_pos i.natAbs with z | z
 ·rw[z];decide
 ·exact (Nat.log2_lt (Bd z)).mpr h
theorem Mid.bits {i:Int} (h:Mid i):Builtin.Int.intBits i<=2 ^ 20:=by
 have:=h.log
 have e:(2:Nat) ^ 20=1048576:=by decide
 unfold Builtin.Int.intBits
 split
 ·exact Ax _
 ·omega
section
variable {X : Cx}
theorem qu:OpR X (binaryOp .Mult) (rI (fun i j=>Mid i/\Mid j) fun i j=>.int (i * j)):=opI fun _ _ _ _ _ _ _ hc q=>mul_int q (IntMulOk.of_bits hc.1.bits hc.2.bits)
theorem wI:OpR X (binaryOp .FloorDiv) (rI (fun _ j=>j ≠ 0/\Mid j) fun i j=>.int (i.fdiv j)):=opI fun _ _ _ _ _ _ _ hc q=>floordiv_int hc.1 q (.inl (PyProof.noPylong_of_log2 (Nat.lt_trans hc.2.log (by decide))))
end
theorem zV.some {P:Program} {w:World} {H:Hp} {h:Heap} {a:Addr} {o:HO} (x:zV P w H h a o):∃ ob,h.get? a=some ob:=by
 cases o with
 | lst xs=>obtain⟨_,_,_,_,e⟩:=x;exact⟨_,e⟩
 | tup xs=>obtain⟨_,_,_,o,e,_⟩:=x;exact⟨_,e⟩
 | dK kvs=>obtain⟨_,_,_,_,o,_,_,e,_⟩:=x;exact⟨_,e⟩
 | dT kvs=>obtain⟨_,_,_,_,o,_,_,e,_⟩:=x;exact⟨_,e⟩
 | set S n=>obtain⟨o,_,_,_,e,_⟩:=x;exact⟨_,e⟩
 | ins C dx fs=>obtain⟨_,_,_,e,_⟩:=x;exact⟨_,e⟩
 | own y=>exact x
 | xd fs=>obtain⟨_,⟨_,_,_,e,_⟩,_⟩:=x;exact⟨_,e⟩
 | rng lo hi=>obtain⟨_,_,_,e⟩:=x;exact⟨_,e⟩
 | frz ob u=>obtain⟨e,_⟩:=x;exact⟨_,e⟩
 | tbl ps=>exact⟨_,x⟩
 | met f y=>exact⟨_,x⟩
 | ext φ=>obtain⟨_,z,_⟩:=x;exact z
section
variable {X : Cx} {pins : List (Addr × Obj)} {σ : St} {H H' : Hp} {s s' : Shared} {h2 : Heap}
theorem Inv.left (I:Inv X pins σ H s) (hex:X.ex=[]) (k:∀ b o,s.heap.get? b=some o->b ∉ frs X.stack->((∃ u,H b=some u)\/∃ u,X.s₀.heap.get? b=some u)->h2.get? b=some o)
  (sl:∀ b o,s.heap.get? b=some o->b ∈ frs X.outer->∃ q,h2.get? b=some { o with slots:=q }):Un (frs X.outer) [] X.H₀ H X.s₀.heap h2/\HOk X.prog X.w H h2:=by
 have nx:∀ b,b ∉ X.ex:=fun b z=>by rw[hex] at z;exact absurd z (by simp)
 have neL:∀ b o,X.s₀.heap.get? b=some o->b ≠ X.env.locals:=fun b o e=>AW (AN (AI e) I.ok.above)
 have nst:∀ b,b ≠ X.env.locals->b ∉ frs X.outer->b ∉ frs X.stack:=fun b h1 h3 z=>(AZ.mp (I.stkSub b z)).elim h1 h3
 refine⟨⟨fun b o e n nf _=>?_,fun b o e n hb _=>?_,fun b o e n _=>I.base.free b o e n (nx b),fun b o e _=>?_,I.base.tups,I.base.frzs,I.base.tbls⟩,fun a o e=>?_⟩
 ·exact k b o (I.base.keep b o e n nf (nx b)) (nst b (neL b o e) nf) (.inr ⟨o,e⟩)
 ·obtain⟨q,e1⟩:=I.base.slot b o e n hb (nx b)
  obtain⟨q',e2⟩:=sl b _ e1 hb
  exact⟨q',e2⟩
 ·obtain⟨o',e1⟩:=I.base.there b o e (nx b)
  by_cases hb:b ∈ frs X.outer
  ·obtain⟨q,e2⟩:=sl b o' e1 hb
   exact⟨_,e2⟩
  ·exact⟨o',k b o' e1 (nst b (neL b o e) hb) (.inr ⟨o,e⟩)⟩
 ·refine (I.hok a o e).stay (fun b u hb q=>?_) (fun _ q=>q) fun _ _ q=>q
  have ht:∃ u,H b=some u:=by
   rcases hb with z | z
   ·exact⟨o,by rw[z];exact e⟩
   ·exact⟨_,z⟩
  refine k b u q (fun z=>?_) (.inl ht)
  obtain⟨v,hv⟩:=ht
  rw[I.stkFree b z] at hv
  cases hv
theorem Inv.cov (I:Inv X pins σ H s) (hex:X.ex=[]) {b:Addr} (h:(∃ u,H b=some u)\/∃ u,X.s₀.heap.get? b=some u):(∃ o,s.heap.get? b=some o)/\b ≠ X.env.locals:=by
 rcases h with ⟨u,e⟩ | ⟨u,e⟩
 ·refine⟨(I.hok b u e).some,fun z=>?_⟩
  rw[z,I.free] at e
  cases e
 ·exact⟨I.base.there b u e (by rw[hex];simp),AW (AN (AI e) I.ok.above)⟩
end
section
variable {P : Program} {w : World} {K : PySem.W.Frag} {mg : Str -> Option Value} {base : Heap} {N : List Str} {qual : Str} {scope : Scope} {f : Addr} {cd : Value} {A : Around} {outer : List Env} {s : Shared} {H : Hp} {E : XK}
theorem frs_mem {l:List Env}:∀ env ∈ l,∀ b,env.frame=some b->b ∈ frs l:=fun env he b hb=>Cd.mpr ⟨env,he,hb⟩
end
theorem exc_obj {K:PySem.W.Frag} {g:Heap} {C:Addr} {bmB:List Value} {newId:String} (X:K.In g) (q:PySem.W.excIn K C bmB newId=true) :
  ∃ tl N nm qn bs hd sn sub ab col dd k0 k1 k2 k3 k5 mN,g.get? C=some (excClassObj nm qn C N bs tl hd sn sub ab col dd k0 k1 k2 k3 k5 newId)/\g.Ns N mN/\mN "__init__" = none/\OwnTail g bmB tl:=by
 unfold PySem.W.excIn at q
 split at q
 ·rename_i d1 c1 l1 at1
  split at q
  ·rename_i C1 tl j0 j1 j2 j3 n1 j5 hm1 hs1
   simp only[Bool.and_eq_true,beq_iff_eq,Bool.not_eq_true'] at q
   obtain⟨⟨⟨⟨⟨r1,r2⟩,r3⟩,r4⟩,r5⟩,r6⟩:=q
   subst r1 r2
   obtain⟨nm,bs,mro,ns,qn,hd,sn,sub,ab,col,del⟩:=c1
   have hm2:mro=_:=hm1
   have r3':del=false:=r3
   subst hm2 r3'
   have sl2:l1 = #[j0,j1,j2,j3,some (.builtin n1),j5]:=by
    cases l1 with
    | mk ls=>
     have:ls=_:=hs1
     rw[this]
   subst sl2
   exact⟨tl,ns,nm,qn,bs,hd,sn,sub,ab,col,d1,j0,j1,j2,j3,j5,_,X _ _ at1,.of_isNs (PySem.W.isNs_of_in X r5),PySem.W.nsMap_none_of_in X r5 r6,PySem.W.tail_of_in X r4⟩
  ·cases q
 ·cases q
section
variable {X : Cx}
def tRaise (C:Addr) (E:XK) (t:TA):TS:=fun _ σ H=>t σ H fun vs H1=>vs.length<=sizeLine/\E (.ref C) none H1
end
section
variable {X : Cx}
end
section
variable {X : Cx} {pins : List (Addr × Obj)} {σ : St} {H : Hp} {s : Shared}
theorem Inv.adopt {e:Addr} {u:HO} (I:Inv X pins σ H s) (hn:H e=none) (h0:X.s₀.heap.get? e=none) (nL:e ≠ X.env.locals) (nC:∀ x c,X.env.cells.lookup x=some c->c ≠ e) (nP:∀ p ∈ X.pn++pins,p.1 ≠ e)
  (ok:zV X.prog X.w (upd H e u) s.heap e u):Inv X pins σ (upd H e u) s:=by
 have ne:∀ {b:Addr} {v:HO},H b=some v->b ≠ e:=fun q=>zF q hn
 refine⟨I.ok,I.os,I.bare,⟨I.base.keep,I.base.slot,fun b o q n hx=>?_,I.base.there,fun b xs q=>?_,fun b o v q=>?_,fun b ps q=>?_⟩,I.loc,I.cell,?_,fun x c q=>?_,fun p hp=>?_,fun a o q=>?_,I.len⟩
 ·have z:b ≠ e:=fun z=>by rw[z,h0] at q;cases q
  rw[zt z]
  exact I.base.free b o q n hx
 ·have q1:=I.base.tups b xs q
  rw[zt (ne q1)]
  exact q1
 ·have q1:=I.base.frzs b o v q
  rw[zt (ne q1)]
  exact q1
 ·obtain⟨more,q1⟩:=I.base.tbls b ps q
  exact⟨more,by rw[zt (ne q1)];exact q1⟩
 ·rw[zt (A3 nL)]
  exact I.free
 ·rw[zt (nC x c q)]
  exact I.freeC x c q
 ·obtain⟨p1,p2,p3⟩:=I.pin p hp
  exact⟨p1,by rw[zt (nP p hp)];exact p2,p3⟩
 ·by_cases z:a=e
  ·subst z
   rw[zb] at q
   cases q
   exact ok
  ·rw[zt z] at q
   exact (I.hok a o q).stay (fun _ _ _ r=>r) (fun c r=>by rw[zt (ne r)];exact r) fun c xs r=>by rw[zt (ne r)];exact r
theorem jR {M:Model} {A:Around} {E:Value->Shared->Prop} {i:Nat} {n:Str} {pos:Pos} {Q:Unit->Shared->Prop} (I:Inv X pins σ H s) (hN:X.N.Nodup) (hi:X.N[i]? = some n) (hk:X.env.scope.names.lookup n=some .local)
  (h:∀ s',Inv X pins (σ.set i none) H s'->Q () s'):wpAny M A (do bindName X.env n .none;unbindBehindTheSuite X.env n pos) Q E s:=by
 obtain⟨m,hn,hl⟩:=id I.loc
 have hcls:(X.env.scope.kind == .class || (X.env.scope.kind == .module && X.env.locals != X.env.globals))=false:=by rw[I.ok.kind];rfl
 have hiσ:i < σ.length:=by rw[I.len];exact (AD.mp hi).1
 refine wpAny_nameGoes_keeps hk hn hcls fun h' v hn' hs=>?_
 have old:∀ b o,X.s₀.heap.get? b=some o->b ≠ X.env.locals:=fun b o e=>AW (AN (AI e) I.ok.above)
 refine h _ ⟨I.ok,I.os,I.bare,⟨fun b o e n hb hx=>?_,fun b o e n hb hx=>?_,I.base.free,fun b o e hx=>?_,I.base.tups,I.base.frzs,I.base.tbls⟩,⟨_,hn',fun j y v' e1 e2 e3=>?_⟩,fun y c e=>?_,I.free,I.freeC,fun p hp=>?_,fun b ob e=>?_,by simpa using I.len⟩
 ·exact (hs.2 b (old b o e)).trans (I.base.keep b o e n hb hx)
 ·obtain⟨q,e1⟩:=I.base.slot b o e n hb hx
  exact⟨q,(hs.2 b (old b o e)).trans e1⟩
 ·obtain⟨o',e1⟩:=I.base.there b o e hx
  exact⟨o',(hs.2 b (old b o e)).trans e1⟩
 ·by_cases hj:j=i
  ·subst hj
   rw[CH hiσ] at e2
   cases e2
  ·rw[CU (A3 hj)] at e2
   obtain⟨u',r',q⟩:=hl j y v' e1 e2 e3
   refine⟨u',r',?_⟩
   rcases q with ⟨k,e⟩ | ⟨k,c,e,z⟩
   ·refine .inl ⟨k,?_⟩
    have ny:y ≠ n:=fun e=>hj (Qr hN e1 (e ▸ hi))
    show (if y=n then v else m y)=some u'
    rw[if_neg ny]
    exact e
   ·exact .inr ⟨k,c,e,z.sameBut hs (I.cne y c e)⟩
 ·obtain⟨w',z⟩:=I.cell y c e
  exact⟨w',z.sameBut hs (I.cne y c e)⟩
 ·obtain⟨p1,p2,p3,p4⟩:=I.pin p hp
  exact⟨(hs.2 p.1 p3).trans p1,p2,p3,p4⟩
 ·refine (I.hok b ob e).stay (fun c w' hc q=>(hs.2 c ?_).trans q) (fun _ q=>q) fun _ _ q=>q
  rintro rfl
  rcases hc with rfl | hc
  ·rw[I.free] at e;cases e
  ·rw[I.free] at hc;cases hc
end
section
variable {X : Cx} {pins : List (Addr × Obj)} {R : Value -> St -> Hp -> Prop} {e : Value} {s' : Shared}
end
def Cx.inEx (X:Cx) (ea:Addr):Cx:={ X with A:=X.A.mark (some (.ref ea)),calm:=false,xe:=fun _ _=>False }
section
variable {X : Cx} {pins : List (Addr × Obj)} {σ : St} {H : Hp} {s : Shared} {ea : Addr}
theorem Inv.inEx (I:Inv X pins σ H s) (ea:Addr):Inv (X.inEx ea) pins σ H s:=⟨⟨I.ok.mod,I.ok.kind,I.ok.glob,I.ok.blt,I.ok.above,I.ok.inj,I.ok.has,I.ok.cab,fun z=>absurd (show false=true from z) (by simp),I.ok.frames,I.ok.stk,I.ok.exf,I.ok.bs,I.ok.bsz,I.ok.noex,I.ok.exfs,I.ok.funs,I.ok.frf⟩,
 I.os,I.bare,I.base,I.loc,I.cell,I.free,I.freeC,I.pin,I.hok,I.len⟩
theorem Inv.outEx (ok:X.Ok) (I:Inv (X.inEx ea) pins σ H s):Inv X pins σ H s:=⟨ok,I.os,I.bare,I.base,I.loc,I.cell,I.free,I.freeC,I.pin,I.hok,I.len⟩
def JK.drop (D:JK) (i:Nat):JK:={ nx:=fun σ H=>D.nx (σ.set i none) H,rt:=D.rt,bk:=fun σ H=>D.bk (σ.set i none) H,ct:=fun σ H=>D.ct (σ.set i none) H }
theorem wJ {M:Model} {h:Heap} {ea:Addr} {cls:Value} (z:∃ oe vs,h.get? ea=some oe/\oe.cls=cls/\oe.data=.fields vs):PySem.W.Looks M h (typeOf (.ref ea)) cls:=by
 obtain⟨oe,vs,a,b,_⟩:=z
 subst b
 exact (PySem.W.Looks.ld a).andThen .now
end
section
variable {X : Cx} {k k' : Nat} {x : Str} {ps : List Str} {sp : Sp} {e : Expr} {es : List Expr} {t : TA} {p pos : Pos}
end
section
variable {P : Program} {w : World} {K : PySem.W.Frag} {mg : Str -> Option Value} {base : Heap}
end
def c2 (o:Obj):Option Value:=match o.data with
 | .fields vs=>vs[2]?
 | _=>none
inductive ND {α:Type}:Sem α->Prop
 | pure (a:α):ND (.pure a)
 | raise (x:Value):ND (.raise x)
 | uns (w:String):ND (.unsupported w)
 | rule {t:String} {k:Unit->Sem α}:(∀ u,ND (k u))->ND (.rule t k)
 | load {a:Addr} {pt:Option Value} {k:Obj->Sem α}:(∀ o d,k { o with dict:=d } = k o)->(∀ o,ND (k o))->ND (.load a pt k)
 | update {a:Addr} {pt:Option Value} {f:Obj->Obj} {k:Unit->Sem α}:(∀ o d,f { o with dict:=d } = { f o with dict:=d })->(∀ o,c2 (f o)=c2 o)->(∀ u,ND (k u))->ND (.update a pt f k)
 | alloc {o:Obj} {k:Addr->Sem α}:(∀ a,ND (k a))->ND (.alloc o k)
 | point {l:List Value} {k:Unit->Sem α}:(∀ u,ND (k u))->ND (.point l k)
 | stack {k:List (Code×Pos)->Sem α}:(∀ u,ND (k u))->ND (.stack k)
theorem ND.bind {α β:Type} {t:Sem α} {f:α->Sem β} (h:ND t) (hf:∀ a,ND (f a)):ND (t >>= f):=by
 induction h with
 | pure a=>exact hf a
 | raise x=>exact .raise x
 | uns w=>exact .uns w
 | rule _ ih=>exact .rule ih
 | load b _ ih=>exact .load (fun o d=>BB (fun t=>t >>= f) (b o d)) ih
 | update b c _ ih=>exact .update b c ih
 | alloc _ ih=>exact .alloc ih
 | point _ ih=>exact .point ih
 | stack _ ih=>exact .stack ih
theorem JW {α:Type} {a:Addr} {f:Obj->Sem α} (b:∀ o d,f { o with dict:=d } = f o) (h:∀ o,ND (f o)):ND (load a >>= f):=.load b h
theorem yg {a:Addr} {f:Obj->Obj} (b:∀ o d,f { o with dict:=d } = { f o with dict:=d }) (c:∀ o,c2 (f o)=c2 o):ND (update a f):=.update b c fun _=>.pure _
theorem JX (v:Value):ND (fieldsOf v):=by
 unfold fieldsOf
 split
 ·refine JW (fun o d=>rfl) fun o=>?_
  split
  ·exact .pure _
  ·exact .uns _
 ·exact .uns _
theorem Zm (v:Value) (i:Nat):ND (field v i):=by
 refine (JX v).bind fun o=>?_
 split
 ·exact .pure _
 ·exact .uns _
theorem Jh (f:Array Value->Array Value) (o:Obj) (d:Option Addr):Obj.mapFields f { o with dict:=d } = { Obj.mapFields f o with dict:=d }:=by
 obtain⟨c,dd,dt,sl⟩:=o
 cases dt <;> rfl
theorem c2_set (i:Nat) (hi:i ≠ 2) (x:Value) (o:Obj):c2 (Obj.mapFields (·.set! i x) o)=c2 o:=by
 obtain⟨c,dd,dt,sl⟩:=o
 cases dt with
 | fields vs=>
  show (vs.set! i x)[2]? = vs[2]?
  simp[hi]
 | _=>rfl
theorem jB (v:Value) (i:Nat) (x:Value) (hi:i ≠ 2):ND (setField v i x):=by
 unfold setField
 split
 ·unfold updateField
  refine JW (fun o d=>rfl) fun o=>?_
  split
  ·split
   ·exact yg (fun o d=>Jh _ o d) fun o=>c2_set i hi x o
   ·exact .uns _
  ·exact .uns _
 ·exact .uns _
theorem Ji (ty:String) (vs:List Value):ND (newFields ty vs):=by
 unfold newFields newObj
 dsimp only
 split
 ·exact ND.bind (.uns _) fun _=>.alloc fun _=>.pure _
 ·exact .alloc fun _=>.pure _
theorem yh (env:Env) (outer:List Env):ND (behindIsImport env outer):=by
 unfold behindIsImport
 split
 ·exact .pure _
 ·split
  ·exact .pure _
  ·exact (Zm _ _).bind fun _=>.pure _
theorem Qz {α:Type} {f:List (Code×Pos)->Sem α} (h:∀ u,ND (f u)):ND (stack >>= f):=.stack h
theorem nd_back (env:Env) (b:Bool) (outer:List Env):ND (keptBack env b outer):=by
 unfold keptBack
 split
 ·split
  ·exact .pure _
  ·exact ND.bind (Qz fun _=>.pure _) fun _=>.pure _
 ·exact .pure _
theorem wK:∀ l:List Env,ND (readyFrames l)
 | []=>by rw[readyFrames.eq_def];exact .pure _
 | env :: outer=>by
  rw[readyFrames.eq_def]
  dsimp only
  split
  ·refine JW (fun o d=>rfl) fun o=>?_
   split
   ·exact .pure _
   ·exact (yh env outer).bind fun b=>(nd_back env b outer).bind fun v=>ND.bind (t:=update _ _) (.update (fun o d=>rfl) (fun o=>rfl) fun _=>.pure _) fun _=>wK outer
  ·exact .uns _
theorem Wk (env:Env):ND (PySem.frameOf env):=by
 unfold PySem.frameOf
 refine ND.bind (Qz fun _=>.pure _) fun l=>ND.bind ?_ fun o=>?_
 ·unfold frameObject
  split
  ·exact .pure _
  ·exact (wK _).bind fun _=>.pure _
 ·split
  ·exact .pure _
  ·exact .uns _
theorem nd_place (f:Addr) (b:Bool):ND (entryPlaceOf f b):=by
 refine Qz fun acts=>?_
 split
 ·exact .pure _
 ·exact .pure _
theorem yi (e:Value) (env:Env):ND (noteFrame e env):=by
 unfold noteFrame
 split
 ·refine (Zm e 1).bind fun head=>?_
  dsimp only
  have rest:∀ f:Addr,ND (do
   let a <- PySem.frameOf env
   let b <- entryPlaceOf f (head != Value.none)
   let c <- EntryCells.newEntry head a Value.none (rawInt ↑f) Value.none b
   setField e 1 c):=fun f=>(Wk env).bind fun a=>(nd_place f _).bind fun b=>(Ji _ _).bind fun c=>jB _ _ _ (by decide)
  split
  ·refine (Zm head 3).bind fun x=>?_
   split
   ·exact .pure _
   ·exact (jB _ _ _ (by decide)).bind fun _=>rest _
  ·exact rest _
 ·exact .uns _
theorem ZG (e:Value) (f:Option Addr):ND (setFlight e f):=by
 refine (Zm e 1).bind fun tb=>?_
 split
 ·exact jB _ _ _ (by decide)
 ·exact .pure _
theorem Qj (env:Env) (e:Value):ND (leaving env e):=(yi e env).bind fun _=>ZG e none
section
variable {prog : Program} {w : World} {A : Around} {E : Value -> Shared -> Prop} {h : Heap} {g : Array GenState} {d : Drawn} {t : Nat} {os : OsState} {nm q : Str} {C N : Addr} {bs bm bmB bmN : List Value} {hdct : Bool} {sn : List Str} {sub : List Value} {ab : Bool} {col : Option Bool} {dd : Option Addr} {k0 k1 k2 k3 k5 : Option Value} {B Bn newId nid initId inN : String} {mN : Str -> Option Value}
theorem Z0 {rest:List Value} {fI:Addr} {oI:Obj} {Q:PySem.Fin->Shared->Prop} (Fn:ExcBaseFacts Bn newId inN bmN) (hBn:bmB.contains (.type Bn)=true) (FB:ExcBaseFacts B nid initId bmB) (T:OwnTail h bmB bm)
  (hC:h.get? C=some (excClassObj nm q C N bs bm hdct sn sub ab col dd k0 k1 k2 k3 k5 newId)) (hi:W.Looks (model prog w) h (typeLookup (.ref C) (Str.ofString "__init__")) (some (.ref fI))) (hf:h.get? fI=some oI) (hfc:oI.cls=.type "function") (hl:rest.length<=sizeLine)
  (k:∀ h' e,h.MadeExcOf h' e (.ref C) rest->wpAny (model prog w) A (call (.ref fI) (.ref e :: rest)) (fun r s'=>r=.none/\Q (.done (.ret (.ref e))) s') E ⟨h',g,d,t,os⟩) :
  wpAny (model prog w) A (Builtin.«type.__call__» ⟨.ref C :: rest,[]⟩) Q E ⟨h,g,d,t,os⟩:=by
 refine AA (m:=mroOf (.ref C)) (wpAny_mroOf_exc hC ?_)
 refine AA (m:=Bind.madeBy (.ref C)) (wpAny_madeBy_exc hC ?_)
 refine AA (m:=call (Value.builtin newId) (Value.ref C :: rest) []) (BW (codeAny_call_builtin_code ?_ ?_))
 ·exact Cq _ Fn.quiet
 ·refine wpAny_check_new_subU Fn hBn T hC ?_
  refine codeAny_exc_new_subU Fn hBn FB T hC ?_ hl
  have mk:h.MadeExcOf ((h.push { cls:=.type "tuple",data:=.seq rest.toArray }).push { cls:=.ref C,data:=.fields #[.ref h.objs.size,.none,.none,.none,.bool false,.none] }) (h.objs.size+1) (.ref C) rest:=
   ⟨fun b o e=>AC _ (AC _ e),BI (CT _),_,by rw[show h.objs.size+1=(h.push { cls:=.type "tuple",data:=.seq rest.toArray }).objs.size by rw[CB]];exact AM _ rfl,BI (AG _),AC _ (AM _ rfl)⟩
  have k':=k _ _ mk
  have hK:=mk.keeps
  have he:=mk.there
  generalize ((h.push { cls:=.type "tuple",data:=.seq rest.toArray }).push { cls:=.ref C,data:=.fields #[.ref h.objs.size,.none,.none,.none,.bool false,.none] })=h' at *
  generalize h.objs.size+1=e at *
  obtain⟨tt,he,_⟩:=he
  dsimp only
  refine AA (m:=isInstance (.ref e) (.ref C)) ?_
  unfold isInstance
  refine AA (Au he (Bz (hK _ _ hC) ?_))
  rw[if_neg (by simp)]
  refine AA (Aw ?_)
  unfold callSpecial? specialOf
  refine AA (AA (Au he ?_))
  refine hi _ _ _ _ hK ?_
  dsimp only
  refine Aw (AA (wpAny_bindSpecial_def (hK _ _ hf) hfc ?_))
  refine AA (A4 k' (fun r s' ⟨hr,hq⟩=>?_) fun _ _ z=>z)
  subst hr
  exact AB (AB hq)
theorem yj {rest:List Value} {fI:Addr} {oI:Obj} {Q:Value->Shared->Prop} (Fn:ExcBaseFacts Bn newId inN bmN) (hBn:bmB.contains (.type Bn)=true) (FB:ExcBaseFacts B nid initId bmB) (T:OwnTail h bmB bm)
  (hC:h.get? C=some (excClassObj nm q C N bs bm hdct sn sub ab col dd k0 k1 k2 k3 k5 newId)) (hi:W.Looks (model prog w) h (typeLookup (.ref C) (Str.ofString "__init__")) (some (.ref fI))) (hf:h.get? fI=some oI) (hfc:oI.cls=.type "function") (hl:rest.length<=sizeLine)
  (k:∀ h' e,h.MadeExcOf h' e (.ref C) rest->wpAny (model prog w) (A.under (.builtin "type.__call__" ⟨.ref C :: rest,[]⟩)) (call (.ref fI) (.ref e :: rest)) (fun r s'=>r=.none/\Q (.ref e) s') E ⟨h',g,d,t,os⟩) :
  wpAny (model prog w) A (call (.ref C) rest) Q E ⟨h,g,d,t,os⟩:=by
 have hT:Shared.TypeIs ⟨h,g,d,t,os⟩ (.ref C) "type":=⟨_,hC,rfl⟩
 refine BW (codeAny_of_tree ?_)
 refine AA (m:=load C) (wpAny_load' hC ?_)
 refine AA (m:=specialOf (.ref C) (Str.ofString "__call__")) (BM hT tc_lookup ?_)
 refine AA (Av (tc_bind _) ?_)
 refine AA (AB (wpAny_ite_true rfl (AB ⟨rfl,codeAny_call_builtin_at (Cq _ (by decide +kernel)) entry_typeCall (wpAny_check_type_call_sub hC (Z0 Fn hBn FB T hC hi hf hfc hl fun h' e hm=>k h' e hm))⟩)))
theorem Wl {M:Model} {env:Env} {d0:Option Addr} {s:Shared} {e tt:Addr} {Q:Flow->Shared->Prop} (hb:bm.contains (.type "BaseException")=true) (hh:A.handled=none)
  (hC:s.heap.get? C=some (excClassObj nm q C N bs bm hdct sn sub ab col dd k0 k1 k2 k3 k5 newId)) (he:s.heap.get? e=some { cls:=.ref C,dict:=d0,data:=.fields #[.ref tt,.none,.none,.none,.bool false,.none] }) (k:E (.ref e) s) :
  wpAny M A (raiseStmt env (some (pure (.ref e))) none) Q E s:=by
 obtain⟨h,g,d,t,os⟩:=s
 refine AA (AB (AA (AB (AA (Aw ?_)))))
 have ty:∀ {Q:Bool->Shared->Prop},Q false ⟨h,g,d,t,os⟩->wpAny M A (isType (.ref e)) Q E ⟨h,g,d,t,os⟩:=fun hq=>AA (m:=loadHead e) (CI he (AB hq))
 have cB:(Value.ref C :: bm).contains (.type "BaseException")=true:=by
  rw[Bv,hb,Ci]
 refine AA (m:=isExcClass (.ref e)) (AA (m:=isType (.ref e)) (ty (AB ?_)))
 refine AA (m:=isInstance (.ref e) (.type "BaseException")) (AA (Au he (Bz hC ?_)))
 rw[cB]
 refine AB ?_
 refine AA (m:=isType (.ref e)) (ty ?_)
 refine AA (m:=raisedInstance (.ref e)) (AA (Au he (AA (Au hC (AB ?_)))))
 refine AA (m:=setFlight (.ref e) none) (AA (m:=field (.ref e) 1) (A2 he rfl (x:=.none) rfl (AB ?_)))
 refine AA (m:=handled) (wpAny_handled ?_)
 rw[hh]
 exact wpAny_throw k
def jh (C:Addr) (d0:Option Addr) (t0:Addr):Obj:={ cls:=.ref C,dict:=d0,data:=.fields #[.ref t0,.none,.none,.none,.bool false,.none] }
theorem yk {e t0:Addr} {v:Value} {Q:Value->Shared->Prop} (FB:ExcBaseFacts B nid initId bmB) (T:OwnTail h bmB bm) (hC:h.get? C=some (excClassObj nm q C N bs bm hdct sn sub ab col dd k0 k1 k2 k3 k5 newId)) (he:h.get? e=some (jh C none t0))
  (k:∀ h' t1,h.get? t1=none->h'.get? t1=some { cls:=.type "tuple",data:=.seq #[v] }->h'.get? e=some (jh C none t1)->(∀ b o,b ≠ e->h.get? b=some o->h'.get? b=some o)->Q .none ⟨h',g,d,t,os⟩) :
  wpAny (model prog w) A (call (.builtin initId) [.ref e,v]) Q E ⟨h,g,d,t,os⟩:=by
 refine BW (BX FB.init.plain FB.initEntry (wpAny_check_init_subU FB T hC he rfl ?_))
 refine AA (m:=newTuple [v]) (wpAny_newTuple ?_ (by show 1<=sizeLine;decide))
 have he1:(h.push { cls:=.type "tuple",data:=.seq #[v] }).get? e=some (jh C none t0):=AC _ he
 refine AA (m:=Builtin.BaseException.bexcPut (.ref e) 0 (.ref h.objs.size)) (AA (m:=field (.ref e) 0) (A2 he1 rfl (x:=.ref t0) rfl ?_))
 refine AA (m:=setField (.ref e) 0 (.ref h.objs.size)) (wpAny_setField_rec he1 (by show 0 < 6;decide) fun h2 e2 sb=>?_)
 refine wpAny_letGo (AB ?_)
 refine k h2 h.objs.size (BI (AG _)) ?_ e2 fun b o nb hb=>?_
 ·exact (sb.2 _ (Bd (AI he))).trans (AM _ rfl)
 ·exact (sb.2 b nb).trans (AC _ hb)
theorem JY {self:Value} {what:Str} (T:OwnTail h bmB bm):refuseLoop self what bm=refuseLoop self what bmB:=by
 induction T with
 | base=>rfl
 | own _ _ _ _ ih=>rw[refuseLoop_ref,ih]
theorem QA {v:Value} (T:OwnTail h bmB bm) (hb:bmB.contains v=true):bm.contains v=true:=by
 induction T with
 | base=>exact hb
 | own _ _ _ _ ih=>rw[Bv,ih,Ci]
theorem set_exc {e t0:Addr} {v:Value} {name:Str} {sa owner:String} {Q:Unit->Shared->Prop} (FS:StoreFacts B bmB sa owner) (T:OwnTail h bmB bm) (hC:h.get? C=some (excClassObj nm q C N bs bm true sn sub ab col dd k0 k1 k2 k3 k5 newId))
  (l1:W.Looks (model prog w) h (typeLookup (.ref C) (Str.ofString "__setattr__")) (some (.builtin sa))) (l2:W.Looks (model prog w) h (typeLookup (.ref C) name) none) (he:h.get? e=some (jh C none t0))
  (k:∀ h' D tk,h.get? D=none->D ≠ e->h'.Ns1 D (fun x=>if x=name then some v else none)->h'.get? e=some (jh C (some D) t0)->(∀ b o,b ≠ e->h.get? b=some o->h'.get? b=some o)->Q () ⟨h',g,d,tk,os⟩) :
  wpAny (model prog w) A (setAttr (.ref e) name v) Q E ⟨h,g,d,t,os⟩:=by
 unfold setAttr
 refine AA (wpAny_mkText (AA ?_))
 unfold callSpecial? specialOf
 refine AA (AA (Au he ?_))
 refine l1 _ _ _ _ (fun _ _ z=>z) ?_
 dsimp only
 refine Aw (AA (Av (FS.slot.bind _) ?_))
 dsimp only
 refine AA (BW (BX FS.slot.plain FS.entry ?_))
 refine W.check_slot FS.kind FS.split ?_ (FS.args _ _ _) ?_
 ·intro A' Q' E' s' kp hq
  refine AA (Au (kp _ _ he) ?_)
  obtain⟨h2,g2,d2,t2,os2⟩:=s'
  refine Bz (kp _ _ hC) ?_
  rw[Bv,QA T FS.hasOwner,Ci]
  exact hq
 show wpAny _ _ (Builtin.«object.__setattr__» { pos:=[Value.ref e,Value.str name t,v] }) _ _ _
 rw[W.osa_eq,refuse_eq]
 refine AA (AA (Au he (AA (wpAny_mroOf_exc hC ?_))))
 rw[refuseLoop_ref,JY T,FS.passes]
 refine AB (AA (Au he (AA (l2 _ _ _ _ (fun _ _ z=>z) (AA (AB ?_))))))
 show wpAny _ _ (Builtin.ObjectAttr.storeInOwnDict (Value.ref e) (.ref C) (Value.str name t) name v false) _ _ _
 unfold Builtin.ObjectAttr.storeInOwnDict
 refine AA (m:=ownStreamTells (.ref e) (.ref C)) (AB ?_)
 refine AA (m:=instanceDict e true) ?_
 unfold instanceDict
 refine AA (CI he ?_)
 refine AA (m:=classData C) (AA (m:=load C) (wpAny_load' hC (AB ?_)))
 have n0:h.get? h.objs.size=none:=BI (AG _)
 have ne:h.objs.size ≠ e:=Bd (AI he)
 have he1:(h.push { cls:=.type "dict",data:=.dict #[] }).get? e=some (jh C none t0):=AC _ he
 refine AA (m:=alloc _) (wpAny_alloc' ?_)
 refine AA (m:=update e _) (wpAny_update' he1 ?_)
 refine AB ?_
 have a1:((h.push { cls:=.type "dict",data:=.dict #[] }).update e fun o=>{ o with dict:=some h.objs.size }).get? e=some (jh C (some h.objs.size) t0):=A7 _ he1 rfl
 have a2:((h.push { cls:=.type "dict",data:=.dict #[] }).update e fun o=>{ o with dict:=some h.objs.size }).get? h.objs.size=some { cls:=.type "dict",data:=.dict #[] }:=(B2 _ _ _ _ ne).trans (AM _ rfl)
 have a3:∀ b o,b ≠ e->h.get? b=some o->((h.push { cls:=.type "dict",data:=.dict #[] }).update e fun o=>{ o with dict:=some h.objs.size }).get? b=some o:=fun b o nb hb=>(B2 _ _ _ _ nb).trans (AC _ hb)
 generalize ((h.push { cls:=.type "dict",data:=.dict #[] }).update e fun o=>{ o with dict:=some h.objs.size })=h2 at *
 generalize h.objs.size=D at *
 refine AA (m:=Builtin.ObjectAttr.newKeyGuard D name (.str name t)) (AB ?_)
 have ns0:h2.Ns1 D fun _=>none:=Heap.Ns1.of_empty ⟨_,#[],_,a2,rfl,(fun x hx=>by simp at hx),fun _=>rfl⟩
 refine AA (m:=nsSet D name v) (wpAny_nsSet1 ns0 fun h3 n3 sb=>?_)
 obtain⟨o3,es3,ep3,b1,b2,b3⟩:=n3.count (ns:=[name]) (PySem.Within.cons _ _ PySem.Within.nil)
 refine AA (m:=lookBehind D _) (wpAny_lookBehind b1 (by rw[b2];exact pastItsLine_dict (Ab b3 (by show 1<=sizeLine+1;decide))) ?_)
 refine AB (AB (AB ?_))
 exact k h3 D _ n0 ne n3 ((sb.2 e (A3 ne)).trans a1) fun b o nb hb=>(sb.2 b (fun z=>by rw[z,n0] at hb;cases hb)).trans (a3 b o nb hb)
theorem get_exc {e D:Addr} {oe:Obj} {vs:Array Value} {v:Value} {name:Str} {expr:Bool} {mA:Str->Option Value} {Q:Value->Shared->Prop} (FA:ExcAttrBase B bmB) (T:OwnTail h bmB bm) (hC:h.get? C=some (excClassObj nm q C N bs bm true sn sub ab col dd k0 k1 k2 k3 k5 newId))
  (l1:W.Looks (model prog w) h (typeLookup (.ref C) (Str.ofString "__getattribute__")) (some (.builtin "BaseException.__getattribute__"))) (l2:W.Looks (model prog w) h (typeLookup (.ref C) (Str.ofString "__getattr__")) none) (l3:W.Looks (model prog w) h (typeLookup (.ref C) name) none)
  (he:h.get? e=some oe) (hc:oe.cls=.ref C) (hf:oe.data=.fields vs) (hd:oe.dict=some D) (hD:h.Ns D mA) (hv:mA name=some v) (ho:handedOut v=pure v) (k:Q v ⟨h,g,d,t+1,os⟩) :
  wpAny (model prog w) A (getAttr (.ref e) name expr) Q E ⟨h,g,d,t,os⟩:=by
 have ty:∀ {M:Model} {A:Around} {E:Value->Shared->Prop} {Q:Value->Shared->Prop} {t':Nat},Q (.ref C) ⟨h,g,d,t',os⟩->wpAny M A (typeOf (.ref e)) Q E ⟨h,g,d,t',os⟩:=fun hq=>Au he (by rw[hc];exact hq)
 unfold getAttr getAttrBy
 refine AA (wpAny_mkText (Aw (AA (ty (AA ?_)))))
 refine l1 _ _ _ _ (fun _ _ z=>z) ?_
 dsimp only
 rw[if_neg (show ¬ ((onTheHeap (Value.ref C) && Value.builtin "BaseException.__getattribute__" == Value.builtin "object.__getattribute__")=true) from by rw[show (Value.builtin "BaseException.__getattribute__" == Value.builtin "object.__getattribute__")=false by decide,Bool.and_false];exact AK)]
 unfold getAttrByItsOwn hookBefore
 refine AA (m:=typeLookup (.ref C) (Str.ofString "__getattr__")) (l2 _ _ _ _ (fun _ _ z=>z) ?_)
 refine AA (BQ (Aw ?_))
 unfold callGetattribute
 rw[if_neg (by simp[onTheHeap])]
 unfold boundAndCalled
 refine AA (Av (FA.ga.bind _) ?_)
 refine BW (BX FA.ga.plain F.entry_bexc_ga ?_)
 refine W.check_slot (owner := "BaseException") (n := "__getattribute__") ?_ ?_ ?_ ?_ ?_
 ·decide +kernel
 ·decide +kernel
 ·intro A' Q' E' s' kp hq
  refine AA (Au (kp _ _ he) ?_)
  obtain⟨h2,g2,d2,t2,os2⟩:=s'
  rw[hc]
  refine Bz (kp _ _ hC) ?_
  rw[Bv,QA T FA.hasBase,Ci]
  exact hq
 ·exact F.args_bexc_ga _ _
 refine AA (m:=slotArgs "__getattribute__" 1 { pos:=[Value.ref e,Value.str name t] }) (AB ?_)
 refine AA (m:=Builtin.ObjectAttr.attrName (.str name t)) (AB (AA (ty ?_)))
 refine AA (m:=Builtin.ObjectAttr.find (.ref e) (.ref C) name) (AA (m:=typeLookup (.ref C) name) (l3 _ _ _ _ (fun _ _ z=>z) ?_))
 refine AA (m:=Builtin.ObjectAttr.getOf none) (AB (AA (m:=Builtin.ObjectAttr.dataDescriptor? none none) (AB ?_)))
 refine AA (m:=Builtin.ObjectAttr.inOwnDict name (.ref e)) (AA (m:=Builtin.ObjectAttr.ownDict e) ?_)
 refine AA (m:=loadHead e) (CI he ?_)
 rw[hf]
 show wpAny _ _ (instanceDict e false) _ _ _
 unfold instanceDict
 refine AA (CI he ?_)
 rw[hc]
 refine AA (m:=classData C) (AA (m:=load C) (wpAny_load' hC (AB ?_)))
 dsimp only
 rw[hd]
 refine AB (wpAny_nsGet hD ?_)
 rw[hv]
 refine AA (m:=rule _) (Bq (AB (AB ?_)))
 show wpAny _ _ (handedOut v) _ _ _
 rw[ho]
 exact AB k
end
def Qk (e:Addr) (d:Option Addr) (h:Heap):Prop:=e < h.objs.size/\∀ o,h.get? e=some o->o.dict=d/\c2 o=some .none
theorem ym {h:Heap} {a:Addr} {o:Obj} (e:h.get? a=some o):h.objs[a]? = some o:=by
 obtain⟨objs,l⟩:=h
 have e':(match objs[a]? with | some { data:=Data.freed,.. }=>none | o=>o)=some o:=e
 show objs[a]? = some o
 cases z:objs[a]? with
 | none=>rw[z] at e';cases e'
 | some u=>
  rw[z] at e'
  obtain⟨c,dd,dt,sl⟩:=u
  cases dt <;> first | exact e' | cases e'
theorem wp_kd {α:Type} {M:Model} {Γ:PySem.Ctx} {t:Sem α} {e:Addr} {d:Option Addr} (h:ND t):∀ {Q:α->Pos->Shared->Prop} {E:Value->Pos->Shared->Prop} {p:Pos} {s:Shared},Qk e d s.heap->Sem.wp M Γ t Q E p s ->
  Sem.wp M Γ t (fun a p' s'=>Q a p' s'/\Qk e d s'.heap) E p s:=by
 induction h with
 | pure a=>intro Q E p s k h;exact⟨h,k⟩
 | raise x=>intro Q E p s k h;exact h
 | uns w=>intro Q E p s k h;exact h.elim
 | rule _ ih=>intro Q E p s k h;exact ih () k h
 | @load a pt f b _ ih=>
  intro Q E p s k h
  obtain⟨o,ho,h⟩:=h
  exact⟨o,ho,ih o k h⟩
 | @update a pt f g b c _ ih=>
  intro Q E p s k h
  refine⟨h.1,ih () ⟨?_,fun o' ho'=>?_⟩ h.2⟩
  ·show e < (s.heap.update a f).objs.size
   unfold Heap.update
   rw[Array.size_modify]
   exact k.1
  ·have r:(s.heap.objs.modify a f)[e]? = some o':=ym (h:=s.heap.update a f) ho'
   rw[Array.getElem?_modify] at r
   by_cases z:a=e
   ·obtain⟨o,ho⟩:=B5.mp h.1
    rw[if_pos z,<- z,ym ho] at r
    have r':f o=o':=AO r
    have fd:=BB Obj.dict (b o o.dict)
    rw[<- r']
    have k2:=k.2 o (by rw[<- z];exact ho)
    exact⟨fd.trans k2.1,(c o).trans k2.2⟩
   ·rw[if_neg z] at r
    have ne:(s.heap.update a f).get? e=s.heap.get? e:=B2 _ _ _ _ (A3 z)
    exact k.2 o' (ne.symm.trans ho')
 | @alloc o f _ ih=>
  intro Q E p s k h
  refine ih _ ⟨?_,fun o' ho'=>?_⟩ h
  ·show e < (s.heap.push o).objs.size
   rw[CB]
   exact Be k.1
  ·refine k.2 o' ?_
   have ne:(s.heap.push o).get? e=s.heap.get? e:=Heap.get?_push_ne _ _ _ (AW k.1)
   exact ne.symm.trans ho'
 | point _ ih=>intro Q E p s k h;exact ih () k h
 | stack _ ih=>intro Q E p s k h;exact ih _ k h
theorem jS {α:Type} {M:Model} {A:Around} {t:Sem α} {e:Addr} {d:Option Addr} {Q:α->Shared->Prop} {E:Value->Shared->Prop} {s:Shared} (h:ND t) (hd:Qk e d s.heap) (k:wpAny M A t (fun a s'=>Qk e d s'.heap->Q a s') E s) :
  wpAny M A t Q E s:=fun Γ p hΓ=>Sem.wp_mono M Γ t (fun a p' s' x=>x.1 x.2) (fun _ _ _ z=>z) p s (wp_kd h hd (k Γ p hΓ))
structure FlyD (l:List Env) (H':Hp) (old:Heap) (e:Addr) (cls:Value) (d:Option Addr) (h:Heap):Prop where
 ex:∃ B a0,Heap.FlyingW B l e cls a0 h/\∀ b o,h.get? b=some o->b ∉ frs l->((∃ u,H' b=some u)\/∃ u,old.get? b=some u)->B.get? b=some o
 new:H' e=none
 nold:old.get? e=none
 dct:Qk e d h
def CXD (P:Program) (w:World):CXT:=fun outer H s E e s'=>∃ (ea:Addr) (cls:Value) (d:Option Addr) (H':Hp),e=.ref ea/\s'.os=s.os/\AllBare s'.gens/\Un (frs outer) [] H H' s.heap s'.heap/\HOk P w H' s'.heap/\FlyD outer H' s.heap ea cls d s'.heap/\E cls d H'
def QB (X:Cx) (E:XK):Prop:=∀ (pins:List (Addr×Obj)) (σ:St) (H:Hp) (s:Shared) (e:Addr) (oe:Obj) (vs:Array Value) (a0:Value),Inv X pins σ H s->H e=none->X.s₀.heap.get? e=none->s.heap.get? e=some oe->oe.data=.fields vs->vs[1]? = some .none->vs[0]? = some a0->vs[2]? = some .none->E oe.cls oe.dict H->X.xe (.ref e) s
section
variable {P : Program} {w : World} {K : PySem.W.Frag} {mg : Str -> Option Value} {base : Heap} {N : List Str} {qual : Str} {scope : Scope} {f : Addr} {cd : Value} {A : Around} {outer : List Env} {s : Shared} {H : Hp} {E : XK}
theorem ZH:QB (WC (CXD P w) P w K mg base N qual scope f cd A outer s H E) E:=by
 intro pins σ H1 s1 e oe vs a0 I hn h0 he hdt hv1 hv0 hv2 q
 have hex:(WC (CXD P w) P w K mg base N qual scope f cd A outer s H E).ex=[]:=rfl
 have hst:(WC (CXD P w) P w K mg base N qual scope f cd A outer s H E).stack=envOfC qual scope s.heap.objs.size f cd :: outer:=rfl
 have ne:∀ b,b ∈ frs (envOfC qual scope s.heap.objs.size f cd :: outer)->b ≠ e:=fun b hb z=>by
  obtain⟨_,o2,e2,nf⟩:=I.stack.mem hb
  rw[z,he] at e2
  cases e2
  exact nf vs hdt
 have fin:∀ b o,s1.heap.get? b=some o->b ∉ e :: frs (envOfC qual scope s.heap.objs.size f cd :: outer)->(PySem.W.hideAll s1.heap (e :: frs (envOfC qual scope s.heap.objs.size f cd :: outer))).get? b=some o:=fun b o e1 nb=>PySem.W.hideAll_get _ e1 nb
 have neT:∀ b,((∃ u,H1 b=some u)\/∃ u,s.heap.get? b=some u)->b ≠ e:=fun b hb z=>by
  rcases hb with ⟨u,hu⟩ | ⟨u,hu⟩
  ·rw[z,hn] at hu;cases hu
  ·have h0':s.heap.get? e=none:=h0
   rw[z,h0'] at hu;cases hu
 refine jS (e:=e) (d:=oe.dict) (Qj _ _) ⟨AI he,fun o ho=>by rw[he] at ho;cases ho;exact⟨rfl,by unfold c2;rw[hdt];exact hv2⟩⟩ ?_
 refine wpAny_leaving_firstW (base:=PySem.W.hideAll s1.heap (e :: frs (envOfC qual scope s.heap.objs.size f cd :: outer))) (L:=s.heap.objs.size) I.ok.frames (PySem.W.funFrames_hide I.stack fun env hm a ha=>AV _ (frs_mem env hm a ha)) rfl he (fun b o z=>PySem.W.of_hideAll _ z) (CS _ Ai) hdt hv1 hv0 fun h'' ⟨k1,k2,k3,k4⟩ dk=>?_
 have fl:Heap.FlyingW (PySem.W.hideAll s1.heap (e :: frs (envOfC qual scope s.heap.objs.size f cd :: outer))) outer e oe.cls a0 h'':=⟨k1,CS _ Ai,by
  rw[Heap.FunFrames.eq_def] at k2
  exact k2.2.2,k3⟩
 have nc:∀ b,b ∉ frs (envOfC qual scope s.heap.objs.size f cd :: outer)->((∃ u,H1 b=some u)\/∃ u,s.heap.get? b=some u)->b ∉ e :: frs (envOfC qual scope s.heap.objs.size f cd :: outer):=fun b nb hc z=>(AZ.mp z).elim (neT b hc) nb
 have k:∀ b o,s1.heap.get? b=some o->b ∉ frs (envOfC qual scope s.heap.objs.size f cd :: outer)->((∃ u,H1 b=some u)\/∃ u,s.heap.get? b=some u)->h''.get? b=some o:=fun b o e1 nb hc=>fl.1 b o (fin b o e1 (nc b nb hc))
 obtain⟨un,hok⟩:=I.left (h2:=h'') hex k (fun b o e1 hb=>k4 b o e1 (by
  obtain⟨_,o2,e2,nf⟩:=I.funs.mem hb
  rw[e1] at e2
  cases e2
  exact nf))
 refine⟨e,oe.cls,oe.dict,H1,rfl,I.os,I.bare,un,hok,⟨⟨_,_,fl,fun b o e1 nb hc=>?_⟩,hn,h0,dk⟩,q⟩
 obtain⟨⟨o',eo⟩,neL⟩:=I.cov hex hc
 have nb':b ∉ frs (envOfC qual scope s.heap.objs.size f cd :: outer):=fun z=>(AZ.mp (I.stkSub b z)).elim neL nb
 have e2:=fl.1 b o' (fin b o' eo (nc b nb' hc))
 have e3:o=o':=AO (e1.symm.trans e2)
 rw[e3]
 exact fin b o' eo (nc b nb' hc)
theorem passD {E':XK} (hE:∀ c d H,E' c d H->E c d H):Q5 (CXD P w) (WC (CXD P w) P w K mg base N qual scope f cd A outer s H E) E':=by
 intro pins σ Hc sc e s' I h
 obtain⟨ea,cls,d,H',rfl,os,bare,un,hok,fly,q⟩:=h
 have hex:(WC (CXD P w) P w K mg base N qual scope f cd A outer s H E).ex=[]:=rfl
 have I':=I.call' os un hok bare (fun b z=>absurd z (by simp))
 obtain⟨B,a0,fl,cv⟩:=fly.ex
 have cv':∀ b o,s'.heap.get? b=some o->b ∉ frs (envOfC qual scope s.heap.objs.size f cd :: outer)->((∃ u,H' b=some u)\/∃ u,s.heap.get? b=some u)->B.get? b=some o:=fun b o e1 nb hc=>cv b o e1 nb (by
  rcases hc with z | ⟨u,z⟩
  ·exact .inl z
  ·exact .inr (I.base.there b u z (by rw[hex];simp)))
 refine jS (Qj _ _) fly.dct ?_
 refine wpAny_leaves_onW (L:=s.heap.objs.size) I'.ok.frames rfl fl fun h'' fl2 up dk=>?_
 obtain⟨un2,hok2⟩:=I'.left (h2:=h'') hex (fun b o e1 nb hc=>fl2.1 b o (cv' b o e1 nb hc)) (fun b o e1 hb=>up b o e1 (by
  obtain⟨_,o2,e2,nf⟩:=I'.funs.mem hb
  rw[e1] at e2
  cases e2
  exact nf))
 refine⟨ea,cls,d,H',rfl,I'.os,I'.bare,un2,hok2,⟨⟨B,a0,fl2,fun b o e1 nb hc=>?_⟩,fly.new,?_,dk⟩,hE _ _ _ q⟩
 ·obtain⟨⟨o',eo⟩,neL⟩:=I'.cov hex hc
  have nb':b ∉ frs (envOfC qual scope s.heap.objs.size f cd :: outer):=fun z=>(AZ.mp (I'.stkSub b z)).elim neL nb
  have e2:=fl2.1 b o' (cv' b o' eo nb' hc)
  have e3:o=o':=AO (e1.symm.trans e2)
  rw[e3]
  exact cv' b o' eo nb' hc
 ·cases z:s.heap.get? ea with
  | none=>rfl
  | some u=>
   obtain⟨ob,eo⟩:=I.base.there ea u z (by rw[hex];simp)
   rw[fly.nold] at eo
   cases eo
end
section
variable {X : Cx}
theorem ZI {x:Str} {C:Addr} {bmB bmN:List Value} {newId nid initId inN Bn B0:String} {E:XK} {e0:Expr} {es:List Expr} {t:TA} {np cpos pos:Pos} (hg:Gl X x) (hm:X.mg x=some (.ref C)) (q:PySem.W.excIn X.K C bmB newId=true)
  (Fn:ExcBaseFacts Bn newId inN bmN) (hBn:bmB.contains (.type Bn)=true) (FB:ExcBaseFacts B0 nid initId bmB) (hc:X.calm=true) (hex:X.ex=[]) (hx:QB X E) (ha:PA X (e0 :: es) t) (hdb:(x == ("__debug__" : Str))=false:=by decide)
  (he:starEach (e0 :: es) X.env=(false,eval e0 X.env) :: starEach es X.env:=by rfl) (hpl:(backTo cpos (starEach es X.env)).any (·.1)=false:=by rfl) :
  PS X (.Raise (some (.Call (.Name x np) (e0 :: es) [] cpos)) none pos) (tRaise C E t):=by
 intro pins s σ H D I h
 obtain⟨tl,N,nm,qn,bs,hd,sn,sub,ab,col,dd,k0,k1,k2,k3,k5,mN,hC,hN,hni,T⟩:=exc_obj I.mod.kin q
 have ha':=ha cpos pins s σ H _ I h
 rw[he] at ha'
 refine wpAny_Raise_call_subU (C:=C) (nm:=nm) (q:=qn) (N:=N) (bs:=bs) (bm:=tl) (hdct:=hd) (sn:=sn) (sub:=sub) (ab:=ab) (col:=col) (dd:=dd) (k0:=k0) (k1:=k1) (k2:=k2) (k3:=k3) (k5:=k5)
  Fn hBn FB (mN:=mN) (T.hasType FB.hasBase) (I.ok.hd hc) (by rw[he];show (false || (backTo cpos (starEach es X.env)).any (·.1))=false;rw[hpl];rfl) hni (jA I hg hm ⟨rfl,?_⟩ hdb)
 rw[he]
 refine Bx (A4 ha' (fun us s2 ⟨vs,H2,I2,r,hz,qE⟩=>⟨rfl,?_,I2.bk _ _ hC,hN.keeps I2.bk,T.keeps I2.bk,fun h' e hm=>?_⟩) fun _ _ y=>y)
 ·rw[<- r.length];exact hz
 ·obtain⟨t0,m1,_,_⟩:=hm.there
  have hn:H2 e=none:=by
   cases z:H2 e with
   | none=>rfl
   | some u=>
    obtain⟨ob,eo⟩:=(I2.hok e u z).some
    rw[hm.new] at eo
    cases eo
  refine hx pins σ H2 { s2 with heap:=h' } e _ _ _ (I2.kept (t':=s2.toks) hm.keeps) hn ?_ m1 rfl rfl rfl rfl qE
  cases z:X.s₀.heap.get? e with
  | none=>rfl
  | some u=>
   obtain⟨ob,eo⟩:=I2.base.there e u z (by rw[hex];simp)
   rw[hm.new] at eo
   cases eo
end
def ja (X:Cx) (pins:List (Addr×Obj)) (R:Value->Option Addr->St->Hp->Prop):Value->Shared->Prop:=fun e s'=>∃ σ' Hc sc,Inv X pins σ' Hc sc/\CXD X.prog X.w X.stack Hc sc (fun cls d H'=>R cls d σ' H') e s'
abbrev TSd:=JK->St->Hp->(Value->Option Addr->St->Hp->Prop)->Prop
abbrev TEd:=St->Hp->VK->(Value->Option Addr->Hp->Prop)->Prop
def PSd (X:Cx) (st:Stmt) (t:TSd):Prop:=∀ (E:Value->Shared->Prop) (pins:List (Addr×Obj)) (s:Shared) (σ:St) (H:Hp) (D:JK) (R:Value->Option Addr->St->Hp->Prop),Inv X pins σ H s->t D σ H R->(∀ e s',ja X pins R e s'->E e s') ->
 wpAny (model X.prog X.w) X.A (exec st X.env) (SP X pins D) E s
def PEd (X:Cx) (e:Expr) (t:TEd):Prop:=∀ (E:Value->Shared->Prop) (pins:List (Addr×Obj)) (s:Shared) (σ:St) (H:Hp) (Q:VK) (R:Value->Option Addr->Hp->Prop),Inv X pins σ H s->t σ H Q R->(∀ e s',ja X pins (fun cls d σ' H'=>σ'=σ/\R cls d H') e s'->E e s') ->
 wpAny (model X.prog X.w) X.A (eval e X.env) (EP X pins σ Q) E s
theorem CXD.imp {P:Program} {w:World} {l:List Env} {H:Hp} {s:Shared} {E E':XK} {e:Value} {s':Shared} (h:CXD P w l H s E e s') (k:∀ c d H,E c d H->E' c d H):CXD P w l H s E' e s':=by
 obtain⟨ea,cls,d0,H',a,b,c,d,f,g,q⟩:=h
 exact⟨ea,cls,d0,H',a,b,c,d,f,g,k _ _ _ q⟩
section
variable {X : Cx}
def tCallD (sp:Sp) (t:TA):TEd:=fun σ H Q R=>t σ H fun vs H1=>sp vs H1 Q fun cls d H'=>R cls d H'
theorem ped_call {k:Nat} {f:Addr} {fd:FuncData} {ps:List Str} {sp:Sp} {x:Str} {p pos:Pos} {e:Expr} {es:List Expr} {t:TA} (F:qA X.prog X.w X.K X.mg X.base (CXD X.prog X.w) k f fd ps sp) (hr:jk k X.A) (hg:Gl X x) (hm:X.mg x=some (.ref f))
  (hk:PySem.W.keepIn X.K (.ref f)=true) (hb:Binds X.K fd ps []) (ha:PA X.nox (e :: es) t) (hdb:(x == ("__debug__" : Str))=false:=by decide)
  (he:starEach (e :: es) X.env=(false,eval e X.env) :: starEach es X.env:=by rfl) (hpl:(backTo pos (starEach es X.env)).any (·.1)=false:=by rfl):PEd X (.Call (.Name x p) (e :: es) [] pos) (tCallD sp t):=by
 intro E pins s σ H Q R I h hE
 refine Bi (jA I hg hm ?_ hdb)
 refine Cb (h₀:=X.base) I.ok.mod.kin hk (A4 (ha pos pins s σ H _ (I.wish _) h) (fun us s1 ⟨vs,H1,I1',r,q⟩=>⟨I1'.unwish.kIn,?_⟩) fun _ _ z=>False.elim z) he hpl
 have I1:=I1'.unwish
 have hl:us.length=ps.length:=by rw[<- r.length];exact F.len _ _ _ _ q
 have hb':BindsTo s1 fd ⟨us,[]⟩ (ps.zip us):=by
  have z:=hb s1 us I1.kIn (by rw[Bc];exact hl)
  rw[Bc] at z
  exact z
 refine BW (B3 (F.run X.A X.stack s1 H1 ⟨us,[]⟩ us vs Q _ hr I1.env0 hb' r q) fun res s' hq=>?_)
 cases res with
 | error e=>
  have hq':CXD X.prog X.w X.stack H1 s1 (fun cls d H'=>R cls d H') e s':=hq
  exact hE e s' ⟨σ,H1,s1,I1,CXD.imp hq' fun _ _ _ z=>⟨rfl,z⟩⟩
 | ok fl=>
  cases fl with
  | ret u=>exact I1.after hq
  | next=>exact False.elim hq
  | brk=>exact False.elim hq
  | cont=>exact False.elim hq
theorem psd_set {i:Nat} {y:Str} {py spos:Pos} {e:Expr} {t:TEd} (hN:X.N.Nodup) (hy:X.N[i]? = some y) (hl:Loc X.env.scope y) (he:PEd X e t) (hsw:swapsWith e (some (.Name y py)) spos.line X.env=pure false:=by rfl)
  (hf:X.fn y=true\/X.env.scope.names.lookup y=some .local:=by first | exact .inl rfl | exact .inr rfl | assumption) :
  PSd X (.Assign [.Name y py] e spos) (fun D σ H R=>t σ H (fun v H1=>D.nx (σ.set i (some v)) H1) fun cls d H'=>R cls d σ H'):=by
 intro E pins s σ H D R I h hE
 refine wpAny_Assign_Name (A4 (he E pins s σ H _ _ I h fun e s' ⟨σ',Hc,sc,I',c⟩=>hE e s' ⟨σ',Hc,sc,I',c.imp fun cls d H2 z=>?_⟩) (fun v s1 ⟨x,H1,I1,r1,q1⟩=>Zj I1 hN hy hl r1 (fun s2 I2=>⟨_,_,I2,q1⟩) hf) fun _ _ z=>z) hsw
 rw[z.1]
 exact z.2
end
section
variable {X : Cx} {pins : List (Addr × Obj)} {R : Value -> Option Addr -> St -> Hp -> Prop} {e : Value} {s' : Shared}
theorem ja.see (h:ja X pins R e s'):∃ ea cls d σ' H',e=.ref ea/\Inv X pins σ' H' s'/\H' ea=none/\R cls d σ' H'/\(∃ oe vs,s'.heap.get? ea=some oe/\oe.cls=cls/\oe.data=.fields vs/\oe.dict=d/\vs[2]? = some .none) /\
  (X.ex=[]->X.s₀.heap.get? ea=none)/\ea ≠ X.env.locals/\(∀ x c,X.env.cells.lookup x=some c->c ≠ ea)/\∀ p ∈ X.pn++pins,p.1 ≠ ea:=by
 obtain⟨σ',Hc,sc,I,ea,cls,d,H',rfl,os,bare,un,hok,fly,q⟩:=h
 have I':=I.call' os un hok bare (fun b z=>absurd z (by simp))
 obtain⟨B,a0,fl,cv⟩:=fly.ex
 obtain⟨oe,vs,h1,h2,h3,_⟩:=fl.first
 have no:∀ o,sc.heap.get? ea=some o->False:=fun o z=>by rw[fly.nold] at z;cases z
 refine⟨ea,cls,d,σ',H',rfl,I',fly.new,q,⟨oe,vs,h1,h2,h3,(fly.dct.2 oe h1).1,by have z:=(fly.dct.2 oe h1).2;unfold c2 at z;rw[h3] at z;exact z⟩,fun hex=>?_,fun z=>?_,fun x c e z=>?_,fun p hp z=>?_⟩
 ·cases z:X.s₀.heap.get? ea with
  | none=>rfl
  | some u=>
   obtain⟨o,e1⟩:=I.base.there ea u z (by rw[hex];simp)
   exact (no o e1).elim
 ·obtain⟨m,⟨o,_,_,ho,_⟩,_⟩:=I.loc
  exact no o (by rw[z];exact ho)
 ·obtain⟨v,o,ho,_⟩:=I.cell x c e
  exact no o (by rw[<- z];exact ho)
 ·exact no p.2 (by rw[<- z];exact (I.pin p hp).1)
theorem Zf {d:Option Addr} {ea:Addr} {cls a0:Value} {σ':St} {Hc H':Hp} {sc:Shared} {B h5:Heap} (I:Inv X pins σ' Hc sc) (os:s'.os=sc.os) (bare:AllBare s'.gens) (un:Un (frs X.stack) [] Hc H' sc.heap s'.heap) (hok:HOk X.prog X.w H' s'.heap)
  (new:H' ea=none) (nold:sc.heap.get? ea=none) (fl:Heap.FlyingW B X.stack ea cls a0 s'.heap) (cv:∀ b o,s'.heap.get? b=some o->b ∉ frs X.stack->((∃ u,H' b=some u)\/∃ u,sc.heap.get? b=some u)->B.get? b=some o)
  (fl5:Heap.FlyingW B X.stack ea cls a0 h5) (up:s'.heap.UpToSlots h5) (dk:Qk ea d h5) (q:R cls d σ' H'):ja X pins R (.ref ea) { s' with heap:=h5 }:=by
 have I':=I.call' os un hok bare (fun b z=>absurd z (by simp))
 have sl:∀ b o,s'.heap.get? b=some o->b ∈ frs X.stack->∃ q,h5.get? b=some { o with slots:=q }:=fun b o e1 hb=>up b o e1 (by
  obtain⟨_,o2,e2,nf⟩:=fl.2.2.1.mem hb
  rw[e1] at e2
  cases e2
  exact nf)
 refine⟨σ',Hc,sc,I,ea,cls,d,H',rfl,os,bare,⟨fun b o e n nf _=>?_,fun b o e n hb hx=>?_,un.free,fun b o e hx=>?_,un.tups,un.frzs,un.tbls⟩,fun a o e=>?_,⟨⟨B,a0,fl5,fun b o e1 nb hc=>?_⟩,new,nold,dk⟩,q⟩
 ·exact fl5.1 b o (cv b o (un.keep b o e n nf (by simp)) nf (.inr ⟨o,e⟩))
 ·obtain⟨q1,e1⟩:=un.slot b o e n hb hx
  obtain⟨q2,e2⟩:=sl b _ e1 hb
  exact⟨q2,e2⟩
 ·obtain⟨o',e1⟩:=un.there b o e hx
  by_cases hb:b ∈ frs X.stack
  ·obtain⟨q2,e2⟩:=sl b o' e1 hb
   exact⟨_,e2⟩
  ·exact⟨o',fl5.1 b o' (cv b o' e1 hb (.inr ⟨o,e⟩))⟩
 ·refine (hok a o e).stay (fun b u hb q=>?_) (fun _ q=>q) fun _ _ q=>q
  have ht:∃ u,H' b=some u:=by
   rcases hb with z | z
   ·exact⟨o,by rw[z];exact e⟩
   ·exact⟨_,z⟩
  refine fl5.1 b u (cv b u q (fun z=>?_) (.inl ht))
  obtain⟨v,hv⟩:=ht
  rw[I'.stkFree b z] at hv
  cases hv
 ·have ho:∃ o',s'.heap.get? b=some o':=by
   rcases hc with ⟨u,z⟩ | ⟨u,z⟩
   ·exact (hok b u z).some
   ·exact un.there b u z (by simp)
  obtain⟨o',eo⟩:=ho
  have eB:=cv b o' eo nb hc
  have e3:o=o':=AO (e1.symm.trans (fl5.1 b o' eB))
  rw[e3]
  exact eB
theorem landD1 {E:Value->Shared->Prop} {A:Around} {M:Model} {rest:Sem Flow} {Q:Flow->Shared->Prop} (hst:X.stack=X.env :: X.outer) (hf:X.env.frame=some X.env.locals) (hfr:A.frames=some X.stack) (h:ja X pins R e s')
  (k:∀ h5,ja X pins R e { s' with heap:=h5 }->wpAny M A rest Q E { s' with heap:=h5 }):wpAny M A (noteFrame e X.env) (fun _ s2=>wpAny M A (setFlight e none) (fun _ s3=>wpAny M A rest Q E s3) E s2) E s':=by
 obtain⟨σ',Hc,sc,I,ea,cls,d,H',rfl,os,bare,un,hok,fly,q⟩:=h
 obtain⟨B,a0,fl,cv⟩:=fly.ex
 refine jS (yi _ _) fly.dct (wpAny_looks_onW (base:=B) (outer:=X.outer) (by rw[hfr,hst]) hf (by rw[<- hst];exact fl) fun h4 held up4 d4=>jS (ZG _ _) d4 (wpAny_landsW held fun h5 fl5 up5 d5=>k h5 ?_))
 exact Zf I os bare un hok fly.new fly.nold fl cv (by rw[hst];exact fl5) (up4.trans up5) d5 q
theorem landD2 {E:Value->Shared->Prop} {A:Around} {M:Model} {Q:Unit->Shared->Prop} (h:ja X pins R e s') (k:∀ h5,ja X pins R e { s' with heap:=h5 }->Q () { s' with heap:=h5 }):wpAny M A (setFlight e none) Q E s':=by
 obtain⟨σ',Hc,sc,I,ea,cls,d,H',rfl,os,bare,un,hok,fly,q⟩:=h
 obtain⟨B,a0,fl,cv⟩:=fly.ex
 exact jS (ZG _ _) fly.dct (lands_againW fl fun h5 fl5 up5 d5=>k h5 (Zf I os bare un hok fly.new fly.nold fl cv fl5 up5 d5 q))
end
def Z1 (e:Addr) (cls:Value) (d:Option Addr):HO:=.ext fun h=>∃ o vs,h.get? e=some o/\o.cls=cls/\o.data=.fields vs/\o.dict=d/\vs[2]? = some .none
theorem excD_ok {P:Program} {w:World} {H:Hp} {h:Heap} {ea:Addr} {cls:Value} {d:Option Addr} (z:∃ oe vs,h.get? ea=some oe/\oe.cls=cls/\oe.data=.fields vs/\oe.dict=d/\vs[2]? = some .none):zV P w H h ea (Z1 ea cls d):=by
 refine⟨z,?_,fun h1 h2 ⟨o,vs,a,b,c⟩ k=>⟨o,vs,k o a,b,c⟩⟩
 obtain⟨oe,_,a,_⟩:=z
 exact⟨oe,a⟩
theorem seeD {h:Heap} {ea:Addr} {cls:Value} {d:Option Addr} (z:∃ oe vs,h.get? ea=some oe/\oe.cls=cls/\oe.data=.fields vs/\oe.dict=d/\vs[2]? = some .none):∃ oe vs,h.get? ea=some oe/\oe.cls=cls/\oe.data=.fields vs:=by
 obtain⟨a,b,c,d,e,_⟩:=z
 exact⟨a,b,c,d,e⟩
section
variable {X : Cx} {pins : List (Addr × Obj)} {σ : St} {H : Hp} {s : Shared} {ea : Addr}
end
def Jj (P:Program) (w:World) (K:PySem.W.Frag) (mg:Str->Option Value) (base:Heap) (k:Nat) (x:Str) (ps:List Str) (sp:Sp):Prop:=
 ∃ (f:Addr) (fd:FuncData),qA P w K mg base (CXD P w) k f fd ps sp/\mg x=some (.ref f)/\PySem.W.keepIn K (.ref f)=true/\Binds K fd ps []
section
variable {X : Cx} {k k' : Nat} {x : Str} {ps : List Str} {sp : Sp} {e : Expr} {es : List Expr} {t : TA} {p pos : Pos}
theorem QC (D:Jj X.prog X.w X.K X.mg X.base k x ps sp) (hr:jk k' X.A) (hk:k<=k') (hg:Gl X x) (ha:PA X (e :: es) t)
  (hdb:(x == ("__debug__" : Str))=false:=by decide) (he:starEach (e :: es) X.env=(false,eval e X.env) :: starEach es X.env:=by rfl) (hpl:(backTo pos (starEach es X.env)).any (·.1)=false:=by rfl) :
  PE X (.Call (.Name x p) (e :: es) [] pos) (tCall sp [] E0 t):=by
 obtain⟨f,fd,F,m,kp,b⟩:=D
 exact JR F (hr.mono hk) hg m kp b .nil (fun _ _ _ _ _ _ _ h=>by obtain⟨_,_,_,_,_,_,_,_,_,_,z⟩:=h;exact False.elim z) ha hdb he hpl
theorem QD {E:XK} (D:Jj X.prog X.w X.K X.mg X.base k x ps sp) (hr:jk k' X.A) (hk:k<=k') (hg:Gl X x) (hp:Q5 (CXD X.prog X.w) X E) (ha:PA X (e :: es) t)
  (hdb:(x == ("__debug__" : Str))=false:=by decide) (he:starEach (e :: es) X.env=(false,eval e X.env) :: starEach es X.env:=by rfl) (hpl:(backTo pos (starEach es X.env)).any (·.1)=false:=by rfl) :
  PE X (.Call (.Name x p) (e :: es) [] pos) (tCall sp [] E t):=by
 obtain⟨f,fd,F,m,kp,b⟩:=D
 exact JR F (hr.mono hk) hg m kp b .nil hp ha hdb he hpl
theorem ped_def (D:Jj X.prog X.w X.K X.mg X.base k x ps sp) (hr:jk k' X.A) (hk:k<=k') (hg:Gl X x) (ha:PA X.nox (e :: es) t)
  (hdb:(x == ("__debug__" : Str))=false:=by decide) (he:starEach (e :: es) X.env=(false,eval e X.env) :: starEach es X.env:=by rfl) (hpl:(backTo pos (starEach es X.env)).any (·.1)=false:=by rfl) :
  PEd X (.Call (.Name x p) (e :: es) [] pos) (tCallD sp t):=by
 obtain⟨f,fd,F,m,kp,b⟩:=D
 exact ped_call F (hr.mono hk) hg m kp b ha hdb he hpl
end
section
variable {P : Program} {w : World} {K : PySem.W.Frag} {mg : Str -> Option Value} {base : Heap}
theorem Fun.okD {x qual:Str} {st:Stmt} {f:Addr} {fd:FuncData} {N ps:List Str} {k:Nat} {sp:Sp} (F:Fun K x qual st f fd) (S:zu N ps (zi st)) (len:∀ vs H Q E,sp vs H Q E->vs.length=ps.length)
  (hbody:∀ (cdv:Value) (A:Around) (outer:List Env) (s:Shared) (H:Hp) (vs:List V) (Q:VK) (E:XK),jk k (A.deeper (envOfC qual (zi st) s.heap.objs.size f cdv))->sp vs H Q E ->
   ∃ t,PSs (WC (CXD P w) P w K mg base N qual (zi st) f cdv A outer s H E) (qt st) t/\t { nx:=fun _ H'=>Q .non H',rt:=Q } (start N vs) H):qA P w K mg base (CXD P w) (k+1) f fd ps sp:=by
 obtain⟨oc,od,kV,doc,pm,an,cdv,ct,osl,rfl,lk,hcd⟩:=F.ex
 exact fn_of lk hcd S len fun A outer s H vs Q E hr hsp=>hbody cdv A outer s H vs Q E hr hsp
end
def zN (K:PySem.W.Frag) (C:Addr):Bool:=
 PySem.W.findIn K (.ref C) "__getattribute__" == some (some (.builtin "BaseException.__getattribute__")) && PySem.W.findIn K (.ref C) "__getattr__" == some none && PySem.W.findIn K (.ref C) "__class__" == some (some (.builtin "object.__class__"))
  && PySem.W.specialIn K (.builtin "object.__class__") "__get__" == some (some (.builtin "getset_descriptor.__get__")) && PySem.W.takesIn K (.builtin "object.__class__") == some true && PySem.W.mroIn K C (.type "object") == some true
  && PySem.W.mroIn K C (.type "BaseException") == some true && (PySem.W.clsIn K C).isSome
def Wm (e:Addr) (cls:Value) (h:Heap):Prop:=∃ o vs,h.get? e=some o/\o.cls=cls/\o.data=.fields vs
section
variable {prog : Program} {w : World} {A : Around} {E : Value -> Shared -> Prop} {s : Shared} {K : PySem.W.Frag} {e C : Addr} {h : Heap}
theorem exc_find {M:Model} (X:K.In h) (l:zN K C=true):PySem.W.Looks M h (Builtin.ObjectAttr.find (.ref e) (.ref C) "__class__") (.bind (.builtin "getset_descriptor.__get__") (.builtin "object.__class__")):=by
 simp only[zN,Bool.and_eq_true,beq_iff_eq] at l
 obtain⟨⟨⟨⟨⟨⟨⟨_,_⟩,l3⟩,l4⟩,l5⟩,_⟩,_⟩,_⟩:=l
 refine (Aq X l3).andThen ?_
 have g1:PySem.W.Looks M h (Builtin.ObjectAttr.getOf (some (.builtin "object.__class__"))) (some (.builtin "getset_descriptor.__get__")):=PySem.W.looks_specialIn X l4
 refine g1.andThen ?_
 have g2:PySem.W.Looks M h (Builtin.ObjectAttr.dataDescriptor? (some (.builtin "object.__class__")) (some (.builtin "getset_descriptor.__get__"))) (some (.builtin "getset_descriptor.__get__",.builtin "object.__class__")):=(PySem.W.looks_takesIn X l5).andThen .now
 exact g2.andThen (PySem.W.Looks.tag .now)
theorem Zn {M:Model} (z:Wm e (.ref C) h):PySem.W.Looks M h (typeOf (.ref e)) (.ref C):=wJ z
theorem Wn {R:Result->Shared->Prop} {tp:Value} (X:K.In s.heap) (l:zN K C=true) (z:Wm e (.ref C) s.heap) (hq:R (.ok (.ret (.ref C))) s) :
  codeAny (model prog w) A (.call (.builtin "getset_descriptor.__get__") ⟨[.builtin "object.__class__",.ref e,tp],[]⟩) R s:=by
 simp only[zN,Bool.and_eq_true,beq_iff_eq] at l
 obtain⟨⟨⟨⟨⟨⟨⟨_,_⟩,_⟩,_⟩,_⟩,l6⟩,_⟩,_⟩:=l
 obtain⟨hh,g,dr,t,os⟩:=s
 have T0:=Zn (M:=model prog w) z
 have T1:=PySem.W.looks_mroIn (M:=model prog w) X l6
 refine BX PySem.W.KF.slot_gs.plain PySem.W.KF.entry_gs (PySem.W.KF.slot_gs.check _ _ _ _ _ _ _ _ PySem.W.KF.type_class (PySem.W.KF.args_gs _ _ _) ?_)
 unfold Builtin.«getset_descriptor.__get__» Builtin.Getset_descriptor.descrGet
 rw[PySem.W.dga_obj]
 refine AA (AB ?_);unfold Builtin.Getset_descriptor.descrGetter Builtin.Getset_descriptor.descrCheckInstance Builtin.Getset_descriptor.descrNameAndClass isInstance
 simp only[PySem.W.KF.owner_class];repeat lk
 refine⟨Cq _ (by decide +kernel),Ca PySem.W.KF.entry_class ?_⟩;unfold Builtin.«object.__class__» shownTypeOf
 repeat lk
 exact hq
theorem exc_ga {tk:Tok} {R:Result->Shared->Prop} (X:K.In s.heap) (l:zN K C=true) (z:Wm e (.ref C) s.heap) (hq:R (.ok (.ret (.ref C))) s) :
  codeAny (model prog w) A (.call (.builtin "BaseException.__getattribute__") ⟨[.ref e,.str "__class__" tk],[]⟩) R s:=by
 have hk:builtinKind "BaseException.__getattribute__" = some .slot:=by decide +kernel
 have hsp:splitId "BaseException.__getattribute__" = some ("BaseException", "__getattribute__"):=by decide +kernel
 have l':=l
 simp only[zN,Bool.and_eq_true,beq_iff_eq] at l'
 obtain⟨⟨⟨⟨⟨⟨⟨_,_⟩,_⟩,_⟩,_⟩,_⟩,l7⟩,_⟩:=l'
 refine BX F.attr_ValueError.ga.plain F.entry_bexc_ga ?_
 obtain⟨hh,g,dr,t,os⟩:=s
 have T0:=Zn (M:=model prog w) z
 have T1:=PySem.W.looks_mroIn (M:=model prog w) X l7
 have T2:=exc_find (M:=model prog w) (e:=e) X l
 have ha:=F.args_bexc_ga (.ref e) (.str "__class__" tk)
 simp only[checkBuiltinCall,hk,hsp]
 unfold isInstance
 refine AA (AA (T0.at (T1.at ?_)))
 simp only[Bool.not_true,Bool.false_eq_true,if_false]
 have hfin:wpAny (model prog w) A.in1 (Builtin.«object.__getattribute__» ⟨[.ref e,.str "__class__" tk],[]⟩) (fun fin s'=>match fin with | .done f=>R (.ok f) s' | .again c'=>c'.quiet=true/\codeAny (model prog w) A c' R s') (fun e s'=>R (.error e) s') ⟨hh,g,dr,t,os⟩:=by
  unfold Builtin.«object.__getattribute__»
  refine AA (AB ?_)
  refine AA (AB (AA (T0.at (AA (T2.at ?_)))))
  show wpAny _ _ (holding [Value.builtin "object.__class__"] (call (.builtin "getset_descriptor.__get__") [.builtin "object.__class__",.ref e,.ref C]) >>= ret) _ _ _
  exact AA (Aw (BW (Wn (s:=⟨hh,g,dr,t,os⟩) X l z (AB hq))))
 cases hs:Manifest.signature? "BaseException.__getattribute__" with
 | none=>exact AB hfin
 | some sig=>
  simp only[argsOk,hs] at ha
  have h2:Bind.checkArgs "BaseException.__getattribute__" sig ⟨[.ref e,.str "__class__" tk],[]⟩=pure ():=ha
  show wpAny _ _ (Bind.checkArgs "BaseException.__getattribute__" sig _) _ _ _
  rw[h2]
  exact AB hfin
theorem yo {Q:Option Value->Shared->Prop} (X:K.In s.heap) (l:zN K C=true) (z:Wm e (.ref C) s.heap) (hq:Q (some (.ref C)) { s with toks:=s.toks+1 }):wpAny (model prog w) A (getAttr? (.ref e) "__class__") Q E s:=by
 have l':=l
 simp only[zN,Bool.and_eq_true,beq_iff_eq] at l'
 obtain⟨⟨⟨⟨⟨⟨⟨l1,l2⟩,_⟩,_⟩,_⟩,_⟩,_⟩,_⟩:=l'
 obtain⟨hh,g,dr,t,os⟩:=s
 have T0:=Zn (M:=model prog w) z
 have T1:=Aq (M:=model prog w) X l1
 have T2:=Aq (M:=model prog w) X l2
 unfold getAttr? getAttrBy? getAttrBy
 refine AA (wpAny_mkText (AA (BQ (Aw (AA (T0.at (AA (T1.at ?_))))))))
 show wpAny _ _ (getAttrByItsOwn _ _ _ _ _ _) _ _ _
 unfold getAttrByItsOwn
 have T3:PySem.W.Looks (model prog w) hh (hookBefore (.ref C)) none:=T2
 refine AA (T3.at ?_)
 refine AA (BQ (Aw ?_))
 show wpAny _ _ (boundAndCalled (.builtin "BaseException.__getattribute__") (.ref e) _) _ _ _
 unfold boundAndCalled
 refine AA (Av (F.attr_ValueError.ga.bind (.ref e)) ?_)
 refine BW (exc_ga (s:=⟨hh,g,dr,t+1,os⟩) X l z ?_)
 exact PySem.W.handed_on (v:=.ref C) rfl (AB hq)
theorem wL (l:zN K C=true):PySem.W.KitX K (.ref e) (.ref C) (Wm e (.ref C)) where
 ty:=fun _ _ _ z=>Zn z
 it:=fun _ _ X _=>by
  simp only[zN,Bool.and_eq_true,beq_iff_eq] at l
  have lc:=l.2
  unfold PySem.W.clsIn at lc
  split at lc
  ·rename_i ho
   intro A' Q' E' s' k q
   unfold isType loadHead;exact AA (wpAny_loadPart (k _ _ (X _ _ ho)) (AB q))
  ·cases lc
 ne:=fun h tp dd its n sl X htp=>by
  simp only[zN,Bool.and_eq_true,beq_iff_eq] at l
  have lc:=l.2
  refine Bool.eq_false_iff.mpr fun q=>?_
  have ec:C=tp:=Value.ref.inj (beq_iff_eq.mp q)
  subst ec
  unfold PySem.W.clsIn at lc
  split at lc
  ·rename_i ho
   have zz:=(X _ _ ho).symm.trans htp
   cases zz
  ·cases lc
 ca:=fun X z k=>yo X l z k
end
def Q2 (xs ys:List V):Bool:=(xs.zip ys).all (fun p=>eqV p.1 p.2) && xs.length == ys.length
theorem QE {A:Around} {s:Shared} {xs ys:List V} {us vs:List Value} (rx:zR xs us) (ry:zR ys vs) (fx:xs.all qK=true) (fy:ys.all qK=true) (j:Nat) (h1:j < us.toArray.size) (h2:j < vs.toArray.size) :
  SeqAt.EqAt A s us.toArray[j] vs.toArray[j] (eqV (xs.getD j .non) (ys.getD j .non)):=by
 have l1:=rx.length
 have l2:=ry.length
 have g1:j < us.length:=by simpa using h1
 have g2:j < vs.length:=by simpa using h2
 have k1:xs[j]? = some (xs.getD j .non):=by simp[List.getD,show j < xs.length by omega]
 have k2:ys[j]? = some (ys.getD j .non):=by simp[List.getD,show j < ys.length by omega]
 obtain⟨u,e1,r1⟩:=rx.get k1
 obtain⟨v,e2,r2⟩:=ry.get k2
 have f1:=A5.mp fx _ (AH k1)
 have f2:=A5.mp fy _ (AH k2)
 have w1:us.toArray[j]=u:=by
  rw[AE g1] at e1
  simpa using AO e1
 have w2:vs.toArray[j]=v:=by
  rw[AE g2] at e2
  simpa using AO e2
 rw[w1,w2]
 exact eqAt_V r1 r2 f1 f2
theorem ZJ:∀ (xs ys:List V),xs.length=ys.length->((List.range xs.length).all fun j=>eqV (xs.getD j .non) (ys.getD j .non))=(xs.zip ys).all fun p=>eqV p.1 p.2
 | [],[],_=>rfl
 | [],_ :: _,h=>by cases h
 | _ :: _,[],h=>by cases h
 | x :: xs,y :: ys,h=>by
  have ih:=ZJ xs ys (by simpa using h)
  rw[Ay,CG,Ba,Cg,Cc,Ba,<- ih]
  rfl
section
variable {X : Cx}
theorem wM {bs:List Bool}:∀ {us:List Value},zR (bs.map V.bl) us->us=bs.map Value.bool:=by
 induction bs with
 | nil=>intro us r;rw[Cf] at r;cases r;rfl
 | cons b bs ih=>
  intro us r
  rw[Ag] at r
  cases r with
  | cons r1 r2=>rw[Ag,<- ih r2];cases r1;rfl
theorem ZK:∀ bs:List Bool,((List.range bs.length).all fun i=>bs.getD i true)=bs.all id
 | []=>rfl
 | b :: bs=>by
  have ih:=ZK bs
  rw[Ay,CG,Ba,Cg,Ba,<- ih]
  rfl
theorem call_all (hc:X.calm=true):qU X (.builtin "all") (fun xs H Q=>∃ (p:Addr) (bs:List Bool),xs=[.ref p]/\SqL X.K H p (bs.map V.bl)/\Q (.bl (bs.all id)) H):=by
 intro pins s σ H xs us Q I r h
 obtain⟨p,bs,rfl,hq,q⟩:=h
 obtain⟨u,rfl,ru⟩:=vals1 r
 cases ru
 obtain⟨its,rv,pl,_⟩:=I.list hq
 have hl:s.heap.IsList p its.toArray:=pl.isList
 have hlt:p < s.heap.objs.size:=by obtain⟨_,e,_⟩:=hl;exact AI e
 refine call_all_walk (Cs hl ⟨_,_,_,_,_,_,fun i=>bs.getD i true,rfl,Walks.list (A:=X.A.in1) (I.ok.hd hc) _ p (AW hlt) its.toArray,⟨⟨_,AM _ rfl,rfl,rfl⟩,hl.push _⟩,fun i v s' Q' E' hv hQ=>?_,fun h' tk hk=>⟨.bl _,H,I.kept (old_kept hk),rfl,?_⟩⟩)
 ·have hv':its[i]? = some v:=by simpa using hv
  rw[wM rv,An] at hv'
  obtain⟨b,hb,rfl⟩:=Ar.mp hv'
  have e:bs.getD i true=b:=by simp[List.getD,hb]
  have z:Q' (bs.getD i true) s':=hQ
  rw[e] at z
  exact BG z
 ·have e1:its.toArray.size=bs.length:=by
   have:=rv.length
   rw[AF] at this
   simp;omega
  rw[e1]
  have e2:=ZK bs
  rw[e2]
  exact q
theorem QF:bootBuiltins "ValueError" = some (.type "ValueError"):=by decide +kernel
theorem yp (K:PySem.W.Frag) (hc:X.calm=true) (hK:X.K=K:=by rfl):qU X (.builtin "all") (fun xs H Q=>∃ (p:Addr) (bs:List Bool),xs=[.ref p]/\SqL K H p (bs.map V.bl)/\Q (.bl (bs.all id)) H):=hK ▸ call_all hc
end
def exI (K:PySem.W.Frag) (C:Addr) (bmB:List Value) (newId:String):Bool:=
 match K.lookup C with
 | some ⟨.type "type",_,.cls cd,sl⟩=>
  match cd.mro,sl.toList with
  | .ref C' :: bm,[_,_,_,_,some (.builtin n),_]=>C' == C && n == newId && !cd.hasDel && cd.hasDict && PySem.W.tailIn K bmB bm
  | _,_=>false
 | _=>false
theorem ZL {K:PySem.W.Frag} {g:Heap} {C:Addr} {bmB:List Value} {newId:String} (X:K.In g) (q:exI K C bmB newId=true) :
  ∃ tl N nm qn bs sn sub ab col dd k0 k1 k2 k3 k5,g.get? C=some (excClassObj nm qn C N bs tl true sn sub ab col dd k0 k1 k2 k3 k5 newId)/\OwnTail g bmB tl:=by
 unfold exI at q
 split at q
 ·rename_i d1 c1 l1 at1
  split at q
  ·rename_i C1 tl j0 j1 j2 j3 n1 j5 hm1 hs1
   simp only[Bool.and_eq_true,beq_iff_eq,Bool.not_eq_true'] at q
   obtain⟨⟨⟨⟨r1,r2⟩,r3⟩,r4⟩,r5⟩:=q
   subst r1 r2
   obtain⟨nm,bs,mro,ns,qn,hd,sn,sub,ab,col,del⟩:=c1
   have hm2:mro=_:=hm1
   have r3':del=false:=r3
   have r4':hd=true:=r4
   subst hm2 r3' r4'
   have sl2:l1 = #[j0,j1,j2,j3,some (.builtin n1),j5]:=by
    cases l1 with
    | mk ls=>
     have:ls=_:=hs1
     rw[this]
   subst sl2
   exact⟨tl,ns,nm,qn,bs,sn,sub,ab,col,d1,j0,j1,j2,j3,j5,X _ _ at1,PySem.W.tail_of_in X r5⟩
  ·cases q
 ·cases q
abbrev bmV:List Value:=[.type "ValueError",.type "Exception",.type "BaseException",.type "object"]
structure ExI (K:PySem.W.Frag) (C:Addr) (n:Str):Prop where
 cls:exI K C bmV "ValueError.__new__" = true
 kp:PySem.W.keepIn K (.ref C)=true
 sa:PySem.W.findIn K (.ref C) "__setattr__" = some (some (.builtin "object.__setattr__"))
 nm:PySem.W.findIn K (.ref C) n=some none
 ga:PySem.W.findIn K (.ref C) "__getattribute__" = some (some (.builtin "BaseException.__getattribute__"))
 gt:PySem.W.findIn K (.ref C) "__getattr__" = some none
theorem upd_self {H:Hp} {a:Addr} {o:HO} (h:H a=some o):upd H a o=H:=by
 funext b
 unfold upd
 split
 ·rename_i z;rw[z,h]
 ·rfl
def ExN (e C:Addr) (d:Option Addr):HO:=.ext fun h=>∃ t0,h.get? e=some (jh C d t0)
theorem yq {P:Program} {w:World} {H:Hp} {h:Heap} {e C t0:Addr} {d:Option Addr} (z:h.get? e=some (jh C d t0)):zV P w H h e (ExN e C d):=
 ⟨⟨t0,z⟩,⟨_,z⟩,fun h1 h2 ⟨t,a⟩ k=>⟨t,k _ a⟩⟩
section
variable {X : Cx} {pins : List (Addr × Obj)} {σ : St} {H : Hp} {s : Shared}
theorem Inv.adopt' {e:Addr} {u:HO} {s':Shared} {H':Hp} (I0:Inv X pins σ H s) (hex:X.ex=[]) (h0:s.heap.get? e=none) (I:Inv X pins σ H' s') (hn:H' e=none) (ok:zV X.prog X.w (upd H' e u) s'.heap e u):Inv X pins σ (upd H' e u) s':=by
 refine I.adopt hn ?_ (fun z=>?_) (fun x c q z=>?_) (fun p hp z=>?_) ok
 ·cases z:X.s₀.heap.get? e with
  | none=>rfl
  | some u=>
   obtain⟨o,e1⟩:=I0.base.there e u z (by rw[hex];simp)
   rw[h0] at e1;cases e1
 ·obtain⟨m,⟨o,_,_,ho,_⟩,_⟩:=I0.loc
  rw[<- z,h0] at ho;cases ho
 ·obtain⟨v,o,ho,_⟩:=I0.cell x c q
  rw[z,h0] at ho;cases ho
 ·have:=(I0.pin p hp).1
  rw[z,h0] at this;cases this
def cut (H:Hp) (e:Addr):Hp:=fun b=>if b=e then none else H b
theorem Inv.cut {e:Addr} (I:Inv X pins σ H s) {φ:Heap->Prop} (hx:H e=some (.ext φ)):Inv X pins σ (cut H e) s:=by
 have hc:∀ {b u},L2.cut H e b=some u->H b=some u:=fun {b u} q=>by
  unfold L2.cut at q
  split at q
  ·cases q
  ·exact q
 have kp:∀ {b},b ≠ e->L2.cut H e b=H b:=fun q=>by unfold L2.cut;rw[if_neg q]
 have fr:∀ {b},H b=none->L2.cut H e b=none:=fun q=>by unfold L2.cut;split;rfl;exact q
 refine⟨I.ok,I.os,I.bare,⟨I.base.keep,I.base.slot,fun b o q n hx=>fr (I.base.free b o q n hx),I.base.there,fun b xs q=>by have z:=I.base.tups b xs q;rw[kp (fun y=>by rw[y,hx] at z;cases z)];exact z,fun b o v q=>by have z:=I.base.frzs b o v q;rw[kp (fun y=>by rw[y,hx] at z;cases z)];exact z,fun b ps q=>?_⟩,I.loc,I.cell,fr I.free,fun x c q=>fr (I.freeC x c q),fun p hp=>?_,fun a o q=>?_,I.len⟩
 ·obtain⟨m,z⟩:=I.base.tbls b ps q
  exact⟨m,by rw[kp (fun y=>by rw[y,hx] at z;cases z)];exact z⟩
 ·obtain⟨p1,p2,p3⟩:=I.pin p hp
  exact⟨p1,fr p2,p3⟩
 ·refine (I.hok a o (hc q)).stay (fun _ _ _ r=>r) (fun c r=>?_) fun c xs r=>?_
  ·rw[kp (fun z=>by rw[z,hx] at r;cases r)];exact r
  ·rw[kp (fun z=>by rw[z,hx] at r;cases r)];exact r
end
section
variable {X : Cx}
def tGinit (K:PySem.W.Frag) (t:TA):TE:=fun σ H Q=>t σ H fun vs H1=>∃ e C n x,vs=[.ref e,x]/\H1 e=some (ExN e C none)/\ExI K C n/\Q .non H1
theorem wN {x:Str} {G:Addr} {np apos pos:Pos} {e0:Expr} {es:List Expr} {t:TA} {pl:Sem Bool} (hg:Gl X x) (hm:X.mg x=some (.ref G)) (r1:PySem.W.specialIn X.K (.ref G) (Str.ofString "__getattribute__")=some (some (.builtin "type.__getattribute__"))) (r2:PySem.W.readsIn X.K G (.type "type")=true)
  (r3:PySem.W.findCls X.K (.ref G) (.type "type") "__init__" = some (.val (.builtin "ValueError.__init__"))) (ha:PA X (e0 :: es) t) (hdb:(x == ("__debug__" : Str))=false:=by decide)
  (hst:starEach (e0 :: es) X.env=(false,eval e0 X.env) :: starEach es X.env:=by rfl) (hpl:(backTo pos (starEach es X.env)).any (·.1)=false:=by rfl)
  (ht:eval (.Call (.Attribute (.Name x np) "__init__" apos) (e0 :: es) [] pos) X.env=(do
   let ov <- eval (.Name x np) X.env
   standAt apos.atName
   let (f,first) <- holding [ov] (getMethod ov "__init__" pl)
   callWith pos f first (backTo pos (starEach (e0 :: es) X.env)) (backToKw pos (keywordEach [] X.env))):=by rfl) :
  PE X (.Call (.Attribute (.Name x np) "__init__" apos) (e0 :: es) [] pos) (tGinit X.K t):=by
 intro pins s σ H Q I h
 refine PySem.W.methodCall_KW (pl:=pl) (jA I hg hm ?_ hdb) ht
 refine PySem.W.method_cls I.kIn r1 (PySem.W.cls_value I.kIn r2 r3 (by decide) ?_)
 refine Cj (thn (ha pos pins _ σ H _ (I.tok (s.toks+1)) h) fun us s1 ⟨vs,H1,I1,r,e,C,n,y,ev,he,ex,q⟩=>?_) hst hpl
 subst ev
 obtain⟨u1,u2,rfl,ra,rb⟩:=vals2 r
 cases ra
 obtain⟨hh,g,d,tk,os⟩:=s1
 obtain⟨tl,N,nm,qn,bs,sn,sub,ab,col,dd,k0,k1,k2,k3,k5,hC,T⟩:=ZL I1.kIn ex.cls
 obtain⟨t0,hz⟩:∃ t0,hh.get? e=some (jh C none t0):=(I1.hok e _ he).1
 refine yk (B := "ValueError") (initId := "ValueError.__init__") F.excBase_ValueError T hC hz fun h' t1 n1 a1 a2 a3=>?_
 have I2:=I1.write (x:=e) (e:=e) (o:=ExN e C none) (t':=tk) (h':=h') (by rw[he];exact True.intro) (.inl rfl) a3 ⟨_,a2⟩ (yq a2)
 rw[upd_self he] at I2
 exact⟨.non,H1,I2,rfl,q⟩
def sXd (K:PySem.W.Frag) (ta tv:TE) (n:Str):TS:=fun D σ H=>tv σ H fun y H1=>ta σ H1 fun x H2=>∃ e C,x=.ref e/\H2 e=some (ExN e C none)/\ExI K C n/\∀ d,H2 d=none->d ≠ e->D.nx σ (upd (upd H2 e (ExN e C (some d))) d (.xd [(n,y)]))
theorem ps_xd {o value:Expr} {n:Str} {pos pos':Pos} {ta tv:TE} (hex:X.ex=[]) (ha:PE X o ta) (hv:PE X value tv) (hs:swapsWith value (some (.Attribute o n pos')) pos.line X.env=pure false):PS X (.Assign [.Attribute o n pos'] value pos) (sXd X.K ta tv n):=by
 intro pins s σ H D I h
 refine plainObj_wpAny_Assign_Attribute (thn (hv pins s σ H _ I h) fun u s1 ⟨y,H1,I1,ry,q⟩=>thn (ha pins s1 σ H1 _ I1 q) fun ov s2 ⟨x,H2,I2,rx,e,C,ex,he,xi,q2⟩=>?_) hs
 subst ex
 obtain rfl:ov=Value.ref e:=rx
 obtain⟨hh,g,d,tk,os⟩:=s2
 obtain⟨tl,N,nm,qn,bs,sn,sub,ab,col,dd,k0,k1,k2,k3,k5,hC,T⟩:=ZL I2.kIn xi.cls
 obtain⟨t0,hz⟩:∃ t0,hh.get? e=some (jh C none t0):=(I2.hok e _ he).1
 refine set_exc (B := "ValueError") F.store_ValueError T hC (Aq I2.kIn xi.sa) (Aq I2.kIn xi.nm) hz fun h' Dd tk' n1 n2 a1 a2 a3=>?_
 have hD:H2 Dd=none:=by
  cases z:H2 Dd with
  | none=>rfl
  | some v=>
   obtain⟨o,eo⟩:=(I2.hok Dd v z).some
   rw[show hh.get? Dd=none from n1] at eo
   cases eo
 have I3:=I2.write (x:=e) (e:=e) (o:=ExN e C (some Dd)) (t':=tk') (h':=h') (by rw[he];exact True.intro) (.inl rfl) a3 ⟨_,a2⟩ (yq a2)
 have I4:=I2.adopt' (u:=.xd [(n,y)]) hex n1 I3 (by rw[zt n2];exact hD) ⟨_,a1,fun z=>?_⟩
 ·exact⟨σ,_,I4,q2 Dd hD n2⟩
 ·by_cases e1:z=n
  ·rw[e1,if_pos rfl]
   simp[List.lookup]
   exact ry
  ·rw[if_neg e1]
   have:(z == n)=false:=by simpa using e1
   simp[List.lookup,this]
   trivial
theorem JZ {u:Value} (h:PySem.W.handedIn u=true):handedOut u=pure u:=by
 cases u with
 | builtin i=>
  have h':(withoutEnding? i "#data").isNone=true:=h
  unfold handedOut
  dsimp only
  rw[if_neg (by cases z:withoutEnding? i "#data" with | none=>simp | some _=>rw[z] at h';cases h')]
 | _=>rfl
def tXget (K:PySem.W.Frag) (ta:TE) (n:Str):TE:=fun σ H Q=>ta σ H fun x H1=>∃ a C d fs v,x=.ref a/\H1 a=some (Z1 a (.ref C) (some d))/\H1 d=some (.xd fs)/\fs.lookup n=some v/\ExI K C n/\Q v H1
theorem yr {e:Expr} {n:Str} {pos:Pos} {ta:TE} (he:PE X e ta) (hb:attributeBase e n X.env (eval e X.env)=eval e X.env):PE X (.Attribute e n pos) (tXget X.K ta n):=by
 intro pins s σ H Q I h
 refine attr_of hb (thn (he pins s σ H _ I h) fun u s1 ⟨x,H1,I1,rx,a,C,d,fs,v,ex,ea,ed,l,xi,q⟩=>?_)
 subst ex
 obtain rfl:u=Value.ref a:=rx
 obtain⟨hh,g,dr,tk,os⟩:=s1
 obtain⟨tl,N,nm,qn,bs,sn,sub,ab,col,dd,k0,k1,k2,k3,k5,hC,T⟩:=ZL I1.kIn xi.cls
 obtain⟨oe,vs,z1,z2,z3,z4,_⟩:∃ o vs,hh.get? a=some o/\o.cls=.ref C/\o.data=.fields vs/\o.dict=some d/\vs[2]? = some .none:=(I1.hok a _ ea).1
 obtain⟨mA,n1,rl⟩:∃ mA,hh.Ns1 d mA/\∀ f,JN (fs.lookup f) (mA f):=I1.hok d _ ed
 obtain⟨u,hu,ru⟩:=JN.some_of (v:=v) (o:=mA n) (by rw[<- l];exact rl n)
 obtain⟨o1,es1,ep1,m1,m2,m3,_,m5⟩:=n1
 exact get_exc (B := "ValueError") F.attrBase_ValueError T hC (Aq I1.kIn xi.ga) (Aq I1.kIn xi.gt) (Aq I1.kIn xi.nm) z1 z2 z3 z4 ⟨o1,es1,ep1,m1,m2,m3,m5⟩ hu (JZ (WU ru)) ⟨v,H1,I1.tok _,ru,q⟩
theorem yt {pins:List (Addr×Obj)} {σ:St} {H:Hp} {s:Shared} {e:Addr} {cls:Value} {d:Option Addr} (I:Inv X pins σ H s) (h:H e=some (Z1 e cls d)):Wm e cls s.heap:=by
 obtain⟨o,vs,a,b,c,_⟩:=(I.hok e _ h).1
 exact⟨o,vs,a,b,c⟩
theorem zk (K:PySem.W.Frag) {C:Addr} (l:zN K C=true) (hK:X.K=K:=by rfl):qU X (.builtin "isinstance") (fun xs H Q=>∃ e D d b,xs=[.ref e,.ref D]/\H e=some (Z1 e (.ref C) d)/\PySem.W.kitOne K (.ref C) (.ref D)=some b/\Q (.bl b) H):=by
 subst hK
 intro pins s σ H xs us Q I r h
 obtain⟨e,D,d,b,rfl,he,hb,q⟩:=h
 obtain⟨u,w',rfl,r1,r2⟩:=vals2 r
 cases r1
 cases r2
 exact Ak (wL l) I.kIn (yt I he) hb (fun z=>nomatch z) fun tk=>⟨.bl b,H,I.tok tk,rfl,q⟩
theorem jC (K:PySem.W.Frag) {C:Addr} (l:zN K C=true) (hK:X.K=K:=by rfl):qU X (.builtin "isinstance") (fun xs H Q=>∃ e n d b,xs=[.ref e,.ty n]/\H e=some (Z1 e (.ref C) d)/\PySem.W.kitOne K (.ref C) (.type n)=some b/\Q (.bl b) H):=by
 subst hK
 intro pins s σ H xs us Q I r h
 obtain⟨e,D,d,b,rfl,he,hb,q⟩:=h
 obtain⟨u,w',rfl,r1,r2⟩:=vals2 r
 cases r1
 cases r2
 exact Ak (wL l) I.kIn (yt I he) hb (fun z=>nomatch z) fun tk=>⟨.bl b,H,I.tok tk,rfl,q⟩
def Jk (C:Addr) (n:Str):Sp:=fun vs H Q _=>∃ e y,vs=[.ref e,y]/\H e=some (ExN e C none)/\∀ d,H d=none->d ≠ e->Q .non (upd (upd H e (ExN e C (some d))) d (.xd [(n,y)]))
def yu (C:Addr) (n:Str) (E:XK) (t:TA):TS:=fun _ σ H=>t σ H fun vs H1=>∃ y,vs=[y]/\∀ d,H1 d=none->E (.ref C) (some d) (upd H1 d (.xd [(n,y)]))
theorem yv {x n:Str} {C f:Addr} {fd:FuncData} {k:Nat} {ps:List Str} {E:XK} {e0:Expr} {es:List Expr} {t:TA} {np cpos pos:Pos} (hg:Gl X x) (hm:X.mg x=some (.ref C)) (xi:ExI X.K C n) (xin:PySem.W.findIn X.K (.ref C) "__init__" = some (some (.ref f))) (xfn:PySem.W.isFn X.K (.ref f)=true) (F:qA X.prog X.w X.K X.mg X.base CX0 k f fd ps (Jk C n)) (hr:jk (k+1) X.A)
  (hb:Binds X.K fd ps []) (hc:X.calm=true) (hex:X.ex=[]) (hx:QB X E) (ha:PA X (e0 :: es) t) (hdb:(x == ("__debug__" : Str))=false:=by decide)
  (he:starEach (e0 :: es) X.env=(false,eval e0 X.env) :: starEach es X.env:=by rfl) (hpl:(backTo cpos (starEach es X.env)).any (·.1)=false:=by rfl) :
  PS X (.Raise (some (.Call (.Name x np) (e0 :: es) [] cpos)) none pos) (yu C n E t):=by
 intro pins s σ H D I h
 rw[arm_exec_Raise]
 refine AA (Co ?_)
 refine AA (m:=eval (.Call (.Name x np) (e0 :: es) [] cpos) X.env >>= fun v=>standAt pos >>= fun _=>pure v) (AA ?_)
 refine Bi (jA I hg hm ?_ hdb)
 refine Cb (h₀:=X.base) I.ok.mod.kin xi.kp (thn (ha cpos pins s σ H _ I h) fun us s1 ⟨vs,H1,I1,r,y,ev,q⟩=>⟨I1.kIn,?_⟩) he hpl
 subst ev
 obtain⟨hh,g,d,tk,os⟩:=s1
 obtain⟨tl,N,nm,qn,bs,sn,sub,ab,col,dd,k0,k1,k2,k3,k5,hC,T⟩:=ZL I1.kIn xi.cls
 obtain⟨oI,lI,cI⟩:∃ oI,X.K.lookup f=some oI/\oI.cls=.type "function":=Ar.mp (beq_iff_eq.mp xfn)
 have hl:us.length<=sizeLine:=by
  rw[<- r.length]
  show 1<=sizeLine
  decide
 refine yj Af rfl Af T hC (Aq I1.kIn xin) (I1.kIn _ _ lI) cI hl fun h' e hmk=>?_
 obtain⟨t0,m1,m2,m3⟩:=hmk.there
 have hn:H1 e=none:=by
  cases z:H1 e with
  | none=>rfl
  | some u=>
   obtain⟨ob,eo⟩:=(I1.hok e u z).some
   rw[show hh.get? e=none from hmk.new] at eo
   cases eo
 have I2:=I1.kept (t':=tk) hmk.keeps
 have I3:=I1.adopt' (u:=ExN e C none) hex hmk.new I2 hn (yq (t0:=t0) m1)
 have r2:zR (V.ref e :: [y]) (Value.ref e :: us):=.cons rfl r
 have hsp:Jk C n (V.ref e :: [y]) (upd H1 e (ExN e C none)) (fun v H2=>v=.non/\∃ d,H1 d=none/\d ≠ e/\H2=upd (upd (upd H1 e (ExN e C none)) e (ExN e C (some d))) d (.xd [(n,y)])) E0:=
  ⟨e,y,rfl,zb,fun d hd ne=>⟨rfl,d,by rw[zt ne] at hd;exact hd,ne,rfl⟩⟩
 have hlen:(Value.ref e :: us).length=ps.length:=by rw[<- r2.length];exact F.len _ _ _ _ hsp
 have hb':=hb ⟨h',g,d,tk,os⟩ (Value.ref e :: us) I3.kIn (by rw[Bc];exact hlen)
 rw[Bc] at hb'
 refine BW (B3 (F.run _ X.stack _ _ ⟨Value.ref e :: us,[]⟩ (Value.ref e :: us) _ _ E0 (hr.make C us []) (I3.env0.make C us []) hb' r2 hsp) fun r s' hq'=>?_)
 cases r with
 | error e=>exact False.elim hq'
 | ok fl=>
  cases fl with
  | next=>exact False.elim hq'
  | brk=>exact False.elim hq'
  | cont=>exact False.elim hq'
  | ret u=>
   obtain⟨v,H',I4,rv,ev,d2,hd2,ne2,eH⟩:=I3.after hq'
   subst ev
   subst eH
   refine⟨rv,AA (Co (AB ?_))⟩
   have h4:upd (upd (upd H1 e (ExN e C none)) e (ExN e C (some d2))) d2 (.xd [(n,y)]) e=some (ExN e C (some d2)):=by rw[zt (A3 ne2),zb]
   have I5:=I4.cut (e:=e) h4
   obtain⟨t5,z5⟩:∃ t0,s'.heap.get? e=some (jh C (some d2) t0):=(I4.hok e _ h4).1
   have eH:cut (upd (upd (upd H1 e (ExN e C none)) e (ExN e C (some d2))) d2 (.xd [(n,y)])) e=upd H1 d2 (.xd [(n,y)]):=by
    funext b
    unfold cut
    by_cases z:b=e
    ·rw[if_pos z,z,zt (A3 ne2),hn]
    ·rw[if_neg z]
     by_cases z2:b=d2
     ·rw[z2,zb,zb]
     ·rw[zt z2,zt z,zt z,zt z2]
   rw[eH] at I5
   obtain⟨tl',N',nm',qn',bs',sn',sub',ab',col',dd',k0',k1',k2',k3',k5',hC',T'⟩:=ZL I4.kIn xi.cls
   refine Wl (env:=X.env) (QA T' (by decide)) (I.ok.hd hc) hC' z5 ?_
   refine hx pins σ _ s' e _ _ _ I5 (by rw[zt (A3 ne2)];exact hn) ?_ z5 rfl rfl rfl rfl (q d2 hd2)
   cases z:X.s₀.heap.get? e with
   | none=>rfl
   | some u=>
    obtain⟨o,e1⟩:=I1.base.there e u z (by rw[hex];simp)
    rw[show hh.get? e=none from hmk.new] at e1
    cases e1
def DefI (P:Program) (w:World) (K:PySem.W.Frag) (mg:Str->Option Value) (base:Heap) (k:Nat) (C:Addr) (n:Str) (ps:List Str):Prop:=
 ∃ (f:Addr) (fd:FuncData),PySem.W.findIn K (.ref C) "__init__" = some (some (.ref f))/\PySem.W.isFn K (.ref f)=true/\qA P w K mg base CX0 k f fd ps (Jk C n)/\Binds K fd ps []
theorem Jl {x n:Str} {C:Addr} {k k':Nat} {ps:List Str} {E:XK} {e0:Expr} {es:List Expr} {t:TA} {np cpos pos:Pos} (D:DefI X.prog X.w X.K X.mg X.base k C n ps) (hg:Gl X x) (hm:X.mg x=some (.ref C)) (xi:ExI X.K C n) (hr:jk k' X.A) (hk:k+1<=k')
  (hc:X.calm=true) (hex:X.ex=[]) (hx:QB X E) (ha:PA X (e0 :: es) t) (hdb:(x == ("__debug__" : Str))=false:=by decide)
  (he:starEach (e0 :: es) X.env=(false,eval e0 X.env) :: starEach es X.env:=by rfl) (hpl:(backTo cpos (starEach es X.env)).any (·.1)=false:=by rfl) :
  PS X (.Raise (some (.Call (.Name x np) (e0 :: es) [] cpos)) none pos) (yu C n E t):=by
 obtain⟨f,fd,xin,xfn,F,b⟩:=D
 exact yv hg hm xi xin xfn F (hr.mono hk) b hc hex hx ha hdb he hpl
end
def clsAt (s:Stmt) (j:Nat):Stmt:=match s with
 | .ClassDef _ _ _ b _ _ _ _ _ _ _=>b.getD j (.Pass ⟨0,0,0,0⟩)
 | _=>.Pass ⟨0,0,0,0⟩
section
variable {X : Cx} {tg : Expr}
def rNeT (K:PySem.W.Frag):R2:=fun x y H Q=>∃ p q xs ys,x=.ref p/\y=.ref q/\SqT K H p xs/\SqT K H q ys/\xs.all qK=true/\ys.all qK=true/\xs.length=ys.length/\Q (.bl (!Q2 xs ys)) H
theorem op_neT (K:PySem.W.Frag) {k:Nat} (hr:jk k X.A) (hK:X.K=K:=by rfl):OpR X (compareOp .NotEq) (rNeT K):=by
 subst hK
 intro pins s σ H x y v u Q I rx ry h
 obtain⟨p,q,xs,ys,rfl,rfl,h1,h2,f1,f2,hz,hq⟩:=h
 cases rx
 cases ry
 obtain⟨us,r1,pl1,_⟩:=I.tuple h1
 obtain⟨vs,r2,pl2,_⟩:=I.tuple h2
 have hu:X.A.units < cLine:=Nat.lt_of_succ_lt (hu_of hr)
 have l1:=r1.length
 have l2:=r2.length
 refine SeqAt.RcNeAt.tuples pl1 pl2 hu (QE r1 r2 f1 f2) X.prog X.w _ _ ⟨.bl _,H,I,rfl,?_⟩
 have e:min us.toArray.size vs.toArray.size=xs.length:=by simp;omega
 have e2:(us.toArray.size == vs.toArray.size)=true:=by simp;omega
 rw[e,ZJ xs ys hz,e2,Bool.and_true]
 unfold Q2 at hq
 rw[hz] at hq
 simpa using hq
end
section
variable {prog : Program} {w : World} {A : Around} {E : Value -> Shared -> Prop} {s : Shared}
end
section
variable {X : Cx}
end
section
variable {prog : Program} {w : World} {A : Around} {E : Value -> Shared -> Prop} {s : Shared}
variable {kd : Bool}
variable {z TI TO i1 i2 t1 t2 : Addr} {xs ys : Array Value} {k1 k2 : Nat}
end
section
variable {X : Cx}
end
section
variable {X : Cx}
theorem Jm:OpR X (compareOp .LtE) (fun x y H Q=>∃ i j,x=.str i/\y=.str j/\Q (.bl (!decide (j.cps.toList < i.cps.toList))) H):=by
 intro pins s σ H x y v u Q I rx ry h
 obtain⟨i,j,rfl,rfl,q⟩:=h
 obtain⟨t,rfl⟩:=rx
 obtain⟨t',rfl⟩:=ry
 exact PySem.P.le_str (zI I q rfl)
end
theorem eqV_self {v:V} (h:qK v=true):eqV v v=true:=by
 cases v with
 | non=>rfl
 | bl b=>simp[eqV]
 | int i=>simp[eqV]
 | str x=>simp[eqV]
 | _=>cases h
theorem Paired.at {α β:Type} {F:α->β->Prop}:∀ {l₁:List α} {l₂:List β},Paired F l₁ l₂->∀ (i:Nat) (x:α) (y:β),l₁[i]? = some x->l₂[i]? = some y->F x y
 | _,_,.nil,i,x,y,h,_=>by simp at h
 | _,_,.cons r t,0,x,y,h,k=>by simp at h k;subst h k;exact r
 | _,_,.cons r t,i+1,x,y,h,k=>Paired.at t i x y (by simpa using h) (by simpa using k)
section
variable {X : Cx} {pins : List (Addr × Obj)} {σ : St} {H : Hp} {s : Shared}
end
end L2
namespace L4
open PySem L2
def Tk (H H':Hp):Prop:=∀ b xs,H b=some (.tup xs)->H' b=some (.tup xs)
theorem Tk.put {t:Addr} {H:Hp} {xs:List V} {o:HO} (h:H t=some (.lst xs)):Tk H (upd H t o):=fun c u q=>by rw[zt (JO q h (by intro z;cases z))];exact q
theorem zd {H:Hp} {p:Addr} (h:H p=none) (o:HO):zE H (upd H p o):=fun b u q=>by rw[zt (zF q h)];exact q
theorem Tk.of {H H':Hp} (s:zE H H'):Tk H H':=fun b xs q=>s b _ q
theorem take_snoc {α:Type} {xs:List α} {i:Nat} {x:α} (h:xs[i]? = some x):xs.take (i+1)=xs.take i++[x]:=by rw[List.take_add_one,h];rfl
theorem zh {n:Nat} (h:n<=1000):n<=sizeLine:=Br (zK h)
end L4
namespace Fr
theorem gcd_step' (l s:Int) (h:0 < s):Int.gcd s (l % s)=Int.gcd l s:=by
 have e:l % s=l - s * (l / s):=by rw[Int.emod_def]
 rw[e]
 have:Int.gcd s (l - s * (l / s))=Int.gcd s l:=by
  rw[Int.gcd_comm,Int.gcd_comm s l]
  simp
 rw[this,Int.gcd_comm]
def sg (t b:Int):Int:=if 0 < b then (Int.gcd t b:Int) else -(Int.gcd t b:Int)
theorem frac {t b:Int} (hb:b ≠ 0):sg t b ≠ 0/\0 < b.fdiv (sg t b)/\Int.gcd (t.fdiv (sg t b)) (b.fdiv (sg t b))=1/\t.fdiv (sg t b) * b=t * b.fdiv (sg t b)/\(sg t b).natAbs<=b.natAbs/\(t.fdiv (sg t b)).natAbs<=t.natAbs/\(b.fdiv (sg t b)).natAbs<=b.natAbs:=by
 have hd:0 < Int.gcd t b:=Int.gcd_pos_of_ne_zero_right t hb
 have hdl:Int.gcd t b<=b.natAbs:=Nat.le_of_dvd (by omega) (Int.gcd_dvd_natAbs_right t b)
 have d1:(Int.gcd t b:Int) ∣ t:=Int.gcd_dvd_left t b
 have d2:(Int.gcd t b:Int) ∣ b:=Int.gcd_dvd_right t b
 have hg:sg t b ≠ 0:=by unfold sg;split <;> omega
 have hga:(sg t b).natAbs=Int.gcd t b:=by unfold sg;split <;> omega
 have e1:sg t b ∣ t:=by unfold sg;split;exact d1;exact Int.neg_dvd.mpr d1
 have e2:sg t b ∣ b:=by unfold sg;split;exact d2;exact Int.neg_dvd.mpr d2
 have hpos:0 < sg t b ↔ 0 < b:=by unfold sg;split <;> omega
 generalize sg t b=g at *
 obtain⟨x,hx⟩:=e1
 obtain⟨y,hy⟩:=e2
 have fx:t.fdiv g=x:=by rw[hx];exact Int.mul_fdiv_cancel_left x hg
 have fy:b.fdiv g=y:=by rw[hy];exact Int.mul_fdiv_cancel_left y hg
 rw[fx,fy]
 have ga:Int.gcd t b=g.natAbs * Int.gcd x y:=by rw[hx,hy,Int.gcd_mul_left]
 have g1:Int.gcd x y=1:=by
  rw[hga] at ga
  have:Int.gcd t b * 1=Int.gcd t b * Int.gcd x y:=by omega
  exact (Nat.eq_of_mul_eq_mul_left hd this).symm
 have ny:y ≠ 0:=by intro z;rw[z,Int.mul_zero] at hy;exact hb hy
 refine⟨hg,?_,g1,?_,by omega,?_,?_⟩
 ·by_cases hbp:0 < b
  ·have hgp:=hpos.mpr hbp
   rw[hy] at hbp
   exact Int.pos_of_mul_pos_right hbp hgp |> fun z=>z
  ·have hgn:g < 0:=by
    rcases Int.lt_trichotomy g 0 with z | z | z
    ·exact z
    ·exact absurd z hg
    ·exact absurd (hpos.mp z) hbp
   rcases Int.lt_trichotomy y 0 with z | z | z
   ·exfalso
    apply hbp
    rw[hy]
    exact Int.mul_pos_of_neg_of_neg hgn z
   ·exact absurd z ny
   ·exact z
 ·rw[hx,hy]
  rw[<- Int.mul_assoc,Int.mul_comm x g]
 ·rw[hx,Cu]
  exact Nat.le_mul_of_pos_left _ (by omega)
 ·rw[hy,Cu]
  exact Nat.le_mul_of_pos_left _ (by omega)
end Fr
namespace Fr
theorem ratmk {x y:Int} (y0:0 < y) (g:Int.gcd x y=1):(Rat.divInt x y).num=x/\((Rat.divInt x y).den:Int)=y:=by
 have yn:y.toNat ≠ 0:=by omega
 have ye:(y.toNat:Int)=y:=Bp (Int.le_of_lt y0)
 have c:Nat.Coprime x.natAbs y.toNat:=by
  have e:y.toNat=y.natAbs:=by omega
  unfold Nat.Coprime
  rw[e]
  exact g
 have h:(⟨x,y.toNat,yn,c⟩:Rat)=Rat.divInt x y:=by
  rw[Rat.mk_eq_divInt,ye]
 rw[<- h]
 exact⟨rfl,ye⟩
theorem fracR {t b:Int} (hb:b ≠ 0):t.fdiv (sg t b)=(Rat.divInt t b).num/\b.fdiv (sg t b)=((Rat.divInt t b).den:Int)/\(Rat.divInt t b).num.natAbs<=t.natAbs/\((Rat.divInt t b).den:Int).natAbs<=b.natAbs:=by
 obtain⟨_,f2,f3,f4,_,f6,f7⟩:=frac (t:=t) hb
 have e:Rat.divInt (t.fdiv (sg t b)) (b.fdiv (sg t b))=Rat.divInt t b:=(Rat.divInt_eq_divInt_iff (by omega) hb).mpr f4
 obtain⟨h1,h2⟩:=ratmk f2 f3
 rw[e] at h1 h2
 rw[h1,h2]
 exact⟨rfl,rfl,f6,f7⟩
theorem ratself (r:Rat):Rat.divInt r.num r.den=r:=Rat.num_divInt_den r
theorem den0 (r:Rat):(r.den:Int) ≠ 0:=by
 have:=r.den_nz
 omega
theorem denp (r:Rat):0 < (r.den:Int):=by
 have:=r.den_nz
 omega
theorem ratadd (r s:Rat):Rat.divInt (r.num * s.den+s.num * r.den) (r.den * s.den)=r+s:=by
 rw[<- Rat.divInt_add_divInt _ _ (den0 r) (den0 s),ratself,ratself]
theorem ratsub (r s:Rat):Rat.divInt (r.num * s.den - s.num * r.den) (r.den * s.den)=r - s:=by
 rw[<- Rat.divInt_sub_divInt _ _ (den0 r) (den0 s),ratself,ratself]
theorem ratmul (r s:Rat):Rat.divInt (r.num * s.num) (r.den * s.den)=r * s:=by
 rw[<- Rat.divInt_mul_divInt,ratself,ratself]
end Fr
namespace L4
open PySem L2
def Sz (n:Nat) (i:Int):Prop:=i.natAbs < 2 ^ n
theorem Sz.mul {n m:Nat} {i j:Int} (h:Sz n i) (k:Sz m j):Sz (n+m) (i * j):=by
 unfold Sz at *
 rw[Cu,Nat.pow_add]
 exact Nat.mul_lt_mul'' h k
theorem Sz.add {n:Nat} {i j:Int} (h:Sz n i) (k:Sz n j):Sz (n+1) (i+j):=by
 unfold Sz at *
 rw[CD]
 omega
theorem Sz.sub {n:Nat} {i j:Int} (h:Sz n i) (k:Sz n j):Sz (n+1) (i - j):=by
 unfold Sz at *
 rw[CD]
 omega
theorem Sz.mono {n m:Nat} {i:Int} (h:Sz n i) (k:n<=m):Sz m i:=AN h (BO (by decide) k)
theorem Sz.mid {n:Nat} {i:Int} (h:Sz n i) (k:n<=8000):Mid i:=h.mono k
theorem Sz.le {n:Nat} {i j:Int} (h:Sz n j) (k:i.natAbs<=j.natAbs):Sz n i:=Bu k h
theorem Ql {i j:Int} (h:0 < i) (k:0 < j):i * j ≠ 0:=Int.ne_of_gt (Int.mul_pos h k)
def QG:Sp:=fun vs H Q _=>∃ a b:Int,vs=[.int a,.int b]/\Q (.int (Int.gcd a b:Int)) H
def Qm (C:Addr):Sp:=fun vs H Q E=>∃ t b:Int,vs=[.int t,.int b]/\Mid b/\(b=0->E (.ref C) none H)/\(b ≠ 0->∀ p,H p=none->Q (.ref p) (upd H p (.tup [.int (t.fdiv (Fr.sg t b)),.int (b.fdiv (Fr.sg t b))])))
abbrev tupR (r:Rat):HO:=.tup [.int r.num,.int r.den]
theorem _root_.L2.SqT.same {K:PySem.W.Frag} {H H':Hp} {a:Addr} {xs:List V} (h:SqT K H a xs) (e:zE H H'):SqT K H' a xs:=by
 rcases h with (h | ⟨o,h⟩) | h
 ·exact .inl (.inl (e _ _ h))
 ·exact .inl (.inr ⟨o,e _ _ h⟩)
 ·exact .inr h
theorem _root_.L2.SqT.put {K:PySem.W.Frag} {H:Hp} {a D:Addr} {xs ys:List V} {o:HO} (h:SqT K H a xs) (hD:H D=some (.lst ys)):SqT K (upd H D o) a xs:=by
 rcases h with (h | ⟨u,h⟩) | h
 ·exact .inl (.inl (by rw[zt (JO h hD (by intro z;cases z))];exact h))
 ·exact .inl (.inr ⟨u,by rw[zt (JO h hD (by intro z;cases z))];exact h⟩)
 ·exact .inr h
def FR (K:PySem.W.Frag) (H:Hp) (v:V) (r:Rat) (n:Nat):Prop:=∃ p,v=.ref p/\SqT K H p [.int r.num,.int r.den]/\Sz n r.num/\Sz n r.den
theorem FR.same {K:PySem.W.Frag} {H H':Hp} {v:V} {r:Rat} {n:Nat} (h:FR K H v r n) (s:zE H H'):FR K H' v r n:=by
 obtain⟨p,e,hp,k⟩:=h
 exact⟨p,e,hp.same s,k⟩
theorem FR.mono {K:PySem.W.Frag} {H:Hp} {v:V} {r:Rat} {n m:Nat} (h:FR K H v r n) (k:n<=m):FR K H v r m:=by
 obtain⟨p,e,hp,a,b⟩:=h
 exact⟨p,e,hp,a.mono k,b.mono k⟩
theorem FR.put {K:PySem.W.Frag} {H:Hp} {v:V} {r:Rat} {n:Nat} {D:Addr} {xs:List V} {o:HO} (h:FR K H v r n) (hD:H D=some (.lst xs)):FR K (upd H D o) v r n:=by
 obtain⟨p,e,hp,k⟩:=h
 exact⟨p,e,hp.put hD,k⟩
theorem FR.new {K:PySem.W.Frag} {H:Hp} {p:Addr} {r:Rat} {n:Nat} (a:Sz n r.num) (b:Sz n r.den):FR K (upd H p (tupR r)) (.ref p) r n:=⟨p,rfl,SqT.of zb,a,b⟩
def spR (K:PySem.W.Frag) (op:Rat->Rat->Rat):Sp:=fun vs H Q _=>∃ (a b:V) (r s:Rat) (n m:Nat),vs=[a,b]/\FR K H a r n/\FR K H b s m/\n+m<=7000/\∀ v H',zE H H'->FR K H' v (op r s) (n+m+1)->Q v H'
theorem ansR {K:PySem.W.Frag} {H:Hp} {n:Nat} {t b:Int} {r:Rat} {Q:VK} (h:∀ v H',zE H H'->FR K H' v r n->Q v H') (e:Rat.divInt t b=r) (nb:b ≠ 0) (st:Sz n t) (sb:Sz n b):∀ p,H p=none->Q (.ref p) (upd H p (.tup [.int (t.fdiv (Fr.sg t b)),.int (b.fdiv (Fr.sg t b))])):=fun p hp=>by
 subst e
 obtain⟨f1,f2,f3,f4⟩:=Fr.fracR (t:=t) nb
 rw[f1,f2]
 exact h _ _ (zd hp _) (FR.new (st.le f3) (sb.le f4))
theorem _root_.L2.zE.put {H H':Hp} {l:Addr} {o:HO} (h:zE H H') (n:H l=none):zE H (upd H' l o):=fun b u e=>by rw[zt (zF e n)];exact h b u e
def FRs (K:PySem.W.Frag) (H:Hp) (zs:List (V×Rat)) (n:Nat):Prop:=∀ z ∈ zs,FR K H z.1 z.2 n
end L4
namespace L2
open PySem PySem.Spec PyProof.Rows
variable {X : Cx}
end L2
namespace HT
open PySem PyProof.Rows
open PySem.SeqAt
open PySem.AutoSeq1 (wpAny_loadPart')
open PySem.MeetsSeq PySem.MeetsSeq2 PySem.MeetsSeq3
variable {prog : Program} {w : World} {A : Around} {E : Value -> Shared -> Prop} {s : Shared}
theorem getItem_tuple_whole {t sl:Addr} {items:Array Value} {vl vu:Value} {lo hi:Option Int} {Q:Value->Shared->Prop} (ht:IsTup s.heap t items) (hs:s.heap.IsSliceOf sl vl vu .none) (pl:IsPart vl lo) (pu:IsPart vu hi)
  (hw:sIx items.size 0 lo=0/\sIx items.size items.size hi=items.size)
  (h:Q (.ref t) s):wpAny (model prog w) A (getItem (.ref t) (.ref sl)) Q E s:=by
 obtain⟨os,hos,hcs,hds⟩:=id hs
 have hTs:s.TypeIs (.ref sl) "slice":=⟨os,hos,hcs⟩
 unfold getItem
 try with_reducible refine Aw ?_
 first | refine AA (AB ?_) | skip
 refine AA (wpAny_sequenceKey ht.typeIs (by decide) ?_)
 refine AA (wpAny_callSpecial?_slot (name:=Str.ofString "__getitem__") ht.typeIs Ap
  (BJ Ap ht.typeIs entry_tuple_getitem ?_ (args_tuple_getitem _ _)))
 show wpAny _ _ (Builtin.Tuple.tupleItemsOf (.ref t) >>= _) _ _ s
 refine AA (tupleItemsOf_ ht ?_)
 refine AA (CV hTs ?_)
 rw[if_pos (by decide)]
 refine AA (sliceApplied_gen hs pl pu ?_)
 have hyes:(((sIx items.size 0 lo:Nat):Int) == 0 && (1:Int) == 1 && (sIx items.size items.size hi - sIx items.size 0 lo) == items.size)=true:=by
  rw[hw.1,hw.2]
  simp
 show wpAny _ _ (if (((sIx items.size 0 lo:Nat):Int) == 0 && (1:Int) == 1 && (sIx items.size items.size hi - sIx items.size 0 lo) == items.size)=true then _ else _) _ _ s
 rw[if_pos hyes]
 refine AA (m:=Builtin.Tuple.tupleIsExact _) (AA (CV ht.typeIs (AB ?_)))
 rw[if_pos (by decide)]
 first
  | exact AA (Bq (AB ⟨_,rfl,AB h⟩))
  | exact Bq (AB ⟨_,rfl,AB h⟩)
  | exact AA (Bq ⟨_,rfl,AB h⟩)
  | exact AB ⟨_,rfl,AB h⟩
end HT
namespace L2
open PySem PySem.Spec PyProof.Rows
variable {X : Cx}
def rSlTW (K:PySem.W.Frag):V->Option Int->Option Int->Hp->VK->Prop:=fun x lo hi H Q=>∃ a xs,x=.ref a/\SqT K H a xs /\
 (HT.sIx xs.length 0 lo=0/\HT.sIx xs.length xs.length hi=xs.length)/\Q (.ref a) H
theorem sl_tupW:SlR X (rSlTW X.K):=by
 intro pins s σ H x v vl vu lo hi sl Q I rx hs pl pu h
 obtain⟨a,xs,rfl,hx,hw,q⟩:=h
 cases rx
 obtain⟨its,r,ht,hz⟩:=I.tuple hx
 have hlen:its.toArray.size=xs.length:=by rw[AY];exact r.length.symm
 refine⟨"tuple",_,Ap.lookup,ht.typeIs,?_⟩
 exact HT.getItem_tuple_whole ht hs pl pu (by rw[hlen];exact hw) ⟨.ref a,H,I,rfl,q⟩
section
variable {X : Cx}
def rCatA (K:PySem.W.Frag):R2:=fun x y H Q=>∃ a b xs ys,x=.ref a/\y=.ref b/\SqT K H a xs/\SqT K H b ys/\xs.length+ys.length<=sizeLine /\
 (xs=[]->Q (.ref b) H)/\(xs ≠ []->ys=[]->Q (.ref a) H)/\(xs ≠ []->ys ≠ []->∀ p,H p=none->Q (.ref p) (upd H p (.tup (xs++ys))))
theorem QH (K:PySem.W.Frag) (hK:X.K=K:=by rfl):OpR X (binaryOp .Add) (rCatA K):=by
 subst hK
 intro pins s σ H x y v u Q I rx ry h
 obtain⟨a,b,xs,ys,rfl,rfl,ha,hb,hz,q0,q1,q2⟩:=h
 by_cases hx:xs=[]
 ·cases rx
  cases ry
  obtain⟨its,r1,p1,_⟩:=I.tuple ha
  obtain⟨its2,r2,p2,_⟩:=I.tuple hb
  obtain⟨⟨cls,dd,data,sl⟩,ho,hc,n,hd⟩:=id p1
  obtain⟨⟨cls2,dd2,data2,sl2⟩,ho2,hc2,n2,hd2⟩:=id p2
  simp only at hc hd hc2 hd2
  subst hc hd hc2 hd2
  have hv:its=[]:=(zR.nil_iff r1).mpr hx
  exact concat_meets ⟨_,ho,rfl⟩ ⟨_,ho2,rfl⟩ noFill_tuple_add seq_tuple_add CC B8 (B4 _ _)
   (tuple_addW0 a b its.toArray its2.toArray n n2 dd dd2 sl sl2 (by simp[hv])) ⟨ho,ho2,⟨.ref b,H,I,rfl,q0 hx⟩⟩
 ·exact op_catT pins s σ H _ _ v u Q I rx ry ⟨a,b,xs,ys,rfl,rfl,ha,hb,hx,hz,q1 hx,q2 hx⟩
end
end L2
namespace L4
open PySem L2
open PySem L2 PySem.StrLaws
def Small (x:Str):Prop:=∀ c ∈ x.cps.toList,97<=c/\c<=122
theorem map_str {z:Str} {D:Addr} {t:Nat} {te:TE} {σ0:St} {H1:Hp} {Q:VK} (h:Nat->V) (hl:z.length<=1000) (hD:H1 D=none)
  (he:∀ c ∈ z.cps.toList,∀ H' Q',zE H1 H'->(∀ H'',zE H' H''->Q' (h c) H'')->te (σ0.set t (some (.str ⟨#[c]⟩))) H' Q')
  (q:∀ H',zE H1 H'->H' D=some (.lst (z.cps.toList.map h))->Q (.ref D) H'):ZE (Its z) (Zg t) tYes te σ0 H1 Q D:=by
 refine wH (fun i ys H'=>zE H1 H'/\ys=(z.cps.toList.take i).map h) ⟨zd hD _,rfl⟩ ?_ ?_
 ·rintro i ys H' c hc ⟨s1,rfl⟩ hD'
  have hi:i < z.cps.size:=(Cv.mp hc).1
  have hc':z.cps.toList[i]? = some c:=by simpa using hc
  have hs:z.cps.size=z.length:=rfl
  refine yes (he c (AH hc') H' _ s1 fun H'' s2=>?_)
  refine cyes hi Wi (s2 _ _ hD') (by rw[AF,Al];exact zK (by omega)) ⟨fun b o qb=>?_,?_⟩
  ·rw[zt (zF qb hD)]
   exact s2 b o (s1 b o qb)
  ·rw[take_snoc hc',AU]
   rfl
 ·rintro ys H' ⟨s1,rfl⟩ hD'
  rw[Ah (by simp)] at hD'
  exact q H' s1 hD'
theorem trues {α:Type} (as:List α):as.map (fun _=>V.bl true)=(as.map fun _=>true).map V.bl:=by rw[List.map_map];rfl
theorem yw {α:Type} (as:List α):(as.map fun _=>true).all id=true:=by
 rw[A5]
 intro x hx
 obtain⟨_,_,rfl⟩:=BS.mp hx
 rfl
theorem zE.rfl' {H:Hp}:zE H H:=fun _ _ h=>h
inductive Th where
 | non
 | bl (b:Bool)
 | int (i:Int)
 | str (x:Str)
 | lst
 | dct
 | tup (ts:List Th)
inductive Z2 (H:Hp):Th->V->Prop where
 | non:Z2 H .non .non
 | bl (b:Bool):Z2 H (.bl b) (.bl b)
 | int (i:Int):Z2 H (.int i) (.int i)
 | str (x:Str) (h:x.length<=3000):Z2 H (.str x) (.str x)
 | lst {a:Addr} {xs:List V} (e:H a=some (.lst xs)):Z2 H .lst (.ref a)
 | dct {a:Addr} {kvs:List (Key×V)} (e:H a=some (.dK kvs)):Z2 H .dct (.ref a)
 | tup {a:Addr} {ts:List Th} {xs:List V} (e:H a=some (.tup xs)) (hl:ts.length=xs.length) (h8:ts.length<=1000) (hi:∀ (i:Nat) (t:Th) (x:V),ts[i]? = some t->xs[i]? = some x->Z2 H t x):Z2 H (.tup ts) (.ref a)
theorem Z2.same {H H':Hp} (s:zE H H') {t:Th} {v:V} (h:Z2 H t v):Z2 H' t v:=by
 induction h with
 | non=>exact .non
 | bl b=>exact .bl b
 | int i=>exact .int i
 | str x h=>exact .str x h
 | lst e=>exact .lst (s _ _ e)
 | dct e=>exact .dct (s _ _ e)
 | tup e hl h8 hi ih=>exact .tup (s _ _ e) hl h8 ih
def tyTh:Th->Value
 | .non=>.type "NoneType"
 | .bl _=>.type "bool"
 | .int _=>.type "int"
 | .str _=>.type "str"
 | .lst=>.type "list"
 | .dct=>.type "dict"
 | .tup _=>.type "tuple"
theorem Z2.ty {K:PySem.W.Frag} {H:Hp} {t:Th} {v:V} (h:Z2 H t v):JQ K H v (tyTh t):=by
 cases h with
 | non=>exact .non
 | bl b=>exact .bl b
 | int i=>exact .int i
 | str x h=>exact .str x
 | lst e=>exact .lst e
 | dct e=>exact .dK e
 | tup e hl h8 hi=>exact .tup e
def isIntB:Th->Bool
 | .bl _=>true
 | .int _=>true
 | _=>false
def isBoolB:Th->Bool
 | .bl _=>true
 | _=>false
def isStrB:Th->Bool
 | .str _=>true
 | _=>false
theorem kit_int {K:PySem.W.Frag} (t:Th):PySem.W.kitOne K (tyTh t) (.type "int")=some (isIntB t):=by cases t <;> first | rfl | exact qN _
theorem wO {K:PySem.W.Frag} (t:Th):PySem.W.kitOne K (tyTh t) (.type "bool")=some (isBoolB t):=by cases t <;> first | rfl | exact qN _
theorem ZM {K:PySem.W.Frag} (t:Th):PySem.W.kitOne K (tyTh t) (.type "str")=some (isStrB t):=by cases t <;> first | rfl | exact qN _
def wholeB:Th->Bool
 | .int _=>true
 | _=>false
open Classical in
def Ths (H:Hp):List Th->List V->Prop:=Paired fun t v=>Z2 H t v
theorem Ths.at {H:Hp} {ts:List Th} {vs:List V} (h:Ths H ts vs):∀ (i:Nat) (t:Th) (v:V),ts[i]? = some t->vs[i]? = some v->Z2 H t v:=fun i t v a b=>Paired.at h i t v a b
theorem Ths.len {H:Hp} {ts:List Th} {vs:List V} (h:Ths H ts vs):ts.length=vs.length:=Ac h
theorem Ths.tup {H:Hp} {ts:List Th} {vs:List V} {p:Addr} (h:Ths H ts vs) (e:H p=some (.tup vs)) (h8:ts.length<=1000):Z2 H (.tup ts) (.ref p):=.tup e h.len h8 fun i t v a b=>h.at i t v a b
section
variable {X : Addr -> Prop} {H0 : Hp} {σ : St}
end
end L4
namespace L2
open PySem PySem.Spec PyProof.Rows
open Builtin
section
variable {X : Cx}
end
end L2
namespace L4
open PySem L2
section
variable {B : Th -> Bool} {H0 H : Hp} {l : Addr} {n : Nat} {σ : St}
end
open PySem L2 PySem.StrLaws
end L4
namespace L2
open PySem PySem.Spec PyProof.Rows
open PySem PySem.Spec PyProof.Rows PySem.Builtin PySem.Builtin.Str
section
variable {X : Cx} {e : Expr} {es : List Expr} {te ta tb : TE} {t : TA} {pos : Pos} {a b : Expr} {st : Stmt} {rest : List Stmt} {ts us : TS}
end
section
variable {X : Cx}
end
end L2
namespace L4
open PySem L2 PySem.StrLaws
section
end
open PySem L2
section
variable {X : Addr -> Prop} {H0 H : Hp} {σ : St} {B : Th -> Bool} {l : Addr} {n : Nat}
end
section
end
section
variable {X : Addr -> Prop} {H0 : Hp} {σ : St} {K : PySem.W.Frag}
end
section
end
section
end
end L4
namespace L2
open PySem PySem.Spec PyProof.Rows
section
variable {X : Cx}
theorem zC {f:Value} {r1 r2:List V->Hp->VK->Prop} (h1:qU X f r1) (h2:qU X f r2):qU X f (fun xs H Q=>r1 xs H Q\/r2 xs H Q):=fun pins s σ H xs us Q I rv h=>by
 rcases h with h | h
 ·exact h1 pins s σ H xs us Q I rv h
 ·exact h2 pins s σ H xs us Q I rv h
end
theorem Z3 {c A B:Prop} [Decidable c] (hc:decide c=true) (h:A):if decide c=true then A else B:=by rw[if_pos hc];exact h
theorem J1 {c A B:Prop} [Decidable c] (hc:decide c=false) (h:B):if decide c=true then A else B:=by rw[if_neg (by rw[hc];exact AK)];exact h
def wP (K:PySem.W.Frag) (a:Addr) (xs:List V):Prop:=∃ (o:Obj) (its:Array Value) (n:Nat),K.lookup a=some o/\o.cls=.type "tuple" /\ o.data=.seq its n/\its.size<=sizeLine/\zR xs its.toList
theorem wP.sq {K:PySem.W.Frag} {H:Hp} {a:Addr} {xs:List V} (h:wP K a xs):SqT K H a xs:=.inr h
end L2
namespace L4
open PySem L2
theorem FR.k {K:PySem.W.Frag} {H:Hp} {a:Addr} {r:Rat} {n:Nat} (h:wP K a [.int r.num,.int r.den]) (x:Sz n r.num) (y:Sz n r.den):FR K H (.ref a) r n:=⟨a,rfl,h.sq,x,y⟩
def QI (r s:Rat):Rat:=if s < r then s else r
def jy (r s:Rat):Rat:=if r < s then s else r
def Jn (k:Str) (r s:Rat):Rat:=if s < r then (if k = "least" then s else if k = "cut" then 1 - r+s else s / r) else 1
def J2 (k:Str) (r s:Rat):Rat:=if k = "least" then QI r s else if k = "cut" then jy (r+s - 1) 0 else r * s
def J3 (k nm:Str) (rs:List Rat):Rat:=
 if nm = "false" then 0 else if nm = "true" then 1 else if nm = "not" then Jn k (rs.getD 0 0) 0 else if nm = "then" then Jn k (rs.getD 0 0) (rs.getD 1 0)
 else if nm = "with" then J2 k (rs.getD 0 0) (rs.getD 1 0) else if nm = "or" then jy (rs.getD 0 0) (rs.getD 1 0) else QI (rs.getD 0 0) (rs.getD 1 0)
def Kd (k:Str):Prop:=k = "least" \/ k = "cut" \/ k = "times"
def ZN (K:PySem.W.Frag):Sp:=fun vs H Q _=>∃ (a b:V) (r s:Rat) (n m:Nat),vs=[a,b]/\FR K H a r n/\FR K H b s m/\n+m<=7000/\Q (.bl (decide (r < s))) H
def J4 (K:PySem.W.Frag):Sp:=fun vs H Q _=>∃ (a b:V) (r s:Rat) (n m:Nat),vs=[a,b]/\FR K H a r n/\FR K H b s m/\n+m<=7000/\s ≠ 0/\∀ v H',zE H H'->FR K H' v (r / s) (n+m+1)->Q v H'
def spLG (K:PySem.W.Frag) (f:Rat->Rat->Rat):Sp:=fun vs H Q _=>∃ (a b:V) (r s:Rat) (n m:Nat),vs=[a,b]/\FR K H a r n/\FR K H b s m/\n+m<=7000/\∀ v,FR K H v (f r s) (n+m+1)->Q v H
def Qn (K:PySem.W.Frag) (f:Str->Rat->Rat->Rat):Sp:=fun vs H Q _=>∃ (k:Str) (a b:V) (r s:Rat) (n m:Nat),vs=[.str k,a,b]/\Kd k/\FR K H a r n/\FR K H b s m/\0<=s/\n+m<=6000/\∀ v H',zE H H'->FR K H' v (f k r s) (n+m+10)->Q v H'
def qS (nm:Str):Nat:=if nm = "false" \/ nm = "true" then 0 else if nm = "not" then 1 else 2
def qc:List Str:=["and", "or", "then", "with", "not", "false", "true"]
def yx (K:PySem.W.Frag):Sp:=fun vs H Q _=>∃ (k nm:Str) (g:Addr) (zs:List (V×Rat)) (n:Nat),vs=[.str k,.str nm,.ref g]/\Kd k/\nm ∈ qc/\zs.length=qS nm/\H g=some (.lst (zs.map Prod.fst))/\FRs K H zs n/\(∀ z ∈ zs,0<=z.2)/\n<=3000/\∀ v H',zE H H'->FR K H' v (J3 k nm (zs.map Prod.snd)) (2 * n+12)->Q v H'
end L4
namespace Fr
theorem ratlt (r s:Rat):(r.num * s.den < s.num * r.den) ↔ r < s:=(Rat.lt_iff r s).symm
theorem ratdiv (r s:Rat):Rat.divInt (r.num * s.den) (r.den * s.num)=r / s:=by
 have h:=Rat.divInt_mul_divInt r.num (s.den:Int) (d₁:=(r.den:Int)) (d₂:=s.num)
 rw[ratself] at h
 rw[<- h,Rat.div_def,Rat.inv_def]
end Fr
namespace L2
open PySem PySem.Spec PyProof.Rows
theorem ZO:Manifest.owners.lookup (String.ofList ['d','e','s','r','e','v','e','r'].reverse)=some Manifest.sig_reversed:=by kernel_rfl
theorem qf:Slot "reversed" "__next__" "reversed.__next__":=
 .of (owner := "reversed") (n := "__next__") (by rw[CY,Bo];kernel_rfl) (by decide +kernel) (by decide +kernel) (by decide +kernel)
  (by first | exact .inl (by decide +kernel) | exact .inr (by decide +kernel)) (by rw[Bl];kernel_rfl)
theorem jz:entryFor table "reversed.__next__" = some Builtin.«reversed.__next__»:=entryFor_of_tree (by kernel_rfl)
theorem jp (a:Value):argsOk "reversed.__next__" ⟨[a],[]⟩:=by
 unfold argsOk;rw[signature?_of (id := "reversed.__next__") (n:=['_','_','t','x','e','n','_','_']) (o:=['d','e','s','r','e','v','e','r']) (by kernel_rfl) ZO];kernel_rfl
theorem jb:Slot "reversed" "__length_hint__" "reversed.__length_hint__":=
 .of (owner := "reversed") (n := "__length_hint__") (by rw[CY,Bo];kernel_rfl) (by decide +kernel) (by decide +kernel) (by decide +kernel)
  (by first | exact .inl (by decide +kernel) | exact .inr (by decide +kernel)) (by rw[Bl];kernel_rfl)
theorem Z4:entryFor table "reversed.__length_hint__" = some Builtin.«reversed.__length_hint__»:=entryFor_of_tree (by kernel_rfl)
theorem ZP (a:Value):argsOk "reversed.__length_hint__" ⟨[a],[]⟩:=by
 unfold argsOk;rw[signature?_of (id := "reversed.__length_hint__") (n:=['_','_','t','n','i','h','_','h','t','g','n','e','l','_','_']) (o:=['d','e','s','r','e','v','e','r']) (by kernel_rfl) ZO];kernel_rfl
theorem jT:Slot "reversed" "__iter__" "reversed.__iter__":=
 .of (owner := "reversed") (n := "__iter__") (by rw[CY,Bo];kernel_rfl) (by decide +kernel) (by decide +kernel) (by decide +kernel)
  (by first | exact .inl (by decide +kernel) | exact .inr (by decide +kernel)) (by rw[Bl];kernel_rfl)
theorem ZQ (a:Value):argsOk "reversed.__iter__" ⟨[a],[]⟩:=by
 unfold argsOk;rw[signature?_of (id := "reversed.__iter__") (n:=['_','_','r','e','t','i','_','_']) (o:=['d','e','s','r','e','v','e','r']) (by kernel_rfl) ZO];kernel_rfl
theorem Z5:entryFor table "reversed.__iter__" = some Builtin.«dict_keyiterator.__iter__»:=
 entryFor_alias (id' := "dict_keyiterator.__iter__") (by kernel_rfl) (by first | rfl | decide +kernel | (unfold String.splitOn;simp +decide [String.splitOnAux])) (by decide +kernel) (by kernel_rfl)
theorem Wo:typeLookup (.type "tuple") "__reversed__" = pure none:=am_miss_of_fast (by decide +kernel)
theorem Wp:typeLookup (.type "reversed") "__len__" = pure none:=am_miss_of_fast (by decide +kernel)
theorem QJ:Slot "reversed" "__init__" "object.__init__":=
 .of (owner := "object") (n := "__init__") (by rw[CY,Bo];kernel_rfl) (by decide +kernel) (by decide +kernel) (by decide +kernel)
  (by first | exact .inl (by decide +kernel) | exact .inr (by decide +kernel)) (by rw[Bl];kernel_rfl)
theorem Wq:TypeCalled "reversed" "reversed.__new__" "object.__init__":=
 ⟨by decide +kernel,by decide +kernel,⟨_,_,PySem.F.mro_reversed⟩,PySem.F.made_reversed,by decide +kernel,by rw[Bl];kernel_rfl,QJ⟩
theorem Jo:isSubtype (.type "tuple") (.type "dict")=pure false:=by rw[Bl];kernel_rfl
theorem seq_nat' {v n:Nat} (h:v < n):seqIndex? (v:Int) n=some v:=by
 unfold seqIndex?
 have h1:¬ ((v:Int) < 0):=by omega
 simp only[h1,if_false]
 rw[if_pos (by simp;omega)]
 rfl
def revO (t:Addr) (i:Int):Obj:={ cls:=.type "reversed",data:=.fields #[.ref t,rawInt i] }
def jD (h:Heap) (a t:Addr) (i:Int):Prop:=∃ o,h.get? a=some o/\o.cls=.type "reversed" /\ o.data=.fields #[.ref t,rawInt i]
theorem jD.typeIs {s:Shared} {a t:Addr} {i:Int} (x:jD s.heap a t i):s.TypeIs (.ref a) "reversed":=let ⟨o,ho,hc,_⟩:=x;⟨o,ho,hc⟩
theorem jD.at {h h':Heap} {a t:Addr} {i:Int} (x:jD h a t i) (e:∀ o,h.get? a=some o->h'.get? a=some o):jD h' a t i:=let ⟨o,ho,r⟩:=x;⟨o,e _ ho,r⟩
theorem QK (t:Addr) (items:Array Value) (hz:(items.size:Int) < 2 ^ 63) :
  Meets (Builtin.«reversed.__new__» ⟨[.type "reversed",.ref t],[]⟩) (fun _ R s=>IsTup s.heap t items/\∀ tk,R (.ok (.ret (.ref s.heap.objs.size))) { s with heap:=s.heap.push (revO t ((items.size:Int) - 1)),toks:=tk }):=
 .of_wp fun prog w A R s h=>by
  obtain⟨ht,h⟩:=h
  have hT:s.TypeIs (.ref t) "tuple":=ht.typeIs
  unfold Builtin.«reversed.__new__»
  refine AA (Av (newClass_reversed _) ?_)
  try dsimp only
  refine AA (Av (a:=()) (by first | rfl | kernel_rfl) ?_)
  refine AA (Av (a:=()) (by first | rfl | kernel_rfl) ?_)
  try dsimp only
  refine AA (BM hT Wo ?_)
  try dsimp only
  refine AA ?_
  refine AA (m:=isInstance (.ref t) (.type "dict")) (CP (T := "tuple") (b:=false) hT Jo ?_)
  rw[if_neg AK]
  refine AA (m:=specialOf (.ref t) "__getitem__") (BM hT Ct.lookup ?_)
  refine Av (a:=true) (by first | rfl | kernel_rfl) ?_
  show wpAny _ _ (call (.builtin "len") [.ref t] >>= _) _ _ _
  refine AA (len_tuple ht hz ?_)
  show wpAny _ _ (asInt? (.int items.size (s.toks+1)) >>= _) _ _ _
  refine AA (Av (a:=some (items.size:Int)) rfl ?_)
  show wpAny _ _ (newObj (.type "reversed") (.fields #[.ref t,rawInt ((items.size:Int) - 1)]) >>= _) _ _ _
  refine AA (Aj (AB ?_) (by size_fits))
  exact⟨_,rfl,h _⟩
section
variable {prog : Program} {w : World} {A : Around} {E : Value -> Shared -> Prop} {s : Shared}
theorem jE {t:Addr} {items:Array Value} {Q:Value->Shared->Prop} (ht:IsTup s.heap t items) (hz:(items.size:Int) < 2 ^ 63)
  (h:∀ tk,Q (.ref s.heap.objs.size) { s with heap:=s.heap.push (revO t ((items.size:Int) - 1)),toks:=tk }):wpAny (model prog w) A (call (.type "reversed") [.ref t]) Q E s:=by
 refine callType_new Wq (by decide) (PySem.F.typeCall_reversed_1 _) (PySem.F.newCall_reversed_1 _) (fun obj=>PySem.F.args_object_init_2 obj _) PySem.F.entry_reversed_new (QK t items hz) ⟨ht,fun tk=>?_⟩
 exact⟨⟨_,AM _ rfl,rfl⟩,h tk⟩
theorem QL {it t:Addr} {i:Nat} {items:Array Value} {x:Value} {Q:Option Value->Shared->Prop} (hit:jD s.heap it t (i:Int)) (ht:IsTup s.heap t items) (hx:items[i]? = some x) (hz:(items.size:Int) < 2 ^ 63)
  (hQ:∀ h' tk,jD h' it t ((i:Int) - 1)->Heap.SameBut it s.heap h'->Q (some x) { s with heap:=h',toks:=tk }):wpAny (model prog w) A (pyNext (.ref it)) Q E s:=by
 obtain⟨o,ho,hc,hd⟩:=id hit
 have hi:i < items.size:=by
  rcases BR i items.size with z | z
  ·exact z
  ·rw[Array.getElem?_eq_none z] at hx;cases hx
 unfold pyNext
 refine AA (BQ (wpAny_callSpecial?_slot (name:=Str.ofString "__next__") hit.typeIs qf
  (BJ qf hit.typeIs jz ?_ (jp _))))
 unfold Builtin.«reversed.__next__»
 refine AA (Av (a:=(Value.ref it,[])) rfl ?_)
 try dsimp only
 refine AA (A2 ho hd (x:=.ref t) rfl ?_)
 refine AA (A2 ho hd (x:=rawInt (i:Int)) rfl ?_)
 show wpAny _ _ (if (i:Int) < 0 then _ else _) _ _ s
 rw[if_neg (by omega)]
 show wpAny _ _ (specialOf (.ref t) "__getitem__" >>= _) _ _ s
 refine AA (BM ht.typeIs Ct.lookup ?_)
 show wpAny _ _ (mkInt (i:Int) >>= _) _ _ _
 refine AA (wpAny_mkInt ?_)
 refine AA (BQ (getItem_tuple (s:={ s with toks:=s.toks+1 }) ht (by omega) (by omega) (j:=i) (seq_nat' hi) hx ?_))
 show wpAny _ _ (field (.ref it) 1 >>= _) _ _ _
 refine AA (A2 ho hd (x:=rawInt (i:Int)) rfl ?_)
 show wpAny _ _ (setField (.ref it) 1 (rawInt ((i:Int) - 1)) >>= _) _ _ _
 refine AA (B6 ho hd (by simp) (AB ⟨x,rfl,AB (hQ _ _ ?_ (Cm ..))⟩))
 exact⟨_,A7 _ ho (Obj.isFreed_of_fields (B9 hd _)),(Obj.cls_mapFields ..).trans hc,by
  rw[B9 hd];simp⟩
theorem Jp {it t:Addr} {Q:Option Value->Shared->Prop} (hh:A.handled=none) (hit:jD s.heap it t (-1))
  (hQ:∀ h',Heap.ExtBut it s.heap h'->Q none { s with heap:=h' }):wpAny (model prog w) A (pyNext (.ref it)) Q E s:=by
 obtain⟨o,ho,hc,hd⟩:=id hit
 unfold pyNext
 refine AA (BQ (wpAny_callSpecial?_slot (name:=Str.ofString "__next__") hit.typeIs qf
  (BJ qf hit.typeIs jz ?_ (jp _))))
 unfold Builtin.«reversed.__next__»
 refine AA (Av (a:=(Value.ref it,[])) rfl ?_)
 try dsimp only
 refine AA (A2 ho hd (x:=.ref t) rfl ?_)
 refine AA (A2 ho hd (x:=rawInt (-1)) rfl ?_)
 show wpAny _ _ (if (-1:Int) < 0 then _ else _) _ _ s
 rw[if_pos (by decide)]
 refine AA (Bq ?_)
 refine AA ?_
 refine AA (m:=setField (.ref it) 1 (rawInt (-1))) (B6 ho hd (by simp) ?_)
 have ho2:=A7 (Obj.mapFields fun vs=>vs.set! 1 (rawInt (-1))) ho (Obj.isFreed_of_fields (B9 hd _))
 have hd2:=B9 hd (fun vs=>vs.set! 1 (rawInt (-1)))
 refine B6 ho2 hd2 (by simp) ?_
 refine AA ?_
 show wpAny _ _ (newExc (.type "StopIteration") [] >>= _) _ _ _
 refine AA ?_
 simp only[newExc,newTuple]
 refine AA (Aj ?_ (by size_fits))
 refine AA (m:=firstArgMember _ _) (Av (a:=Value.none) (by first | rfl | (simp only[firstArgMember];rfl)) ?_)
 refine Aj ?_ (by size_fits)
 simp only[raiseNew]
 refine AA (wpAny_handled ?_)
 first | rw[show A.in1.handled=none from hh] | rw[hh]
 refine AA (AB (wpAny_throw ?_))
 refine AA (CP (T := "StopIteration") (b:=true) ⟨_,AM _ rfl,rfl⟩ isSubtype_stop ?_)
 refine AB (hQ _ ?_)
 intro b o' hb e
 exact AC _ (AC _ ((BD _ _ (A3 hb)).trans ((BD _ _ (A3 hb)).trans e)))
theorem Qo {it t:Addr} {i:Int} {Q:Value->Shared->Prop} (hit:jD s.heap it t i) (h:Q (.ref it) s):wpAny (model prog w) A (pyIter (.ref it)) Q E s:=by
 refine wpAny_pyIter_slot hit.typeIs jT (BJ jT hit.typeIs Z5 ?_ (ZQ _))
 show wpAny _ _ (ret (.ref it)) _ _ s
 exact AB ⟨_,rfl, "reversed",_,hit.typeIs,qf.lookup,h⟩
theorem hint_rev {it t:Addr} {i:Nat} {items:Array Value} {Q:Bool->Shared->Prop} (hit:jD s.heap it t ((i:Int) - 1)) (ht:IsTup s.heap t items) (hi:i<=items.size) (hz:items.size<=1000)
  (h:∀ b tk,Q b { s with toks:=tk }):wpAny (model prog w) A (Builtin.List.listLengthHint (.ref it)) Q E s:=by
 obtain⟨o,ho,hc,hd⟩:=id hit
 unfold Builtin.List.listLengthHint
 refine AA (BM hit.typeIs Wp ?_)
 show wpAny _ _ (specialOf (Value.ref it) (Str.ofString "__length_hint__") >>= _) _ _ _
 refine AA (BM hit.typeIs jb.lookup ?_)
 generalize hid:("reversed.__length_hint__" : String)=id0
 wp_delta
 rw[show splitId id0=some ("reversed", "__length_hint__") from by subst hid;decide +kernel]
 subst hid
 refine AA (CP (T := "reversed") (b:=true) hit.typeIs PySem.F.sub_reversed_self ?_)
 refine Bh (fun hab=>absurd hab (by decide)) (fun _=>?_)
 refine Bh (fun hab=>absurd hab (by decide +kernel)) (fun _=>?_)
 refine AA (Bq ?_)
 refine AA (Av (jb.bind _) ?_)
 have htl:Builtin.List.listTooLong ((i:Int).toNat)=false:=by simp[Builtin.List.listTooLong,sizeLine];omega
 have hfi:Builtin.List.listFitsIndex (i:Int)=true:=by simp[Builtin.List.listFitsIndex];omega
 refine AA (BQ (BJ jb hit.typeIs Z4 ?_ (ZP _)))
 unfold Builtin.«reversed.__length_hint__»
 refine AA (Av (a:=Value.ref it) rfl ?_)
 refine AA (A2 ho hd (x:=.ref t) rfl ?_)
 show wpAny _ _ (if (Value.ref t == Value.none)=true then _ else call (.builtin "len") [.ref t] >>= _) _ _ s
 rw[if_neg (show ¬ ((Value.ref t == Value.none)=true) from AK)]
 refine AA (len_tuple ht (by omega) ?_)
 show wpAny _ _ (asInt? (.int items.size (s.toks+1)) >>= _) _ _ _
 refine AA (Av (a:=some (items.size:Int)) rfl ?_)
 refine AA (A2 ho hd (x:=rawInt ((i:Int) - 1)) rfl ?_)
 show wpAny _ _ (if ((items.size:Nat):Int) < ((i:Int) - 1)+1 then _ else _) _ _ _
 rw[if_neg (by omega)]
 rw[show (i:Int) - 1+1=(i:Int) by omega]
 show wpAny _ _ (mkInt (i:Int) >>= fun v=>ret v) _ _ _
 refine AA (wpAny_mkInt (AB ⟨_,rfl,?_⟩))
 have h0:¬ ((i:Int) < 0):=by omega
 dsimp only
 generalize (i:Int)=k at *
 refine AA (m:=asInt? (Value.int k _)) (AB ?_)
 refine Bh (fun hab=>absurd hab (by rw[hfi];decide)) (fun _=>?_)
 refine Bh (fun hab=>absurd hab h0) (fun _=>?_)
 exact Bh (fun hab=>absurd hab (by rw[htl];decide)) (fun _=>AB (h _ _))
end
theorem Walks.rev {prog:Program} {w:World} {A:Around} (hh:A.handled=none) (I l:Addr) (hne:l ≠ I) (items:Array Value) (hz:(items.size:Int) < 2 ^ 63) :
  Walks prog w A I [I,l] [I] items.size (fun i v=>items[items.size - 1 - i]? = some v) (fun i h=>i<=items.size/\jD h I l ((items.size:Int) - 1 - (i:Int))/\IsTup h l items) where
 sub:=fun b hb=>by simp at hb;simp[hb]
 frame:=fun _ _ _ x hk=>⟨x.1,x.2.1.at fun o e=>hk I (by simp) o e,let ⟨o,e,r⟩:=x.2.2;⟨o,hk l (by simp) o e,r⟩⟩
 item:=fun i s Q E hi x hQ=>by
  have e:(items.size:Int) - 1 - (i:Int)=((items.size - 1 - i:Nat):Int):=by omega
  have hit:=x.2.1
  rw[e] at hit
  have hx:items[items.size - 1 - i]? = some (items[items.size - 1 - i]'(by omega)):=Array.getElem?_eq_getElem (by omega)
  refine QL hit x.2.2 hx hz fun h' tk hit' hs'=>?_
  have e2:((items.size - 1 - i:Nat):Int) - 1=(items.size:Int) - 1 - ((i+1:Nat):Int):=by omega
  rw[e2] at hit'
  exact hQ _ h' tk hx ⟨hi,hit',let ⟨o,e,r⟩:=x.2.2;⟨o,(hs'.2 l hne).trans e,r⟩⟩ fun b o hb eo=>hs'.extBut b o (fun h=>hb (by simp[h])) eo
 done:=fun s Q E x hQ=>by
  have e:(items.size:Int) - 1 - (items.size:Int) = -1:=by omega
  have hit:=x.2.1
  rw[e] at hit
  exact Jp hh hit fun h' he'=>hQ h' s.toks fun b o hb eo=>he' b o (fun h=>hb (by simp[h])) eo
 self:=fun _ _ _ _ x hQ=>Qo x.2.1 hQ
section
variable {prog : Program} {w : World} {A : Around} {s : Shared}
theorem Wr {R:Result->Shared->Prop} {it t:Addr} {items:Array Value} (hh:A.handled=none) (hit:jD s.heap it t ((items.size:Int) - 1)) (ht:IsTup s.heap t items) (hne:t ≠ it) (hz:items.size<=1000)
  (S:Addr) (res:Value) (c₀:Nat) (hS:s.heap.get? S=some { cls:=.type "list",data:=.seq #[] c₀ })
  (hR:∀ h' tk acc' c',(∀ b o,b ≠ S->b ≠ it->s.heap.get? b=some o->h'.get? b=some o)->h'.get? S=some { cls:=.type "list",dict:=none,data:=.seq acc' c',slots:=#[] } ->
   ItemsOf (fun i v=>items[items.size - 1 - i]? = some v) acc' items.size->R (.ok (.ret res)) { s with heap:=h',toks:=tk }) :
  wpAny (model prog w) A.in1 (Builtin.List.listExtendWith (.ref S) (.ref it) res)
   (fun fin s'=>match fin with | .done f=>R (.ok f) s' | .again c'=>c'.quiet=true/\codeAny (model prog w) A c' R s') (fun e s'=>R (.error e) s') s:=by
 have hSit:S ≠ it:=fun e=>by
  obtain⟨o,ho,hc,_⟩:=hit
  rw[e,ho] at hS
  have:=AO hS
  rw[this] at hc
  exact absurd hc (show ¬ (Value.type "list" = Value.type _) by decide)
 have hSt:S ≠ t:=fun e=>by
  obtain⟨o,ho,hc,_⟩:=ht
  rw[e,ho] at hS
  have:=AO hS
  rw[this] at hc
  exact absurd hc (show ¬ (Value.type "list" = Value.type _) by decide)
 have hSf:S ∉ [it,t]:=fun hm=>by
  rcases AZ.mp hm with h | h
  ·exact hSit h
  ·exact hSt (AJ.mp h)
 have W:=(Walks.rev (prog:=prog) (w:=w) (A:=A.in1) hh it t hne items (by omega)).toS
 have key:∀ (h:Heap) (c₁ tk:Nat),jD h it t ((items.size:Int) - 1)->IsTup h t items->(∀ b o,b ≠ S->s.heap.get? b=some o->h.get? b=some o) ->
   h.get? S=some { cls:=.type "list",data:=.seq #[] c₁ }->codeAny (model prog w) A (.builtin "list.extend.loop" ⟨[.ref S,.ref it,res],[]⟩) R { s with heap:=h,toks:=tk }:=by
  intro h c₁ tk hit' ht' hk hS₁
  refine codeAny_extend_loopS W (by rw[sizeLine_eq];omega) S hSf res items.size 0 _ #[] c₁ rfl (Ax _) ⟨Ax _,by simpa using hit',ht'⟩ hS₁ (ItemsOf.nil _) fun s' acc' c' hm hS' hacc=>?_
  rw[Moved.eq_with hm]
  refine hR s'.heap s'.toks acc' c' (fun b o hb hi e=>hm.heap b o (fun hmem=>?_) (hk b o hb e)) hS' hacc
  rcases AZ.mp hmem with e' | hmem
  ·exact hb e'
  ·exact hi (AJ.mp hmem)
 unfold Builtin.List.listExtendWith
 refine AA (CV (T := "reversed") hit.typeIs ?_)
 have h1:Builtin.List.listSameRef (.ref S) (.ref it)=false:=by simp[Builtin.List.listSameRef,hSit]
 have h2:(Value.type "reversed" == Value.type "list")=false:=by decide
 have h3:(Value.type "reversed" == Value.type "tuple")=false:=by decide
 simp only[h1,h2,h3,Bool.or_false,Bool.false_eq_true,if_false]
 refine AA (Qo hit ?_)
 refine AA (Aw (hint_rev (i:=items.size) hit ht (AG _) hz fun b tk=>?_))
 refine Bh (fun _=>?_) (fun _=>AB ⟨plainId_quiet PySem.F.plain_extend_loop _,key _ c₀ _ hit ht (fun b o _ e=>e) hS⟩)
 refine AA (Bq ?_)
 refine AA ?_
 show wpAny _ _ (updateSeq S (·.push .none) >>= fun _=>updateSeq S (·.pop)) _ _ _
 refine AA (wpAny_updateSeq hS rfl ?_)
 have hS₂:=A7 (Obj.mapSeq (·.push Value.none)) hS rfl
 refine wpAny_updateSeq (hz:=by seq_fits) hS₂ rfl ?_
 have hS₃:=A7 (Obj.mapSeq (·.pop)) hS₂ rfl
 have oth:∀ b o,b ≠ S->s.heap.get? b=some o->((s.heap.update S (Obj.mapSeq (·.push Value.none))).update S (Obj.mapSeq (·.pop))).get? b=some o:=fun b o hb e=>(BD _ _ (A3 hb)).trans ((BD _ _ (A3 hb)).trans e)
 refine AB ⟨plainId_quiet PySem.F.plain_extend_loop _,key _ _ _ (hit.at fun o e=>oth it o (A3 hSit) e) (let ⟨o,e,r⟩:=ht;⟨o,oth t o (A3 hSt) e,r⟩) oth hS₃⟩
theorem init_rev {R:Result->Shared->Prop} {it t:Addr} {items:Array Value} (hh:A.handled=none) (hit:jD s.heap it t ((items.size:Int) - 1)) (ht:IsTup s.heap t items) (hne:t ≠ it) (hz:items.size<=1000) (S:Addr) (hS:s.heap.get? S=some { cls:=.type "list",data:=.seq #[] })
  (hSt:S ≠ t) (hSi:S ≠ it) (hR:∀ h' tk acc' c',(∀ b o,b ≠ S->b ≠ it->s.heap.get? b=some o->h'.get? b=some o)->h'.get? S=some { cls:=.type "list",dict:=none,data:=.seq acc' c',slots:=#[] } ->
   ItemsOf (fun i v=>items[items.size - 1 - i]? = some v) acc' items.size->R (.ok (.ret .none)) { s with heap:=h',toks:=tk }) :
  wpAny (model prog w) A.in1 (Builtin.«list.__init__» ⟨[.ref S,.ref it],[]⟩)
   (fun fin s'=>match fin with | .done f=>R (.ok f) s' | .again c'=>c'.quiet=true/\codeAny (model prog w) A c' R s') (fun e s'=>R (.error e) s') s:=by
 show wpAny _ _ (do let old <- Builtin.List.listItems (.ref S);Builtin.List.listUpdate (.ref S) (fun _=>#[]);letGo old.toList.reverse;Builtin.List.listExtendWith (.ref S) (.ref it) .none) _ _ s
 refine AA ?_
 unfold Builtin.List.listItems
 refine AA (wpAny_seqItems hS rfl (AB ?_))
 show wpAny _ _ (updateSeq S (fun _=>#[]) >>= fun _=>letGo (#[]:Array Value).toList.reverse >>= fun _=>Builtin.List.listExtendWith (.ref S) (.ref it) .none) _ _ s
 refine AA (wpAny_updateSeq hS rfl ?_)
 have hS₂:=A7 (Obj.mapSeq (fun _=>(#[]:Array Value))) hS rfl
 have oth:∀ b o,b ≠ S->s.heap.get? b=some o->(s.heap.update S (Obj.mapSeq (fun _=>(#[]:Array Value)))).get? b=some o:=
  fun b o hb e=>(BD _ _ (A3 hb)).trans e
 refine AA (wpAny_letGo ?_)
 refine Wr hh (hit.at fun o e=>oth it o (A3 hSi) e) (let ⟨o,e,r⟩:=ht;⟨o,oth t o (A3 hSt) e,r⟩) hne hz S .none _ hS₂ fun h' tk acc' c' hk hS' hacc=>?_
 exact hR h' tk acc' c' (fun b o hb hi e=>hk b o hb hi (oth b o hb e)) hS' hacc
theorem QM {E:Value->Shared->Prop} {Q:Value->Shared->Prop} {it t:Addr} {items:Array Value} (hh:A.handled=none) (hit:jD s.heap it t ((items.size:Int) - 1)) (ht:IsTup s.heap t items) (hne:t ≠ it) (hz:items.size<=1000)
  (hQ:∀ h' tk acc' c',(∀ b o,b ≠ it->s.heap.get? b=some o->h'.get? b=some o) ->
   h'.get? s.heap.objs.size=some { cls:=.type "list",dict:=none,data:=.seq acc' c',slots:=#[] }->ItemsOf (fun i v=>items[items.size - 1 - i]? = some v) acc' items.size->Q (.ref s.heap.objs.size) { s with heap:=h',toks:=tk }) :
  wpAny (model prog w) A (call (.type "list") [.ref it]) Q E s:=by
 refine callType_codes (Q₁:=fun obj s₁=>obj=.ref s.heap.objs.size/\s₁ = { s with heap:=s.heap.push { cls:=.type "list",data:=.seq #[] } }) PySem.F.called_list (PySem.F.typeCall_list_1 _) PySem.F.entry_list_init
  (code_list_new _ ⟨rfl,rfl⟩) fun obj s₁ h₁=>?_
 obtain⟨rfl,rfl⟩:=h₁
 have hS:(s.heap.push { cls:=.type "list",data:=.seq #[] }).get? s.heap.objs.size=some { cls:=.type "list",data:=.seq #[] }:=AM _ rfl
 have lt1:it < s.heap.objs.size:=let ⟨_,e,_⟩:=hit;AI e
 have lt2:t < s.heap.objs.size:=let ⟨_,e,_⟩:=ht;AI e
 refine⟨⟨_,hS,rfl⟩,PySem.F.args_list_init_2 _ _,init_rev (A:=A.in1) hh (hit.at fun o e=>AC _ e) (let ⟨o,e,r⟩:=ht;⟨o,AC _ e,r⟩) hne hz _ hS (Bd lt2) (Bd lt1) fun h' tk acc' c' hk hS' hacc=>?_⟩
 exact⟨rfl,hQ h' tk acc' c' (fun b o hi e=>hk b o (AW (AI e)) hi (AC _ e)) hS' hacc⟩
end
section
variable {κ : Type} [DecidableEq κ]
def ji (kvs:List (κ×V)) (k:κ):Option V:=(kvs.find? fun kv=>decide (kv.1=k)).map (·.2)
def Z6 (kvs:List (κ×V)) (k:κ) (v:V):List (κ×V):=
 if (kvs.any fun kv=>decide (kv.1=k))=true then kvs.map (fun kv=>if kv.1=k then (kv.1,v) else kv) else kvs++[(k,v)]
def Jq (kvs:List (κ×V)) (k:κ):List (κ×V):=kvs.filter fun kv=>decide (kv.1 ≠ k)
theorem qg {p:κ×V} {r:List (κ×V)} {k:κ} (e:p.1=k):ji (p :: r) k=some p.2:=by simp[ji,List.find?_cons,e]
theorem qh {p:κ×V} {r:List (κ×V)} {k:κ} (e:¬ p.1=k):ji (p :: r) k=ji r k:=by simp[ji,List.find?_cons,e]
theorem Zo (k:κ):∀ kvs:List (κ×V),(kvs.any fun kv=>decide (kv.1=k))=(ji kvs k).isSome
 | []=>rfl
 | p :: r=>by
  rw[BA]
  by_cases e:p.1=k
  ·simp only[qg e,decide_eq_true e,Bool.true_or,Option.isSome_some]
  ·rw[qh e,AQ e,Bool.false_or];exact Zo k r
theorem wQ (k j:κ) (y:V):∀ kvs:List (κ×V),ji (kvs.map fun kv=>if kv.1=k then (kv.1,y) else kv) j=(ji kvs j).map fun x=>if j=k then y else x
 | []=>rfl
 | p :: r=>by
  have ih:=wQ k j y r
  rw[Ag]
  by_cases h:p.1=k
  ·rw[if_pos h]
   by_cases e:p.1=j
   ·rw[qg (p:=(p.1,y)) e,qg e,CJ,if_pos (e.symm.trans h)]
   ·rw[qh (p:=(p.1,y)) e,qh e,ih]
  ·rw[if_neg h]
   by_cases e:p.1=j
   ·rw[qg (p:=p) e,qg e,CJ,if_neg (fun z=>h (e.trans z))]
   ·rw[qh (p:=p) e,qh e,ih]
theorem Jr (k j:κ) (y:V):∀ kvs:List (κ×V),ji kvs k=none->ji (kvs++[(k,y)]) j=if j=k then some y else ji kvs j
 | [],_=>by
  by_cases e:k=j
  ·rw[if_pos e.symm];exact qg (p:=(k,y)) e
  ·rw[if_neg (fun z=>e z.symm)];exact qh (p:=(k,y)) e
 | p :: r,hn=>by
  rw[List.cons_append]
  have hk:¬ p.1=k:=fun z=>by rw[qg z] at hn;cases hn
  rw[qh hk] at hn
  have ih:=Jr k j y r hn
  by_cases e:p.1=j
  ·rw[qg e,qg e,if_neg (fun z=>hk (e.trans z))]
  ·rw[qh e,qh e,ih]
theorem QN (kvs:List (κ×V)) (k j:κ) (y:V):ji (Z6 kvs k y) j=if j=k then some y else ji kvs j:=by
 unfold Z6
 by_cases a:(kvs.any fun kv=>decide (kv.1=k))=true
 ·rw[if_pos a,wQ]
  rw[Zo] at a
  by_cases e:j=k
  ·obtain⟨x,hx⟩:=B5.mp a
   rw[if_pos e,e,hx,CJ,if_pos rfl]
  ·rw[if_neg e]
   cases ji kvs j with
   | none=>rfl
   | some x=>rw[CJ,if_neg e]
 ·rw[if_neg a]
  refine Jr k j y kvs ?_
  rw[Zo] at a
  cases q:ji kvs k with
  | none=>rfl
  | some x=>rw[q] at a;exact (a rfl).elim
theorem jF (kvs:List (κ×V)) (k:κ) (v:V):(Z6 kvs k v).length<=kvs.length+1:=by
 unfold Z6
 split
 ·rw[AF];omega
 ·rw[AR,Ay,List.length_nil];omega
theorem JN.isSome_eq {o:Option V} {u:Option Value} (r:JN o u):o.isSome=u.isSome:=by
 cases o with
 | none=>cases u with
  | none=>rfl
  | some _=>exact (show False from r).elim
 | some _=>cases u with
  | none=>exact (show False from r).elim
  | some _=>rfl
theorem JN.getD {o:Option V} {u:Option Value} {d:V} {d':Value} (r:JN o u) (rd:RelV d d'):RelV (o.getD d) (u.getD d'):=by
 cases o with
 | none=>cases u with
  | none=>exact rd
  | some _=>exact (show False from r).elim
 | some _=>cases u with
  | none=>exact (show False from r).elim
  | some _=>exact r
theorem KV.val {kvs:List (κ×V)} {vs:List (κ×Value)} (r:KV kvs vs) (k:κ):JN (ji kvs k) (valueAt vs k):=by
 unfold KV at r
 induction r with
 | nil=>exact True.intro
 | @cons p q ps qs h t ih=>
  obtain⟨h1,h2⟩:=h
  by_cases e:p.1=k
  ·have e':q.1=k:=h1.symm.trans e
   have b:valueAt (q :: qs) k=some q.2:=by simp[valueAt,List.find?_cons,e']
   rw[qg e,b];exact h2
  ·have e':¬ q.1=k:=fun z=>e (h1.trans z)
   have b:valueAt (q :: qs) k=valueAt qs k:=by simp[valueAt,List.find?_cons,e']
   rw[qh e,b];exact ih
theorem KV.any {kvs:List (κ×V)} {vs:List (κ×Value)} (r:KV kvs vs) (k:κ):(kvs.any fun kv=>decide (kv.1=k))=vs.any fun kv=>decide (kv.1=k):=by
 unfold KV at r
 induction r with
 | nil=>rfl
 | cons h t ih=>rw[BA,BA,ih,h.1]
theorem KV.repl {kvs:List (κ×V)} {vs:List (κ×Value)} (r:KV kvs vs) (k:κ) {y:V} {u:Value} (ry:RelV y u) :
  KV (kvs.map fun kv=>if kv.1=k then (kv.1,y) else kv) (vs.map fun kv=>if kv.1=k then (kv.1,u) else kv):=by
 unfold KV at r ⊢
 induction r with
 | nil=>exact .nil
 | @cons p q ps qs h t ih=>
  rw[Ag,Ag]
  refine .cons ?_ ih
  obtain⟨h1,h2⟩:=h
  by_cases e:p.1=k
  ·rw[if_pos e,if_pos (h1.symm.trans e)];exact⟨h1,ry⟩
  ·rw[if_neg e,if_neg (fun z=>e (h1.trans z))];exact⟨h1,h2⟩
theorem KV.put {kvs:List (κ×V)} {vs:List (κ×Value)} (r:KV kvs vs) (k:κ) {y:V} {u:Value} (ry:RelV y u):KV (Z6 kvs k y) (stored vs k u):=by
 unfold Z6 stored
 rw[r.any k]
 by_cases e:(vs.any fun kv=>decide (kv.1=k))=true
 ·rw[if_pos e,if_pos e];exact r.repl k ry
 ·rw[if_neg e,if_neg e];exact Paired.snoc r ⟨rfl,ry⟩
theorem KV.drop {kvs:List (κ×V)} {vs:List (κ×Value)} (r:KV kvs vs) (k:κ):KV (Jq kvs k) (without vs k):=by
 unfold KV at r ⊢
 unfold Jq without
 induction r with
 | nil=>exact .nil
 | @cons p q ps qs h t ih=>
  obtain⟨h1,h2⟩:=h
  rw[List.filter_cons,List.filter_cons]
  by_cases e:p.1=k
  ·have a:¬ decide (p.1 ≠ k)=true:=by simp[e]
   have b:¬ decide (q.1 ≠ k)=true:=by simp[h1.symm.trans e]
   rw[if_neg a,if_neg b];exact ih
  ·have e':¬ q.1=k:=fun z=>e (h1.trans z)
   have a:decide (p.1 ≠ k)=true:=by simp[e]
   have b:decide (q.1 ≠ k)=true:=by simp[e']
   rw[if_pos a,if_pos b];exact .cons ⟨h1,h2⟩ ih
theorem KV.length {kvs:List (κ×V)} {vs:List (κ×Value)} (r:KV kvs vs):kvs.length=vs.length:=Ac r
theorem wR (kvs:List (κ×V)) (k:κ):(Jq kvs k).length<=kvs.length:=List.length_filter_le _ _
end
theorem Js {P:Program} {w:World} {k:Key} {u:Value} (r:RelV (kV k) u):(zQ P w).is k u=true:=by
 cases k with
 | inl i=>obtain⟨t,e⟩:=(show ∃ t,u=Value.int i t from r);subst e;exact JL P w i t
 | inr x=>obtain⟨t,e⟩:=(show ∃ t,u=Value.str x t from r);subst e;exact JM P w x t
theorem Jt {P:Program} {w:World}:∀ {ks:List Key} {us:List Value},zR (ks.map kV) us->ItemsAre (zQ P w) ks us
 | [],_,r=>by rw[Cf] at r;cases r;exact .nil
 | k :: ks,_,r=>by
  rw[Ag] at r
  cases r with
  | cons h t=>exact .cons (Js h) (Jt t)
abbrev KT (H:Hp):List (List Key×V)->List (List Key×Addr×Value)->Prop:=Paired fun p q=>p.1=q.1/\H q.2.1=some (.tup (p.1.map kV))/\RelV p.2 q.2.2
theorem KT.val {H:Hp} {kvs:List (List Key×V)} {xs:List (List Key×Addr×Value)} (r:KT H kvs xs) (k:List Key):JN (ji kvs k) ((atKey xs k).map (·.2)):=by
 induction r with
 | nil=>exact True.intro
 | @cons p q ps qs h t ih=>
  obtain⟨h1,_,h2⟩:=h
  by_cases e:p.1=k
  ·have e':q.1=k:=h1.symm.trans e
   have b:atKey (q :: qs) k=some q.2:=by simp[atKey,List.find?_cons,e']
   rw[qg e,b];exact h2
  ·have e':¬ q.1=k:=fun z=>e (h1.trans z)
   have b:atKey (q :: qs) k=atKey qs k:=by simp[atKey,List.find?_cons,e']
   rw[qh e,b];exact ih
theorem KT.repl {H:Hp} {kvs:List (List Key×V)} {xs:List (List Key×Addr×Value)} (r:KT H kvs xs) (k:List Key) {y:V} {u:Value} (ry:RelV y u) :
  KT H (kvs.map fun kv=>if kv.1=k then (kv.1,y) else kv) (xs.map (putAt k u)):=by
 induction r with
 | nil=>exact .nil
 | @cons p q ps qs h t ih=>
  rw[Ag,Ag]
  refine .cons ?_ ih
  obtain⟨h1,h2,h3⟩:=h
  unfold putAt
  by_cases e:p.1=k
  ·rw[if_pos e,if_pos (h1.symm.trans e)];exact⟨h1,h2,ry⟩
  ·rw[if_neg e,if_neg (fun z=>e (h1.trans z))];exact⟨h1,h2,h3⟩
theorem KT.put {H:Hp} {kvs:List (List Key×V)} {xs:List (List Key×Addr×Value)} (r:KT H kvs xs) (k:List Key) {b:Addr} {y:V} {u:Value} (hb:H b=some (.tup (k.map kV))) (ry:RelV y u) :
  KT H (Z6 kvs k y) (storedH xs k b u):=by
 have e:(kvs.any fun kv=>decide (kv.1=k))=(atKey xs k).isSome:=by
  rw[Zo,(r.val k).isSome_eq,Ce]
 unfold Z6 storedH
 rw[e]
 by_cases q:(atKey xs k).isSome=true
 ·rw[if_pos q,if_pos q];exact r.repl k ry
 ·rw[if_neg q,if_neg q];exact Paired.snoc r ⟨rfl,hb,ry⟩
theorem KT.keeps {H H':Hp} {kvs:List (List Key×V)} {xs:List (List Key×Addr×Value)} (r:KT H kvs xs) (ht:∀ b ys,H b=some (.tup ys)->H' b=some (.tup ys)):KT H' kvs xs:=
 Paired.mapP r fun _ _ z=>⟨z.1,ht _ _ z.2.1,z.2.2⟩
section
variable {P : Program} {w : World} {H : Hp} {h : Heap} {a : Addr}
theorem rd_of {u:HO} (ok:HOk P w H h) (e:Rd H a u):zV P w H h a u:=e.ok ok
theorem yy {kvs:List (Key×V)} (ok:HOk P w H h) (e:Rd H a (.dK kvs)):kvs.length<=sizeLine/\(a == sysModules)=false/\∃ vs,KV kvs vs/\h.DictOf (zQ P w) a vs:=
 show zV P w H h a (.dK kvs) from rd_of ok e
theorem dk_of {kvs:List (Key×V)} (ok:HOk P w H h) (e:H a=some (.dK kvs)):kvs.length<=sizeLine/\(a == sysModules)=false/\∃ vs,KV kvs vs/\h.DictOf (zQ P w) a vs:=yy ok (.inl e)
theorem Ju {ks:List Key} (ok:HOk P w H h) (e:H a=some (.tup (ks.map kV))):(tupleKind (zQ P w)).is h ks a:=by
 obtain⟨_,its,r,o,h1,h2,⟨n,h3⟩,_⟩:=(show zV P w H h a (.tup (ks.map kV)) from ok a _ e)
 exact⟨o,its.toArray,n,h1,h2,h3,by simpa using Jt r⟩
theorem yz {kvs:List (List Key×V)} (ok:HOk P w H h) (e:Rd H a (.dT kvs)):kvs.length<=sizeLine/\(a == sysModules)=false /\
  ∃ xs,KT H kvs xs/\h.DictOfH (tupleKind (zQ P w)) a xs:=by
 obtain⟨z,y,xs,r,o,es,ep,h1,h2,h3,h4,h5⟩:=(show zV P w H h a (.dT kvs) from rd_of ok e)
 refine⟨z,y,xs,r,o,es,ep,h1,h2,h3,h4,fun x hx=>?_,h5⟩
 have all:∀ {l:List (List Key×V)} {m:List (List Key×Addr×Value)},KT H l m->∀ x ∈ m,(tupleKind (zQ P w)).is h x.1 x.2.1:=by
  intro l m q
  induction q with
  | nil=>intro x hx;exact nomatch hx
  | @cons p q ps qs hq t ih=>
   intro x hx
   rcases AZ.mp hx with e | hx
   ·subst e
    exact Ju ok (by rw[<- hq.1];exact hq.2.1)
   ·exact ih x hx
 exact all r x hx
theorem dt_of {kvs:List (List Key×V)} (ok:HOk P w H h) (e:H a=some (.dT kvs)):kvs.length<=sizeLine/\(a == sysModules)=false /\
  ∃ xs,KT H kvs xs/\h.DictOfH (tupleKind (zQ P w)) a xs:=yz ok (.inl e)
end
def DGet (H:Hp) (a:Addr) (y:V) (r:Option V):Prop:=
 (∃ kvs k,Rd H a (.dK kvs)/\y=kV k/\r=ji kvs k)\/∃ kvs k b,Rd H a (.dT kvs)/\y=.ref b/\H b=some (.tup (k.map kV))/\r=ji kvs k
def DPut (H:Hp) (a:Addr) (y v:V) (H':Hp):Prop:=
 (∃ kvs k,H a=some (.dK kvs)/\y=kV k/\kvs.length < sizeLine/\H'=upd H a (.dK (Z6 kvs k v))) \/
 ∃ kvs k b,H a=some (.dT kvs)/\y=.ref b/\H b=some (.tup (k.map kV))/\kvs.length < sizeLine/\H'=upd H a (.dT (Z6 kvs k v))
theorem DGet.k {H:Hp} {a:Addr} {kvs:List (Key×V)} {k:Key} (e:H a=some (.dK kvs)):DGet H a (kV k) (ji kvs k):=.inl ⟨kvs,k,.inl e,rfl,rfl⟩
theorem DPut.k {H:Hp} {a:Addr} {kvs:List (Key×V)} {k:Key} {v:V} (e:H a=some (.dK kvs)) (hl:kvs.length < sizeLine):DPut H a (kV k) v (upd H a (.dK (Z6 kvs k v))):=.inl ⟨kvs,k,e,rfl,hl,rfl⟩
section
variable {X : Cx} {pins : List (Addr × Obj)} {σ : St} {H : Hp} {s : Shared} {a : Addr} {y v : V} {u r : Value} {o : Option V} {A : Around} {E : Value -> Shared -> Prop}
theorem Inv.big (I:Inv X pins σ H s):sysModules < s.heap.objs.size:=by
 have h:mainGlobals < s.heap.objs.size:=(I.mod.glob.keeps I.bk).lt
 exact Nat.lt_trans (by decide) h
theorem d_in {Q:Value->Shared->Prop} (hu:A.units+1 < cLine) (I:Inv X pins σ H s) (g:DGet H a y o) (ry:RelV y u) (h:∀ s',Inv X pins σ H s'->Q (.bool o.isSome) s') :
  wpAny (model X.prog X.w) A (compareOp .In u (.ref a)) Q E s:=by
 rcases g with ⟨kvs,k,e,ey,l⟩ | ⟨kvs,k,b,e,ey,eb,l⟩
 ·subst ey
  obtain⟨z,hd,vs,rel,dd⟩:=yy I.hok e
  refine wpAny_in_of (Js ry) hd dd.mapOf ?_
  rw[<- (rel.val k).isSome_eq,<- l]
  exact h _ (I.tok _)
 ·subst ey
  cases (show u=Value.ref b from ry)
  obtain⟨z,hd,xs,rel,dd⟩:=yz I.hok e
  refine wpAny_in_heap (B7 hu) (Ju I.hok eb) hd dd ?_
  have q:=(rel.val k).isSome_eq
  rw[Ce] at q
  rw[<- q,<- l]
  exact h _ (I.tok _)
theorem d_notIn {Q:Value->Shared->Prop} (hu:A.units+1 < cLine) (I:Inv X pins σ H s) (g:DGet H a y o) (ry:RelV y u) (h:∀ s',Inv X pins σ H s'->Q (.bool (!o.isSome)) s') :
  wpAny (model X.prog X.w) A (compareOp .NotIn u (.ref a)) Q E s:=by
 rcases g with ⟨kvs,k,e,ey,l⟩ | ⟨kvs,k,b,e,ey,eb,l⟩
 ·subst ey
  obtain⟨z,hd,vs,rel,dd⟩:=yy I.hok e
  refine wpAny_notIn_of (Js ry) hd dd.mapOf ?_
  rw[<- (rel.val k).isSome_eq,<- l]
  exact h _ (I.tok _)
 ·subst ey
  cases (show u=Value.ref b from ry)
  obtain⟨z,hd,xs,rel,dd⟩:=yz I.hok e
  refine wpAny_notIn_heap (B7 hu) (Ju I.hok eb) hd dd ?_
  have q:=(rel.val k).isSome_eq
  rw[Ce] at q
  rw[<- q,<- l]
  exact h _ (I.tok _)
theorem QO {h':Heap} {t':Nat} {ob:HO} (I:Inv X pins σ H s) (mu:Mut (H a)) (hs:Heap.SameBut a s.heap h') (he:∃ q,h'.get? a=some q) (new:zV X.prog X.w (upd H a ob) h' a ob) :
  Inv X pins σ (upd H a ob) { s with heap:=h',toks:=t' }:=
 I.write (x:=a) (e:=a) mu (.inl rfl) (fun b q hb z=>(hs.2 b hb).trans z) he new
theorem yA {P:Program} {w:World} {H':Hp} {h':Heap} {kvs:List (Key×V)} {vs:List (Key×Value)} (z:kvs.length<=sizeLine) (hd:(a == sysModules)=false) (rel:KV kvs vs) (dd:h'.DictOf (zQ P w) a vs) :
  zV P w H' h' a (.dK kvs):=⟨z,hd,vs,rel,dd⟩
theorem yB {H':Hp} {Q:Unit->Shared->Prop} (hu:A.units+1 < cLine) (I:Inv X pins σ H s) (g:DPut H a y v H') (ry:RelV y u) (rv:RelV v r) (h:∀ s',Inv X pins σ H' s'->Q () s') :
  wpAny (model X.prog X.w) A (setItem (.ref a) u r) Q E s:=by
 rcases g with ⟨kvs,k,e,ey,l,eH⟩ | ⟨kvs,k,b,e,ey,eb,l,eH⟩
 ·subst ey eH
  obtain⟨z,hd,vs,rel,dd⟩:=dk_of I.hok e
  have hz:vs.length<=sizeLine:=by rw[<- rel.length];exact z
  have hl:(Z6 kvs k v).length<=sizeLine:=by have:=jF kvs k v;omega
  refine wpAny_setItem_pairs (hsz:=hz) (Js ry) dd fun h' dd' hs=>h _ ?_
  have he:∃ q,h'.get? a=some q:=let ⟨q,_,_,hq,_⟩:=dd';⟨q,hq⟩
  exact QO I (by rw[e];exact True.intro) hs he (yA hl hd (rel.put k rv) dd')
 ·subst ey eH
  cases (show u=Value.ref b from ry)
  obtain⟨z,hd,xs,rel,dd⟩:=dt_of I.hok e
  have hz:xs.length<=sizeLine:=by rw[<- Ac rel];exact z
  have hl:(Z6 kvs k v).length<=sizeLine:=by have:=jF kvs k v;omega
  refine wpAny_setItem_heap (hsz:=hz) (B7 hu) (Ju I.hok eb) dd fun h' dd' hs=>h _ ?_
  obtain⟨q,es,ep,hq,h2,h3,h4,_,h5⟩:=dd'
  refine QO I (by rw[e];exact True.intro) hs ⟨q,hq⟩ ⟨hl,hd,_,(rel.put k eb rv).keeps fun c ys ec=>?_,q,es,ep,hq,h2,h3,h4,h5⟩
  rw[zt (JO ec e (fun z=>nomatch z))]
  exact ec
end
section
variable {X : Cx} {pins : List (Addr × Obj)} {σ : St} {H : Hp} {s : Shared} {a : Addr} {kvs : List (Key × V)} {k : Key} {u : Value} {A : Around} {E : Value -> Shared -> Prop}
theorem d_pop {v:V} {more:List Value} {Q:Value->Shared->Prop} (I:Inv X pins σ H s) (e:H a=some (.dK kvs)) (ry:RelV (kV k) u) (l:ji kvs k=some v) (hm:more=[]\/∃ x,more=[x])
  (h:∀ w' s',Inv X pins σ (upd H a (.dK (Jq kvs k))) s'->RelV v w'->Q w' s'):wpAny (model X.prog X.w) A (call (.builtin "dict.pop") (.ref a :: u :: more)) Q E s:=by
 obtain⟨z,hd,vs,rel,dd⟩:=dk_of I.hok e
 obtain⟨w',hw,rw'⟩:=JN.some_of (v:=v) (o:=valueAt vs k) (by rw[<- l];exact rel.val k)
 have hp:(keyPart u).isSome=true:=by
  cases k with
  | inl i=>obtain⟨t,q⟩:=(show ∃ t,u=Value.int i t from ry);subst q;rfl
  | inr x=>obtain⟨t,q⟩:=(show ∃ t,u=Value.str x t from ry);subst q;rfl
 have ha:argsOk "dict.pop" ⟨.ref a :: u :: more,[]⟩:=by
  rcases hm with q | ⟨x,q⟩
  ·subst q;exact PySem.F.args_dict_pop_2 _ _
  ·subst q;exact PySem.F.args_dict_pop_3 _ _ _
 refine call_meetsIn PySem.F.slot_dict_pop dd.typeIs PySem.F.entry_dict_pop ha (meets_dict_pop_there (zQ X.prog X.w) a (Js ry) more hm hp)
  ⟨vs,w',dd,by rw[<- rel.length];exact z,hw,fun h' dd' hs=>h w' _ ?_ rw'⟩
 have he:∃ q,h'.get? a=some q:=let ⟨q,_,_,hq,_⟩:=dd';⟨q,hq⟩
 exact QO I (by rw[e];exact True.intro) hs he (yA (Ab (wR kvs k) z) hd (rel.drop k) dd')
end
def NoSl (i:Expr):Prop:=∀ ov iv,subscripted i false ov iv=operate [ov,iv] (getItem ov iv)
theorem subD_of {prog:Program} {w:World} {A:Around} {E:Value->Shared->Prop} {s:Shared} {env:Env} {value slice:Expr} {pos:Pos} {T id:String} {Q:Value->Shared->Prop}
  (hl:typeLookup (.type T) "__getitem__" = pure (some (.builtin id))) (hs:NoSl slice)
  (h:wpAny (model prog w) A (eval value env) (fun o s₁=>wpAny (model prog w) A (eval slice env) (fun i s₂=>s₂.TypeIs o T/\wpAny (model prog w) A (getItem o i) Q E s₂) E s₁) E s) :
  wpAny (model prog w) A (eval (.Subscript value slice pos) env) Q E s:=by
 refine Subscript_ (A4 h (fun o s₁ h₁=>A4 h₁ (fun i s₂ h₂=>?_) fun _ _ x=>x) fun _ _ x=>x)
 obtain⟨hT,h₂⟩:=h₂
 unfold subscriptTail
 refine AA ?_
 rw[getitemInPython_of_ne hT.not_modules]
 refine AA (BM hT hl ?_)
 have fin:wpAny (model prog w) A (subscripted slice false o i) (fun r s₃=>wpAny (model prog w) A (letTemporaryGo value o r >>= fun _=>pure r) Q E s₃) E s₂:=by
  rw[hs o i]
  exact wpAny_operating (A4 h₂ (fun r s₃ h₃=>AA (wpAny_letTemporaryGo (AB h₃))) fun _ _ x=>x)
 first
  | exact AB (AA fin)
  | exact AA (AB (AA fin))
  | exact AA fin
section
variable {X : Cx} {o i e value : Expr} {pos pos' tpos : Pos} {td ty tv : TE}
end
theorem wS {P:Program} {w:World} {H:Hp} (h:Heap) (hb:sysModules < h.objs.size):zV P w H (h.push { cls:=.type "dict",data:=.dict #[] }) h.objs.size (.dK []):=
 ⟨Ax _,beq_eq_false_iff_ne.mpr (A3 (AW hb)),[],.nil,Heap.DictOf.new h⟩
def tDNewK:TE:=fun _ H Q=>∀ p,H p=none->Q (.ref p) (upd H p (.dK []))
section
variable {X : Cx} {pos : Pos}
theorem pe_dnewK:PE X (.Dict [] [] pos) tDNewK:=fun pins s σ H Q I h=>
 wpAny_Dict_empty ⟨.ref s.heap.objs.size,_,I.laid (a:=s.heap.objs.size) (o:=.dK []) (t':=s.toks) (fun _ _ q=>AC _ q) (AG _) (wS s.heap I.big),rfl,h _ (I.hok.fresh (AG _))⟩
end
def yC:List (TE×TE)->St->Hp->(List (V×V)->Hp->Prop)->Prop
 | [],_,H,Q=>Q [] H
 | (tk,tv) :: r,σ,H,Q=>tk σ H fun x H1=>tv σ H1 fun y H2=>yC r σ H2 fun ps H3=>Q ((x,y) :: ps) H3
abbrev VV:List (V×V)->List (Value×Value)->Prop:=Paired fun p q=>RelV p.1 q.1/\RelV p.2 q.2
def PPs (X:Cx) (pos:Pos) (keys:List (Option Expr)) (values:List Expr) (trs:List (TE×TE)):Prop:=
 ∀ (pins:List (Addr×Obj)) (s:Shared) (σ:St) (H:Hp) (Q:List (V×V)->Hp->Prop),Inv X pins σ H s->yC trs σ H Q ->
  wpAny (model X.prog X.w) X.A (evalPairs (pairTrees keys values X.env pos)) (fun vs s'=>∃ ps H',Inv X pins σ H' s'/\VV ps vs/\Q ps H') X.xe s
theorem pps_nil {X:Cx} {pos:Pos}:PPs X pos [] [] []:=fun pins s σ H Q I h=>pairTrees_nil_walk ⟨[],H,I,.nil,h⟩
theorem jc {X:Cx} {pos:Pos} {k v:Expr} {ks:List (Option Expr)} {vs:List Expr} {tk tv:TE} {trs:List (TE×TE)} (hk:PE X k tk) (hv:PE X v tv) (hr:PPs X pos ks vs trs) :
  PPs X pos (some k :: ks) (v :: vs) ((tk,tv) :: trs):=fun pins s σ H Q I h=>
 pairTrees_cons_walk (thn (hk pins s σ H _ I h) fun u s1 ⟨x,H1,I1,rx,q1⟩=>thn (hv pins s1 σ H1 _ I1 q1) fun w2 s2 ⟨y,H2,I2,ry,q2⟩=>
  thn (hr pins s2 σ H2 _ I2 q2) fun ws s3 ⟨ps,H3,I3,rel,q3⟩=>⟨(x,y) :: ps,H3,I3,.cons ⟨rx,ry⟩ rel,q3⟩)
def qI (kvs more:List (Key×V)):List (Key×V):=more.foldl (fun acc kv=>Z6 acc kv.1 kv.2) kvs
theorem KV.merge:∀ {more:List (Key×V)} {rs:List (Key×Value)} {kvs:List (Key×V)} {vs:List (Key×Value)},KV more rs->KV kvs vs->KV (qI kvs more) (merged vs rs):=by
 intro more rs kvs vs r
 unfold KV at r
 induction r generalizing kvs vs with
 | nil=>intro q;exact q
 | @cons p q ps qs h t ih=>
  intro r0
  have e:KV (Z6 kvs p.1 p.2) (stored vs q.1 q.2):=by
   have:=r0.put p.1 h.2
   rw[<- h.1];exact this
  exact ih e
theorem jU:∀ (more kvs:List (Key×V)),(qI kvs more).length<=kvs.length+more.length
 | [],kvs=>by show kvs.length<=kvs.length+0;omega
 | p :: r,kvs=>by
  have h1:=jU r (Z6 kvs p.1 p.2)
  have h2:=jF kvs p.1 p.2
  show (qI (Z6 kvs p.1 p.2) r).length<=_
  rw[Ay];omega
theorem Qp {P:Program} {w:World}:∀ {kvs:List (Key×V)} {ws:List (Value×Value)},VV (kvs.map fun kv=>(kV kv.1,kv.2)) ws->∃ rs,Carries (zQ P w) ws rs/\KV kvs rs
 | [],_,r=>by rw[Cf] at r;cases r;exact⟨[],True.intro,.nil⟩
 | p :: kvs,_,r=>by
  rw[Ag] at r
  cases r with
  | @cons a b as bs h t=>
   obtain⟨rs,c,q⟩:=Qp (P:=P) (w:=w) t
   obtain⟨b1,b2⟩:=b
   exact⟨(p.1,b2) :: rs,⟨Js h.1,rfl,c⟩,.cons ⟨rfl,h.2⟩ q⟩
def tDisp (trs:List (TE×TE)):TE:=fun σ H Q=>∀ p,H p=none->yC trs σ (upd H p (.dK [])) fun ps H2=>H2 p=some (.dK [])/\∃ kvs:List (Key×V),ps=kvs.map (fun kv=>(kV kv.1,kv.2))/\kvs.length<=15/\Q (.ref p) (upd H2 p (.dK (qI [] kvs)))
theorem pe_disp {X:Cx} {pos:Pos} {keys:List (Option Expr)} {values:List Expr} {trs:List (TE×TE)} (h:PPs X pos keys values trs) (hall:keys.all (·.isSome)=true) (hl:keys.length=values.length) (h0:keys ≠ [])
  (h15:keys.length<=15):PE X (.Dict keys values pos) (tDisp trs):=by
 intro pins s σ H Q I q
 have hn:=I.hok.fresh (AG s.heap.objs.size)
 have I1:=I.laid (a:=s.heap.objs.size) (o:=.dK []) (h':=s.heap.push { cls:=.type "dict",data:=.dict #[] }) (t':=s.toks) (fun _ _ q=>AC _ q) (AG _) (wS s.heap I.big)
 refine wpAny_Dict_walk (knd:=zQ X.prog X.w) hall hl h0 h15 (thn (h pins _ σ _ _ I1 (q _ hn)) fun ws s2 ⟨ps,H2,I2,rel,e,kvs,ep,lk,q2⟩=>?_)
 subst ep
 obtain⟨rs,c,rk⟩:=Qp (P:=X.prog) (w:=X.w) rel
 obtain⟨z,hd,vs0,r0,dd⟩:=dk_of I2.hok e
 cases r0
 refine⟨rs,c,dd,fun h' dd' hs=>⟨.ref s.heap.objs.size,_,?_,rfl,q2⟩⟩
 have hz:(qI [] kvs).length<=sizeLine:=by
  have h1:=jU kvs []
  rw[List.length_nil] at h1
  rw[sizeLine_eq];omega
 have he:∃ q,h'.get? s.heap.objs.size=some q:=let ⟨q,_,_,hq,_⟩:=dd';⟨q,hq⟩
 exact QO I2 (by rw[e];exact True.intro) hs he (yA hz hd (rk.merge .nil) dd')
structure M1 (X:Cx) (o:Expr) (m:Str) (apos:Pos) (e:Expr) (cpos:Pos):Prop where
 base:attributeBase o m X.env (eval o X.env)=eval o X.env
 few:((backTo cpos (starEach [e] X.env)).all (fun x=>!x.1) && (backToKw cpos (keywordEach [] X.env)).all (fun x=>x.1.isSome)
  && decide (([e]:List Expr).length+([]:List Keyword).length+(if ([]:List Keyword).isEmpty then 0 else 1) < 30))=true
 line:(apos.endLine == cpos.line)=true
 trees:backTo cpos (starEach [e] X.env)=[(false,eval e X.env)]
structure M2 (X:Cx) (o:Expr) (m:Str) (apos:Pos) (e f:Expr) (cpos:Pos):Prop where
 base:attributeBase o m X.env (eval o X.env)=eval o X.env
 few:((backTo cpos (starEach [e,f] X.env)).all (fun x=>!x.1) && (backToKw cpos (keywordEach [] X.env)).all (fun x=>x.1.isSome)
  && decide (([e,f]:List Expr).length+([]:List Keyword).length+(if ([]:List Keyword).isEmpty then 0 else 1) < 30))=true
 line:(apos.endLine == cpos.line)=true
 trees:backTo cpos (starEach [e,f] X.env)=[(false,eval e X.env),(false,eval f X.env)]
def IsD (H:Hp) (a:Addr):Prop:=(∃ kvs,Rd H a (.dK kvs))\/∃ kvs,Rd H a (.dT kvs)
theorem isD_at {X:Cx} {pins:List (Addr×Obj)} {σ:St} {H:Hp} {s:Shared} {a:Addr} (I:Inv X pins σ H s) (d:IsD H a) :
  s.TypeIs (.ref a) "dict" /\ (∀ b,Value.ref a=.ref b->∃ ob,s.heap.get? b=some ob/\ob.dict=none)/\(a == sysModules)=false:=by
 rcases d with ⟨kvs,e⟩ | ⟨kvs,e⟩
 ·obtain⟨_,hd,vs,_,dd⟩:=yy I.hok e
  refine⟨dd.typeIs,fun b q=>?_,hd⟩
  cases q
  obtain⟨ob,_,_,h1,h2,_⟩:=dd
  exact⟨ob,h1,h2.2.1⟩
 ·obtain⟨_,hd,xs,_,dd⟩:=yz I.hok e
  refine⟨dd.typeIs,fun b q=>?_,hd⟩
  cases q
  obtain⟨ob,_,_,h1,h2,_⟩:=dd
  exact⟨ob,h1,h2.2.1⟩
section
variable {X : Cx} {pins : List (Addr × Obj)} {σ : St} {H : Hp} {s : Shared} {a : Addr} {y d : V} {u r : Value} {o : Option V} {A : Around} {E : Value -> Shared -> Prop}
theorem d_get2 {Q:Value->Shared->Prop} (hu:A.units+1 < cLine) (I:Inv X pins σ H s) (g:DGet H a y o) (ry:RelV y u) (rd:RelV d r) (h:∀ w' s',Inv X pins σ H s'->RelV (o.getD d) w'->Q w' s') :
  wpAny (model X.prog X.w) A (call (.builtin "dict.get") [.ref a,u,r]) Q E s:=by
 rcases g with ⟨kvs,k,e,ey,l⟩ | ⟨kvs,k,b,e,ey,eb,l⟩
 ·subst ey
  obtain⟨z,hd,vs,rel,dd⟩:=yy I.hok e
  refine call_meetsIn CO dd.typeIs PySem.F.entry_dict_get (PySem.F.args_dict_get_3 _ _ _) (meets_dict_get_default (zQ X.prog X.w) a (Js ry) hd r) ⟨_,dd.mapOf,h _ _ (I.tok _) ?_⟩
  rw[l]
  exact (rel.val k).getD rd
 ·subst ey
  cases (show u=Value.ref b from ry)
  obtain⟨z,hd,xs,rel,dd⟩:=yz I.hok e
  refine call_meetsIn CO dd.typeIs PySem.F.entry_dict_get (PySem.F.args_dict_get_3 _ _ _) (meetsH_dict_get_default (tupleKind (zQ X.prog X.w)) a b hd r) ⟨B7 hu,k,xs,Ju I.hok eb,dd,h _ _ (I.tok _) ?_⟩
  rw[l]
  exact (rel.val k).getD rd
end
def tDGet2 (td ty tx:TE):TE:=fun σ H Q=>td σ H fun x H1=>∃ a,x=.ref a/\IsD H1 a/\ty σ H1 fun y H2=>tx σ H2 fun z H3=>∃ o,DGet H3 a y o/\Q (o.getD z) H3
def tDPop1 (td ty:TE):TE:=fun σ H Q=>td σ H fun x H1=>∃ a,x=.ref a/\IsD H1 a/\ty σ H1 fun y H2=>∃ kvs k v,H2 a=some (.dK kvs)/\y=kV k/\ji kvs k=some v/\Q v (upd H2 a (.dK (Jq kvs k)))
section
theorem pe_dget2 (hu:X.A.units+1 < cLine) (ho:PE X o td) (he:PE X e ty) (hf:PE X f tx) (m:M2 X o "get" apos e f cpos):PE X (.Call (.Attribute o "get" apos) [e,f] [] cpos) (tDGet2 td ty tx):=by
 intro pins s σ H Q I h
 refine wpAny_Call_method m.base m.few m.line PySem.F.plainAttrs_dict CO PySem.F.type_dict_get (thn (ho pins s σ H _ I h) fun u s1 ⟨x,H1,I1,rx,a,ex,d,q1⟩=>?_)
 subst ex
 obtain rfl:u=Value.ref a:=rx
 obtain⟨t1,t2,_⟩:=isD_at I1 d
 refine⟨t1,t2,?_⟩
 rw[m.trees]
 refine Bm rfl (Bx (Bj (thn (he pins s1 σ H1 _ I1 q1) fun iv s2 ⟨y,H2,I2,ry,q2⟩=>
  Bj (thn (hf pins s2 σ H2 _ I2 q2) fun fv s3 ⟨z,H3,I3,rz,ov,g,q3⟩=>CM ?_))))
 exact d_get2 hu I3 g ry rz fun w' s4 I4 rw'=>⟨_,H3,I4,rw',q3⟩
theorem pe_dpop1 (ho:PE X o td) (he:PE X e ty) (m:M1 X o "pop" apos e cpos):PE X (.Call (.Attribute o "pop" apos) [e] [] cpos) (tDPop1 td ty):=by
 intro pins s σ H Q I h
 refine wpAny_Call_method m.base m.few m.line PySem.F.plainAttrs_dict PySem.F.slot_dict_pop PySem.F.type_dict_pop (thn (ho pins s σ H _ I h) fun u s1 ⟨x,H1,I1,rx,a,ex,d,q1⟩=>?_)
 subst ex
 obtain rfl:u=Value.ref a:=rx
 obtain⟨t1,t2,_⟩:=isD_at I1 d
 refine⟨t1,t2,?_⟩
 rw[m.trees]
 refine Bm rfl (Bx (Bj (thn (he pins s1 σ H1 _ I1 q1) fun iv s2 ⟨y,H2,I2,ry,kvs,k,v,ea,ey,l,q2⟩=>CM ?_)))
 subst ey
 exact d_pop I2 ea ry l (.inl rfl) fun w' s3 I3 rw'=>⟨v,_,I3,rw',q2⟩
end
section
variable {X : Cx} {pins : List (Addr × Obj)} {σ : St} {H : Hp} {s : Shared} {a : Addr} {kvs : List (Key × V)} {A : Around} {E : Value -> Shared -> Prop}
end
section
variable {X : Cx} {pins : List (Addr × Obj)} {σ : St} {H : Hp} {s : Shared} {a : Addr} {y : V} {u : Value} {A : Around} {E : Value -> Shared -> Prop}
end
section
variable {prog : Program} {w : World} {A : Around} {R : Result -> Shared -> Prop}
end
section
variable {X : Cx}
def tKGet (td ty:TE):TE:=fun σ H Q=>td σ H fun x H1=>ty σ H1 fun y H2=>∃ a kvs k v,x=.ref a/\H2 a=some (.dK kvs)/\y=kV k/\ji kvs k=some v/\Q v H2
theorem pe_kget {o i:Expr} {pos:Pos} {td ty:TE} (ho:PE X o td) (hi:PE X i ty) (hs:NoSl i):PE X (.Subscript o i pos) (tKGet td ty):=by
 intro pins s σ H Q I h
 refine subD_of PySem.F.slot_dict_getitem.lookup hs (thn (ho pins s σ H _ I h) fun u s1 ⟨x,H1,I1,rx,q1⟩=>thn (hi pins s1 σ H1 _ I1 q1) fun iv s2 ⟨y,H2,I2,ry,a,kvs,k,v,ex,ea,ey,l,q2⟩=>?_)
 subst ex ey
 obtain rfl:u=Value.ref a:=rx
 obtain⟨z,hd,vs,rel,dd⟩:=dk_of I2.hok ea
 obtain⟨w',hw,rw'⟩:=JN.some_of (v:=v) (o:=valueAt vs k) (by rw[<- l];exact rel.val k)
 exact⟨dd.typeIs,wpAny_getItem_of (Js ry) dd.mapOf hw ⟨v,H2,I2.tok _,rw',q2⟩⟩
end
end L2
namespace PySem
open Sem (wp)
section
variable {prog : Program} {w : World} {A : Around} {E : Value -> Shared -> Prop} {s : Shared}
theorem wpAny_collect_range {Q:List Value->Shared->Prop} {it:Addr} {a b c:Int} {t u v:Tok} {n:Nat} (hh:A.handled=none) (hr:IsRange s.heap it a b c t u v) (hsmall:Builtin.Range.small a b c=true)
  (hn:Builtin.Range.rangeSize a b c=n) (hlen:n<=2 ^ 24)
  (hQ:∀ h' tk (acc:Array Value),(∀ b o',s.heap.get? b=some o'->h'.get? b=some o')->ItemsOf (fun i v=>∃ t,v=.int (a+i * c) t) acc n->Q acc.toList { s with heap:=h',toks:=tk }) :
  wpAny (model prog w) A (collect (.ref it)) Q E s:=by
 unfold collect
 refine AA (wpAny_runValue (Ca F.entry_proto_collect ?_))
 rw[Around.under_plainId F.plain_proto_collect _]
 show wpAny _ A.in1 (newList [] >>= fun l=>again (.builtin "list.__iadd__" ⟨[l,.ref it],[]⟩)) _ _ s
 refine AA (Aj ?_)
 refine AB ⟨plainId_quiet F.plain_list_iadd _,Ca F.entry_list_iadd ?_⟩
 rw[Around.under_plainId F.plain_list_iadd _]
 show wpAny _ A.in1 (Builtin.List.listExtendWith (.ref s.heap.objs.size) (.ref it) (.ref s.heap.objs.size)) _ _ _
 have hS:(s.heap.push { cls:=.type "list",data:=.seq ([]:List Value).toArray }).get? s.heap.objs.size=some { cls:=.type "list",data:=.seq #[] 0 }:=AM _ rfl
 have fin':∀ (s':Shared),(∃ h' tk acc c',s' = { s with heap:=h',toks:=tk }/\(∀ b o,b ≠ s.heap.objs.size->(s.heap.push { cls:=.type "list",data:=.seq ([]:List Value).toArray }).get? b=some o->h'.get? b=some o)/\h'.get? s.heap.objs.size=some { cls:=.type "list",dict:=none,data:=.seq acc c',slots:=#[] }/\ItemsOf (fun i v=>∃ t,v=.int (a+i * c) t) acc n)->wpAny (model prog w) A (match Value.ref s.heap.objs.size with
   | Value.ref a=>do
    match (<- load a).data with
     | Data.seq xs _=>pure xs.toList
     | _=>unsupported "internal:collect"
   | _=>unsupported "internal:collect") Q E s':=by
  rintro s' ⟨h',tk,acc,c',rfl,kp,e,hacc⟩
  show wpAny _ A (load s.heap.objs.size >>= _) _ _ _
  refine AA (wpAny_load e ?_)
  refine AB ?_
  exact hQ h' tk acc (fun b o' hb=>kp b o' (AW (AI hb)) (AC _ hb)) hacc
 refine A4 (wpAny_extend_range (A:=A) (R:=fun r s'=>r=.ok (.ret (.ref s.heap.objs.size))/\∃ h' tk acc c',s' = { s with heap:=h',toks:=tk }/\(∀ b o,b ≠ s.heap.objs.size->(s.heap.push { cls:=.type "list",data:=.seq ([]:List Value).toArray }).get? b=some o->h'.get? b=some o)/\h'.get? s.heap.objs.size=some { cls:=.type "list",dict:=none,data:=.seq acc c',slots:=#[] }/\ItemsOf (fun i v=>∃ t,v=.int (a+i * c) t) acc n)
  (s:={ s with heap:=s.heap.push { cls:=.type "list",data:=.seq ([]:List Value).toArray } }) hh (AC _ hr) hsmall hn hlen _ _ 0 hS fun h' tk acc' c' k1 k2 k3=>⟨rfl,h',tk,acc',c',rfl,k1,k2,k3⟩) (fun fin s' h=>?_) (fun e s' h=>?_)
 ·cases fin with
  | done f=>
   obtain⟨e,h⟩:=h
   cases e
   exact fin' _ h
  | again c'=>exact⟨h.1,B3 h.2 fun r s'' hr=>by obtain⟨rfl,hr⟩:=hr;exact fin' _ hr⟩
 ·exact absurd h.1 (by simp)
end
theorem meets_tuple_new_range (l:Addr) (a b c:Int) (t u v:Tok) (n:Nat) (hsmall:Builtin.Range.small a b c=true) (hn:Builtin.Range.rangeSize a b c=n) (hlen:n<=2 ^ 20) :
  Meets (Builtin.«tuple.__new__» ⟨[.type "tuple",.ref l],[]⟩)
   (fun A R s=>A.handled=none/\IsRange s.heap l a b c t u v/\∀ (h':Heap) (tk:Nat) (acc:Array Value),(∀ b o',s.heap.get? b=some o'->h'.get? b=some o')->ItemsOf (fun i v=>∃ t,v=.int (a+i * c) t) acc n->R (.ok (.ret (.ref h'.objs.size))) { s with heap:=h'.push { cls:=.type "tuple",data:=.seq acc },toks:=tk }):=
 .of_wp fun prog w A R s h=>by
  obtain⟨hp,g,d,tk,os⟩:=s;obtain⟨hh,ht,h⟩:=h
  have hsub:=sub_tuple_self
  have hinit:=init_tuple_lookup
  have hmh:=madeHere_tuple
  have hT:Shared.TypeIs ⟨hp,g,d,tk,os⟩ (.ref l) "range":=⟨_,ht,rfl⟩
  wp_walk using AutoSeq1.wpAny_loadPart' ht,CV hT,wpAny_collect_range (A:=A.in1) hh ht hsmall hn (by omega)
  intro h' tk' acc hk hacc
  show wpAny _ _ (Builtin.Tuple.tupleExact acc.toList.toArray >>= fun v=>ret v) _ _ _
  unfold Builtin.Tuple.tupleExact
  have hsz:acc.size<=sizeLine:=by rw[hacc.1];exact Ab hlen (by decide +kernel)
  refine AA (Aj ?_ (by show acc.toList.toArray.size<=sizeLine;simpa using hsz))
  refine AB ⟨_,rfl,?_⟩
  have e:acc.toList.toArray=acc:=by simp
  rw[e]
  exact h h' tk' acc hk hacc
section
variable {prog : Program} {w : World} {A : Around} {E : Value -> Shared -> Prop} {s : Shared}
theorem call_tuple_range {l:Addr} {a b c:Int} {t u v:Tok} {n:Nat} {Q:Value->Shared->Prop} (hh:A.handled=none) (hr:IsRange s.heap l a b c t u v) (hsmall:Builtin.Range.small a b c=true) (hn:Builtin.Range.rangeSize a b c=n) (hlen:n<=2 ^ 20)
  (h:∀ (h':Heap) (tk:Nat) (acc:Array Value),(∀ b o',s.heap.get? b=some o'->h'.get? b=some o')->ItemsOf (fun i v=>∃ t,v=.int (a+i * c) t) acc n->Q (.ref h'.objs.size) { s with heap:=h'.push { cls:=.type "tuple",data:=.seq acc },toks:=tk }) :
  wpAny (model prog w) A (call (.type "tuple") [.ref l]) Q E s:=
 callType_new F.called_tuple (by decide) (F.typeCall_tuple_1 _) (F.newCall_tuple_1 _) (fun obj=>F.args_object_init_2 obj _) F.entry_tuple_new
  (meets_tuple_new_range l a b c t u v n hsmall hn hlen) ⟨hh,hr,fun h' tk acc hk hacc=>⟨⟨_,AM _ rfl,rfl⟩,h h' tk acc hk hacc⟩⟩
end
end PySem
namespace PySem.SeqAt
open PySem
theorem wpAny_forRange {M:Model} {A:Around} {E:Value->Shared->Prop} {s:Shared} {β:Type} {a b:Nat} (f:Nat->β->Sem (ForInStep β)) (I:Nat->β->Shared->Prop) (Q:β->Shared->Prop)
  (turn:∀ i c s,a<=i->i < b->I i c s->wpAny M A (f i c) (fun r s'=>match r with | .yield c'=>I (i+1) c' s' | .done c'=>Q c' s') E s)
  (fin:∀ c s,I (max a b) c s->Q c s) (c:β) (h:I a c s):wpAny M A (forIn [a:b] c f) Q E s:=by
 rw[Std.Legacy.Range.forIn_eq_forIn_range']
 have hsz:([a:b]:Std.Legacy.Range).size=b - a:=by simp[Std.Legacy.Range.size]
 show wpAny M A (forIn (List.range' a ([a:b]:Std.Legacy.Range).size 1) c f) Q E s
 rw[hsz]
 refine wpAny_forIn_list f (fun l c st=>∃ i,a<=i/\i<=max a b/\l=List.range' i (max a b - i) 1/\I i c st) Q ?_ ?_ _ c ⟨a,AG _,by omega,by congr 1;omega,h⟩
 ·rintro x rest c st ⟨i,hai,hib,hl,hI⟩
  have hlt:i < max a b:=by
   rcases BR i (max a b) with h' | h'
   ·exact h'
   ·rw[show max a b - i=0 by omega] at hl;simp at hl
  obtain⟨n,hn⟩:∃ n,max a b - i=n+1:=⟨max a b - i - 1,by omega⟩
  rw[hn,List.range'_succ] at hl
  obtain⟨rfl,rfl⟩:=List.cons.inj hl
  refine A4 (turn x c st hai (by omega) hI) (fun r st' h'=>?_) fun _ _ h'=>h'
  cases r with
  | done c'=>exact h'
  | yield c'=>exact⟨x+1,by omega,by omega,by congr 1;omega,h'⟩
 ·rintro c st ⟨i,hai,hib,hl,hI⟩
  have:i=max a b:=by
   rcases BR i (max a b) with h' | h'
   ·obtain⟨n,hn⟩:∃ n,max a b - i=n+1:=⟨max a b - i - 1,by omega⟩
    rw[hn,List.range'_succ] at hl
    cases hl
   ·omega
  rw[this] at hI
  exact fin c st hI
theorem tuple_indexAt (l:Addr) (items:Array Value) (n:Nat) (dd:Option Addr) (sl:Array (Option Value)) (x:Value) (e:Value->Bool) (j:Nat) (hj:j < items.size)
  (hit:e items[j]=true) (hno:∀ m (hm:m < items.size),m < j->e items[m]=false) :
  Meets (Builtin.«tuple.index» ⟨[.ref l,x],[]⟩)
   (fun A R s=>s.heap.get? l=some { cls:=.type "tuple",dict:=dd,data:=.seq items n,slots:=sl }/\(∀ y,y ∈ items->EqAt A.in1 s y x (e y))/\R (.ok (.ret (.int j s.toks))) { s with toks:=s.toks+1 }):=
 .of_wp fun prog w A R s h=>by
  obtain⟨hp,g,d,tk,os⟩:=s;obtain⟨hl,he,h⟩:=h
  wp_walk using AutoSeq1.wpAny_loadPart' hl,wpAny_forRange _ (fun i c s'=>c=(none,())/\s'=⟨hp,g,d,tk,os⟩/\i<=j) _
  case turn=>
   rintro i c s' hi1 hi2 ⟨rfl,rfl,hij⟩
   have hi:i < items.size:=by omega
   rw[Array.getElem?_eq_getElem hi]
   refine AA (he _ (Array.getElem_mem hi) prog w _ _ ?_)
   rcases BR i j with h' | h'
   ·rw[hno i hi h']
    wp_walk
    exact⟨rfl,rfl,h'⟩
   ·have e1:i=j:=by omega
    subst e1
    rw[hit]
    wp_walk
    exact⟨_,rfl,h⟩
  case fin=>
   rintro c s' ⟨rfl,rfl,hij⟩
   omega
  case h=>
   exact⟨rfl,rfl,Ax _⟩
end PySem.SeqAt
namespace L2
open PySem PySem.Spec PyProof.Rows
theorem wT:∀ {xs:List V} {us:List Value},xs.length=us.length->(∀ (i:Nat) x u,xs[i]? = some x->us[i]? = some u->RelV x u)->zR xs us
 | [],[],_,_=>.nil
 | [],_ :: _,h,_=>by cases h
 | _ :: _,[],h,_=>by cases h
 | x :: xs,u :: us,h,k=>.cons (k 0 x u rfl rfl) (wT (by simpa using h) fun i y v a b=>k (i+1) y v (by simpa using a) (by simpa using b))
section
variable {X : Cx}
def rRepL (K:PySem.W.Frag):R2:=fun x y H Q=>∃ a xs n,x=.ref a/\y=.int n/\H a=some (.lst xs)/\0<=n/\n<=1000/\xs.length * n.toNat<=1000/\∀ p,H p=none->Q (.ref p) (upd H p (.lst (List.replicate n.toNat xs).flatten))
theorem yD (K:PySem.W.Frag):OpR X (binaryOp .Mult) (rRepL K):=by
 intro pins s σ H x y v u Q I rx ry h
 obtain⟨a,xs,k,rfl,rfl,ha,k0,k1,hz,q⟩:=h
 cases rx
 obtain⟨t,rfl⟩:=ry
 obtain⟨z,its,n,r,hl,e⟩:=I.lstM ha
 have e1:List.foldl (fun x1 x2=>x1++x2) #[] (List.replicate k.toNat its.toArray)=(List.replicate k.toNat its).flatten.toArray:=by
  have:=Jd its k.toNat []
  rw[List.nil_append] at this
  exact this
 have hnew:List.foldl (fun x1 x2=>x1++x2) #[] (List.replicate (if its.toArray.isEmpty=true then 0 else k.toNat) its.toArray)=(List.replicate k.toNat its).flatten.toArray:=by
  cases hi:its with
  | nil=>simp
  | cons b bs=>
   rw[<- hi]
   have:its.toArray.isEmpty=false:=by rw[hi];rfl
   rw[this]
   exact e1
 refine wpAny_binaryOp_repeat_ref (T := "list") (U := "int") (by decide) ⟨_,e,rfl⟩ (fun s'=>typeIs_int s' k t) noFill_list_mul F.fills_int_mul F.slot_int_rmul repeat_list F.slot_int_index.lookup
  (CW F.slot_int_rmul (typeIs_int s k t) F.entry_int_rmul (F.args_int_rmul_2 _ _) (int___rmul___int_list k t a its.toArray n)
   ⟨e,rfl,⟨_,e,rfl⟩,CW F.slot_list_mul ⟨_,e,rfl⟩ F.entry_list_mul (F.args_list_mul_2 _ _)
    (AutoListH.list___mul___list_int_3 a its.toArray n k t (by simp[Builtin.List.listFitsIndex];omega) (by
     have h1:its.length * k.toNat<=1000:=by rw[<- hl];exact hz
     have h2:((its.length * k.toNat:Nat):Int)<=1000:=by exact_mod_cast h1
     rw[Int.natCast_mul,show ((k.toNat:Nat):Int)=k by omega] at h2
     simp only[List.size_toArray]
     omega) (by
     have h1:its.length * k.toNat<=1000:=by rw[<- hl];exact hz
     have h2:((its.length * k.toNat:Nat):Int)<=1000:=by exact_mod_cast h1
     rw[Int.natCast_mul,show ((k.toNat:Nat):Int)=k by omega] at h2
     simp[Builtin.List.listTooLong,sizeLine]
     omega))
    ⟨e,?_⟩⟩)
 rw[hnew]
 refine⟨.ref s.heap.objs.size,_,I.laid (t':=s.toks) (o:=.lst (List.replicate k.toNat xs).flatten) (fun b ob q=>AC _ q) (AG _) ?_,rfl,q _ (I.hok.fresh (AG _))⟩
 exact⟨by rw[len_rep];exact Br (zK (by rw[Nat.mul_comm];exact hz)),_,0,r.rep k.toNat,AM _ rfl⟩
end
theorem Inv.changed {X:Cx} {pins:List (Addr×Obj)} {σ:St} {H:Hp} {s:Shared} {ch:List Addr} {h':Heap} {t':Nat} (I:Inv X pins σ H s) (hf:∀ b ∈ ch,WI X pins H b) (k:∀ c o,c ∉ ch->s.heap.get? c=some o->h'.get? c=some o):Inv X pins σ H { s with heap:=h',toks:=t' }:=by
 have nt:∀ b u,H b=some u->b ∉ ch:=fun b u e hb=>by
  rw[(hf b hb).1] at e
  cases e
 have nl:X.env.locals ∉ ch:=fun hb=>(hf _ hb).2.1 rfl
 refine I.step (g':=s.gens) (d':=s.drawn) (ch:=ch) (fun b hb=>⟨(hf b hb).2.2.2.1,(hf b hb).2.1,(hf b hb).2.2.2.2.1,(hf b hb).2.2.2.2.2⟩) (fun b o _ _ hc e _=>k b o hc e) (fun b o _ _ hc e _=>⟨o.slots,k b o hc e⟩) (fun _ _ _ _ n=>n)
  (fun b o hc e=>⟨o,k b o hc e⟩) (fun _ _ e=>e) (fun _ _ _ e=>e) (fun b ps e=>⟨#[],by rw[e];simp⟩) (fun m hm=>?_) (fun b u e=>?_) I.bare
 ·obtain⟨o,es,ep,ho,r⟩:=hm
  exact⟨o,es,ep,k _ o nl ho,r⟩
 ·refine (I.hok b u e).stay (fun c v hc q=>k c v ?_ q) (fun _ q=>q) fun _ _ q=>q
  rcases hc with z | z
  ·rw[z];exact nt b u e
  ·exact nt c _ z
section
variable {X : Cx}
end
end L2
namespace L4
open PySem L2
abbrev nV (i:Nat):V:=.int (i:Int)
end L4
namespace Tn
theorem nodup_len:∀ (m:Nat) (xs:List Nat),xs.Nodup->(∀ x ∈ xs,x < m)->xs.length<=m
 | 0,[],_,_=>AG _
 | 0,x :: xs,_,h=>absurd (h x (Ai ..)) (Bb _)
 | m+1,xs,nd,h=>by
  have h1:=nodup_len m (xs.erase m) (nd.erase m) fun x hx=>by
   obtain⟨ne,hm⟩:=nd.mem_erase_iff.mp hx
   have:=h x hm
   omega
  by_cases hm:m ∈ xs
  ·rw[List.length_erase_of_mem hm] at h1
   omega
  ·rw[List.erase_of_not_mem hm] at h1
   omega
end Tn
namespace L2
open PySem PySem.Spec PyProof.Rows
section
variable {prog : Program} {w : World} {A : Around} {E : Value -> Shared -> Prop} {s : Shared}
variable {z TI TO i1 i2 t1 t2 : Addr} {xs ys : Array Value} {k1 k2 : Nat}
end
section
variable {X : Cx}
end
theorem yE {a:List V} (h:a.all qK=true):Q2 a a=true:=by
 unfold Q2
 rw[Az]
 refine⟨?_,by simp⟩
 rw[A5]
 intro p hp
 have h1:=CK hp
 have e:p.1=p.2:=by
  obtain⟨i,hi⟩:=List.getElem?_of_mem hp
  rw[List.getElem?_zip_eq_some] at hi
  exact AO (hi.1.symm.trans hi.2)
 rw[<- e]
 exact eqV_self (A5.mp h _ h1.1)
section
variable {X : Cx}
end
theorem J5:bootBuiltins "reversed" = some (.type "reversed"):=by decide +kernel
theorem vals_rev {xs:List V} {its:List Value} {acc:Array Value} (r:zR xs its) (h:ItemsOf (fun i v=>its.toArray[its.toArray.size - 1 - i]? = some v) acc its.toArray.size):zR xs.reverse acc.toList:=by
 have l:=r.length
 refine wT (by rw[BV];have:=h.1;simp at this ⊢;omega) fun i x u hx hu=>?_
 have hi:i < xs.length:=by
  have:=(AD.mp hx).1
  rw[BV] at this
  exact this
 rw[List.getElem?_reverse hi] at hx
 obtain⟨u',hu',ru⟩:=r.get hx
 have e:=h.2 i u (by simpa using hu)
 have e2:its[its.length - 1 - i]? = some u:=by simpa using e
 rw[<- l,hu'] at e2
 rw[<- AO e2]
 exact ru
section
variable {X : Cx}
def tListRev (K:PySem.W.Frag) (ta:TA):TE:=fun σ H Q=>ta σ H fun vs H1=>∃ p xs,vs=[.ref p]/\SqT K H1 p xs/\xs.length<=1000/\∀ l,H1 l=none->Q (.ref l) (upd H1 l (.lst xs.reverse))
theorem Ws (K:PySem.W.Frag) {a:Expr} {ta:TA} {p p2 pos pos2:Pos} (hg:Gl X "list") (hm:X.mg "list" = none) (hg2:Gl X "reversed") (hm2:X.mg "reversed" = none) (ha:PA X [a] ta) (hs:starEach [a] X.env=[(false,eval a X.env)]:=by rfl) (hs2:starEach [.Call (.Name "reversed" p2) [a] [] pos2] X.env=[(false,eval (.Call (.Name "reversed" p2) [a] [] pos2) X.env)]:=by rfl) (hc:X.calm=true:=by rfl) (hK:X.K=K:=by rfl) :
  PE X (.Call (.Name "list" p) [.Call (.Name "reversed" p2) [a] [] pos2] [] pos) (tListRev K ta):=by
 subst hK
 intro pins s σ H Q I h
 refine Call_ (Zt I hg hm yc (A9 ?_ hs2 rfl))
 rw[hs2]
 show wpAny _ _ (spliced [(false,eval (.Call (.Name "reversed" p2) [a] [] pos2) X.env)]) _ _ s
 refine Bj ?_
 refine Call_ (Zt I hg2 hm2 J5 (A9 (thn (ha pos2 pins s σ H _ I h) fun us s1 ⟨vs,H1,I1,r1,q1⟩=>?_) hs rfl))
 obtain⟨p1,xs,e,hq,hz,q⟩:=q1
 subst e
 obtain⟨u1,rfl,r2⟩:=vals1 r1
 cases r2
 obtain⟨its,rv,pl,_⟩:=I1.tuple hq
 have lv:=rv.length
 have plt:p1 < s1.heap.objs.size:=PyProof.Rows.IsTup.lt pl
 have sz:its.toArray.size<=1000:=by simp;omega
 refine jE pl (by omega) fun tk=>?_
 refine CM ?_
 have I2:Inv X pins σ H1 { s1 with heap:=s1.heap.push (revO p1 ((its.toArray.size:Int) - 1)),toks:=tk }:=I1.kept (t':=tk) fun _ _ e=>AC _ e
 have hsz:(s1.heap.push (revO p1 ((its.toArray.size:Int) - 1))).objs.size=s1.heap.objs.size+1:=CB ..
 refine QM (s:={ s1 with heap:=s1.heap.push (revO p1 ((its.toArray.size:Int) - 1)),toks:=tk }) (I1.ok.hd hc) (it:=s1.heap.objs.size) (t:=p1) (items:=its.toArray) ⟨_,AM _ rfl,rfl,rfl⟩ (let ⟨o,e,r⟩:=pl;⟨o,AC _ e,r⟩) (AW plt) sz fun h' tk2 acc c' kp he hacc=>?_
 have he':h'.get? (s1.heap.objs.size+1)=some { cls:=.type "list",dict:=none,data:=.seq acc c',slots:=#[] }:=by
  have:({ s1 with heap:=s1.heap.push (revO p1 ((its.toArray.size:Int) - 1)),toks:=tk }:Shared).heap.objs.size=s1.heap.objs.size+1:=hsz
  rw[this] at he
  exact he
 have I3:Inv X pins σ H1 { s1 with heap:=h',toks:=tk2 }:=by
  refine I1.changed (t':=tk2) (ch:=[]) (fun b hb=>by cases hb) fun c o _ e=>kp c o (AW (AI e)) (AC _ e)
 have Hn:H1 (s1.heap.objs.size+1)=none:=I1.hok.fresh (CT _)
 have I4:Inv X pins σ (upd H1 (s1.heap.objs.size+1) (.lst xs.reverse)) { s1 with heap:=h',toks:=tk2 }:=by
  refine I3.adopt Hn (BI (Nat.le_succ_of_le I1.sz)) (Bd (Be I1.lt)) (fun xx cc e zz=>?_) (fun p hp zz=>?_) ⟨by rw[BV];exact Br (zK (by omega)),acc.toList,c',vals_rev rv hacc,by simpa using he'⟩
  ·obtain⟨_,q⟩:=I1.cell xx cc e
   exact absurd q.lt (by rw[zz];exact Nat.not_lt.mpr (CT _))
  ·exact absurd (AI (I1.pin p hp).1) (by rw[zz];exact Nat.not_lt.mpr (CT _))
 rw[hsz]
 exact⟨.ref (s1.heap.objs.size+1),_,I4,rfl,q _ Hn⟩
def yF (K:PySem.W.Frag) (H:Hp) (n:Nat):List (List V)->List V->Prop:=Paired fun c v=>∃ t,v=.ref t/\SqT K H t c/\c.length=n/\c.all qK=true
def rInTT (K:PySem.W.Frag):R2:=fun x y H Q=>∃ a b xs ys cs,x=.ref a/\y=.ref b/\SqT K H a xs/\xs.all qK=true/\SqT K H b ys/\yF K H xs.length cs ys/\Q (.bl (!cs.any fun c=>Q2 c xs)) H
open Classical in
noncomputable def isIn (K:PySem.W.Frag) (H:Hp) (xs:List V) (w:Value):Bool:=decide (∃ t c,w=.ref t/\SqT K H t c/\Q2 c xs=true)
theorem Wt (K:PySem.W.Frag) {k:Nat} (hr:jk k X.A) (hK:X.K=K:=by rfl):OpR X (compareOp .NotIn) (rInTT K):=by
 subst hK
 intro pins s σ H x y v u Q I rx ry h
 obtain⟨a,b,xs,ys,cs,rfl,rfl,ha,fx,hb,tk,q⟩:=h
 cases rx
 cases ry
 have hu:X.A.units+64 < cLine:=hr.units
 obtain⟨its,r,pl,hz⟩:=I.tuple hb
 obtain⟨xu,xr,xp,_⟩:=I.tuple ha
 classical
 have isT:∀ {t:Addr} {c:List V},SqT X.K H t c->isIn X.K H xs (.ref t)=Q2 c xs:=fun {t c} ht=>by
  unfold isIn
  by_cases hc:Q2 c xs=true
  ·rw[hc]
   exact AS ⟨t,c,rfl,ht,hc⟩
  ·rw[AQ]
   ·cases h:Q2 c xs with
    | true=>exact absurd h hc
    | false=>rfl
   ·rintro⟨t',c',e,ht',hc'⟩
    cases e
    rw[I.tuple_inj ht' ht] at hc'
    exact hc hc'
 have mem:∀ {cs:List (List V)} {ys:List V} {us:List Value},yF X.K H xs.length cs ys->zR ys us->∀ w ∈ us,SeqAt.EqAt X.A.in1 s w (.ref a) (isIn X.K H xs w):=by
  intro cs ys us tk
  unfold yF at tk
  induction tk generalizing us with
  | nil=>
   intro rv w hw
   cases rv
   cases hw
  | @cons c v cs ys hc t ih=>
   intro rv w hw
   cases rv with
   | @cons _ u1 _ us1 hu1 rv=>
    rcases AZ.mp hw with rfl | hw
    ·obtain⟨t1,rfl,ht1,n1,f1⟩:=hc
     cases hu1
     rw[isT ht1]
     by_cases tt:t1=a
     ·subst tt
      rw[I.tuple_inj ht1 ha,yE fx]
      exact SeqAt.EqAt.same _
     ·obtain⟨us',v1,p1,_⟩:=I.tuple ht1
      have m1:=v1.length
      have m2:=xr.length
      have z:=SeqAt.RcAt.tuples (A:=X.A.in1) (s:=s) p1 xp (by show X.A.units+1 < cLine;omega) (QE v1 xr f1 fx)
      have e:((List.range (min us'.toArray.size xu.toArray.size)).all (fun j'=>eqV (c.getD j' .non) (xs.getD j' .non)) && us'.toArray.size == xu.toArray.size)=Q2 c xs:=by
       have z1:us'.toArray.size=c.length:=by rw[AY];exact m1.symm
       have z2:xu.toArray.size=xs.length:=by rw[AY];exact m2.symm
       have e5:min us'.toArray.size xu.toArray.size=c.length:=by rw[z1,z2,n1,Nat.min_self]
       rw[e5,ZJ _ _ n1,z1,z2]
       rfl
      rw[e] at z
      exact SeqAt.EqAt.of_refs tt z
    ·exact ih rv w hw
 have any:∀ {cs:List (List V)} {ys:List V} {us:List Value},yF X.K H xs.length cs ys->zR ys us->us.any (isIn X.K H xs)=cs.any fun c=>Q2 c xs:=by
  intro cs ys us tk
  unfold yF at tk
  induction tk generalizing us with
  | nil=>
   intro rv
   cases rv
   rfl
  | @cons c v cs ys hc t ih=>
   intro rv
   cases rv with
   | @cons _ u1 _ us1 hu1 rv=>
    obtain⟨t1,rfl,ht1,n1,f1⟩:=hc
    cases hu1
    rw[BA,BA,isT ht1,ih rv]
 refine SeqAt.notIn_tupleAt (isIn X.K H xs) pl (fun w hw=>mem tk r w (by simpa using hw)) ⟨.bl _,H,I,rfl,?_⟩
 rw[show its.toArray.any (isIn X.K H xs)=its.any (isIn X.K H xs) by simp,any tk r]
 exact q
def sKPut (td ty tv:TE):TS:=fun D σ H=>tv σ H fun v H1=>td σ H1 fun x H2=>ty σ H2 fun y H3=>∃ a kvs k,x=.ref a/\y=kV k/\H3 a=some (.dK kvs)/\kvs.length < sizeLine/\D.nx σ (upd H3 a (.dK (Z6 kvs k v)))
theorem ps_kput {o i value:Expr} {pos pos':Pos} {td ty tv:TE} {j:Nat} (hr:jk j X.A) (ho:PE X o td) (hi:PE X i ty) (hv:PE X value tv) (hs:swapsWith value (some (.Subscript o i pos')) pos.line X.env=pure false) :
  PS X (.Assign [.Subscript o i pos'] value pos) (sKPut td ty tv):=by
 intro pins s σ H D I h
 have hu:X.A.units+64 < cLine:=hr.units
 refine wpAny_Assign_Subscript (thn (hv pins s σ H _ I h) fun r s1 ⟨v,H1,I1,rv,q1⟩=>thn (ho pins s1 σ H1 _ I1 q1) fun u s2 ⟨x,H2,I2,rx,q2⟩=>thn (hi pins s2 σ H2 _ I2 q2) fun iv s3 ⟨y,H3,I3,ry,a,kvs,k,ex,ey,e,l,q3⟩=>?_) hs
 subst ex ey
 obtain rfl:u=Value.ref a:=rx
 exact yB (by omega) I3 (DPut.k e l) ry rv fun s4 I4=>⟨σ,_,I4,q3⟩
def rKNotIn:R2:=fun y x H Q=>∃ a kvs k,x=.ref a/\y=kV k/\H a=some (.dK kvs)/\Q (.bl (!(ji kvs k).isSome)) H
theorem yG {j:Nat} (hr:jk j X.A):OpR X (compareOp .NotIn) rKNotIn:=by
 intro pins s σ H x y v u Q I rx ry h
 obtain⟨a,kvs,k,rfl,rfl,ha,q⟩:=h
 have hu:X.A.units+64 < cLine:=hr.units
 obtain rfl:u=Value.ref a:=ry
 exact d_notIn (by omega) I (DGet.k ha) rx fun s' I'=>⟨.bl _,H,I',rfl,q⟩
end
end L2
namespace Tn
end Tn
namespace L2
open PySem PySem.Spec PyProof.Rows
section
variable {X : Cx}
theorem kslT (K:PySem.W.Frag) (hK:X.K=K:=by rfl):SlR X (fun x lo hi H Q=>rSlT K x lo hi H Q\/rSlTW K x lo hi H Q):=by
 subst hK
 exact sl_tup.or sl_tupW
end
end L2
namespace L4
open PySem L2
theorem div_q {s r:Rat} (hr:0 < r):(s / r) * r=s:=Rat.div_mul_cancel (by grind)
theorem le_div {a b c:Rat} (h:0 < b):a<=c / b ↔ a * b<=c:=by
 have q:=div_q (s:=c) h
 constructor
 ·intro z
  have:=Rat.mul_le_mul_of_nonneg_right z (Rat.le_of_lt h)
  grind
 ·intro z
  by_cases y:c / b < a
  ·have:=Cr y h
   grind
  ·exact Rat.not_lt.mp y
def U (r:Rat):Prop:=0<=r/\r<=1
theorem div_u {s r:Rat} (hr:0 < r) (h0:0<=s) (h:s < r):U (s / r):=by
 have q:=div_q (s:=s) hr
 refine⟨(le_div hr).mpr (by grind),?_⟩
 by_cases y:1 < s / r
 ·have:=Cr y hr
  grind
 ·exact Rat.not_lt.mp y
theorem mul_u {r s:Rat} (h:U r) (k:U s):U (r * s):=by
 refine⟨Rat.mul_nonneg h.1 k.1,?_⟩
 have:=Rat.mul_le_mul_of_nonneg_left k.2 h.1
 have:=h.2
 grind
theorem then_u {k:Str} {r s:Rat} (h:U r) (j:U s):U (Jn k r s):=by
 unfold Jn
 obtain⟨h1,h2⟩:=h
 obtain⟨j1,j2⟩:=j
 split
 ·split
  ·exact⟨j1,j2⟩
  ·split
   ·exact⟨by grind,by grind⟩
   ·exact div_u (by grind) j1 (by assumption)
 ·exact⟨by decide,by decide⟩
theorem less_u {r s:Rat} (h:U r) (j:U s):U (QI r s):=by
 unfold QI;split <;> assumption
theorem great_u {r s:Rat} (h:U r) (j:U s):U (jy r s):=by
 unfold jy;split <;> assumption
theorem with_u {k:Str} {r s:Rat} (h:U r) (j:U s):U (J2 k r s):=by
 unfold J2
 split
 ·exact less_u h j
 ·split
  ·unfold jy
   obtain⟨h1,h2⟩:=h
   obtain⟨j1,j2⟩:=j
   split
   ·exact⟨by decide,by decide⟩
   ·exact⟨by grind,by grind⟩
  ·exact mul_u h j
-- residuation
theorem yH {k nm:Str} {rs:List Rat} (hm:nm ∈ qc) (hl:rs.length=qS nm) (h:∀ r ∈ rs,U r):U (J3 k nm rs):=by
 have u0:U 0:=⟨by decide,by decide⟩
 have u1:U 1:=⟨by decide,by decide⟩
 have g:∀ i,U (rs.getD i 0):=fun i=>by
  by_cases hi:i < rs.length
  ·rw[BC,AE hi]
   exact h _ (List.getElem_mem hi)
  ·rw[BC,List.getElem?_eq_none (by omega)]
   exact u0
 unfold J3
 split
 ·exact u0
 split
 ·exact u1
 split
 ·exact then_u (g 0) u0
 split
 ·exact then_u (g 0) (g 1)
 split
 ·exact with_u (g 0) (g 1)
 split
 ·exact great_u (g 0) (g 1)
 ·exact less_u (g 0) (g 1)
inductive Sy where
 | ltr (x:Str)
 | n0 (nm:Str)
 | n1 (nm:Str) (a:Sy)
 | n2 (nm:Str) (a b:Sy)
namespace Sy
def nm:Sy->Str
 | ltr x=>x
 | n0 n=>n
 | n1 n _=>n
 | n2 n _ _=>n
def ps:Sy->List Sy
 | ltr _=>[]
 | n0 _=>[]
 | n1 _ a=>[a]
 | n2 _ a b=>[a,b]
def isL:Sy->Bool
 | ltr _=>true
 | _=>false
def dp:Sy->Nat
 | ltr _=>0
 | n0 _=>1
 | n1 _ a=>a.dp+1
 | n2 _ a b=>max a.dp b.dp+1
def sz:Sy->Nat
 | ltr _=>1
 | n0 _=>1
 | n1 _ a=>a.sz+1
 | n2 _ a b=>a.sz+b.sz+1
def mk (nm:Str):List Sy->Sy
 | []=>n0 nm
 | [a]=>n1 nm a
 | a :: b :: _=>n2 nm a b
end Sy
theorem Sy.dp_lt {s a:Sy} (h:a ∈ s.ps):a.dp < s.dp:=by
 cases s with
 | ltr x=>cases h
 | n0 n=>cases h
 | n1 n b=>
  rw[AJ.mp h]
  exact Nat.lt_succ_self _
 | n2 n b c=>
  show a.dp < max b.dp c.dp+1
  rcases AZ.mp h with rfl | h
  ·omega
  ·rw[AJ.mp h]
   omega
theorem Sy.sz_ps (s:Sy):(s.ps.map Sy.sz).sum+1=s.sz:=by
 cases s <;> simp[Sy.ps,Sy.sz]
theorem Sy.sz_dp (s:Sy):s.sz < 2 ^ (s.dp+1):=by
 induction s with
 | ltr x=>exact (show 1 < 2 ^ 1 by decide)
 | n0 n=>exact (show 1 < 2 ^ 2 by decide)
 | n1 n a ih=>
  show a.sz+1 < 2 ^ (a.dp+1+1)
  rw[CD]
  omega
 | n2 n a b iha ihb=>
  show a.sz+b.sz+1 < 2 ^ (max a.dp b.dp+1+1)
  have h1:2 ^ (a.dp+1)<=2 ^ (max a.dp b.dp+1):=BO (by decide) (by omega)
  have h2:2 ^ (b.dp+1)<=2 ^ (max a.dp b.dp+1):=BO (by decide) (by omega)
  rw[CD]
  omega
def ql (H:Hp):Sy->V->Prop
 | .ltr x,v=>v=.str x
 | .n0 nm,v=>∃ t,v=.ref t/\H t=some (.tup [.str nm])
 | .n1 nm a,v=>∃ t u,v=.ref t/\H t=some (.tup [.str nm,u])/\ql H a u
 | .n2 nm a b,v=>∃ t u w,v=.ref t/\H t=some (.tup [.str nm,u,w])/\ql H a u/\ql H b w
theorem ql.tk {H H':Hp} (k:Tk H H'):∀ {s:Sy} {v:V},ql H s v->ql H' s v
 | .ltr x,v,h=>h
 | .n0 nm,v,⟨t,e,h⟩=>⟨t,e,k _ _ h⟩
 | .n1 nm a,v,⟨t,u,e,h,ha⟩=>⟨t,u,e,k _ _ h,ql.tk k ha⟩
 | .n2 nm a b,v,⟨t,u,w,e,h,ha,hb⟩=>⟨t,u,w,e,k _ _ h,ql.tk k ha,ql.tk k hb⟩
theorem ql.same {H H':Hp} (k:zE H H') {s:Sy} {v:V} (h:ql H s v):ql H' s v:=h.tk (Tk.of k)
theorem ql.node {H:Hp} {s:Sy} {v:V} (h:ql H s v) (hs:s.isL=false):∃ t us,v=.ref t/\H t=some (.tup (.str s.nm :: us))/\Paired (ql H) s.ps us:=by
 cases s with
 | ltr x=>cases hs
 | n0 nm=>
  obtain⟨t,e,h⟩:=h
  exact⟨t,[],e,h,.nil⟩
 | n1 nm a=>
  obtain⟨t,u,e,h,ha⟩:=h
  exact⟨t,[u],e,h,.cons ha .nil⟩
 | n2 nm a b=>
  obtain⟨t,u,w,e,h,ha,hb⟩:=h
  exact⟨t,[u,w],e,h,.cons ha (.cons hb .nil)⟩
theorem ql.letter {H:Hp} {s:Sy} {v:V} (h:ql H s v) (hs:s.isL=true):v=.str s.nm:=by
 cases s with
 | ltr x=>exact h
 | _=>cases hs
theorem ql.of {H:Hp} {nm:Str} {ss:List Sy} {us:List V} {t:Addr} (h:H t=some (.tup (.str nm :: us))) (hp:Paired (ql H) ss us) (hl:ss.length<=2):ql H (Sy.mk nm ss) (.ref t):=by
 cases hp with
 | nil=>exact⟨t,rfl,h⟩
 | @cons a u ss us ha hp=>
  cases hp with
  | nil=>exact⟨t,u,rfl,h,ha⟩
  | @cons b w ss us hb hp=>
   cases hp with
   | nil=>exact⟨t,u,w,rfl,h,ha,hb⟩
   | cons _ _=>
    exfalso
    simp at hl
def GS (L:List Str):Sy->Prop
 | .ltr x=>x ∈ L
 | .n0 nm=>nm ∈ qc/\qS nm=0
 | .n1 nm a=>nm ∈ qc/\qS nm=1/\GS L a
 | .n2 nm a b=>nm ∈ qc/\qS nm=2/\GS L a/\GS L b
theorem GS.node {L:List Str} {s:Sy} (h:GS L s) (hs:s.isL=false):s.nm ∈ qc/\s.ps.length=qS s.nm/\∀ a ∈ s.ps,GS L a:=by
 cases s with
 | ltr x=>cases hs
 | n0 nm=>exact⟨h.1,h.2.symm,fun a ha=>by cases ha⟩
 | n1 nm a=>exact⟨h.1,h.2.1.symm,fun b hb=>by rw[AJ.mp hb];exact h.2.2⟩
 | n2 nm a b=>
  refine⟨h.1,h.2.1.symm,fun c hc=>?_⟩
  rcases AZ.mp hc with rfl | hc
  ·exact h.2.2.1
  ·rw[AJ.mp hc]
   exact h.2.2.2
theorem GS.letter {L:List Str} {s:Sy} (h:GS L s) (hs:s.isL=true):s.nm ∈ L:=by
 cases s with
 | ltr x=>exact h
 | _=>cases hs
theorem GS.of {L:List Str} {nm:Str} {ss:List Sy} (hm:nm ∈ qc) (hl:ss.length=qS nm) (h:∀ a ∈ ss,GS L a) (h2:ss.length<=2):GS L (Sy.mk nm ss):=by
 match ss,hl,h,h2 with
 | [],hl,_,_=>exact⟨hm,hl.symm⟩
 | [a],hl,h,_=>exact⟨hm,hl.symm,h a (by simp)⟩
 | [a,b],hl,h,_=>exact⟨hm,hl.symm,h a (by simp),h b (by simp)⟩
theorem dp_mk {nm:Str} {ss:List Sy} {d:Nat} (h:∀ a ∈ ss,a.dp<=d):(Sy.mk nm ss).dp<=d+1:=by
 match ss,h with
 | [],_=>exact Ck (Ax _)
 | [a],h=>exact Ck (h a (by simp))
 | a :: b :: _,h=>
  have h1:=h a (by simp)
  have h2:=h b (by simp)
  show max a.dp b.dp+1<=d+1
  omega
def gr (k:Str) (ρ:Str->Rat):Sy->Rat
 | .ltr x=>ρ x
 | .n0 nm=>J3 k nm []
 | .n1 nm a=>J3 k nm [gr k ρ a]
 | .n2 nm a b=>J3 k nm [gr k ρ a,gr k ρ b]
theorem gr_node {k:Str} {ρ:Str->Rat} {s:Sy} (hs:s.isL=false):gr k ρ s=J3 k s.nm (s.ps.map (gr k ρ)):=by
 cases s with
 | ltr x=>cases hs
 | _=>rfl
theorem yI {k:Str} {ρ:Str->Rat} {s:Sy} (hs:s.isL=true):gr k ρ s=ρ s.nm:=by
 cases s with
 | ltr x=>rfl
 | _=>cases hs
theorem gr_u {k:Str} {ρ:Str->Rat} {L:List Str} (hρ:∀ x ∈ L,U (ρ x)):∀ {s:Sy},GS L s->U (gr k ρ s)
 | .ltr x,h=>hρ x h
 | .n0 nm,h=>yH h.1 h.2.symm (fun r hr=>by cases hr)
 | .n1 nm a,h=>yH h.1 h.2.1.symm (fun r hr=>by rw[AJ.mp hr];exact gr_u hρ h.2.2)
 | .n2 nm a b,h=>yH h.1 h.2.1.symm (fun r hr=>by
  rcases AZ.mp hr with rfl | hr
  ·exact gr_u hρ h.2.2.1
  ·rw[AJ.mp hr]
   exact gr_u hρ h.2.2.2)
def bt:Nat->Nat
 | 0=>100
 | d+1=>2 * bt d+12
theorem J6 {a b:Nat} (h:a<=b):bt a<=bt b:=by
 induction h with
 | refl=>exact AG _
 | step _ ih=>
  show bt a<=2 * bt _+12
  omega
structure IsGr (K:PySem.W.Frag) (H:Hp) (g:Addr) (ρ:Str->Rat) (L:List Str):Prop where
 dk:∃ kvs,H g=some (.dK kvs)/\∀ x ∈ L,∃ v,ji kvs (Sum.inr x)=some v/\FR K H v (ρ x) 100
 u:∀ x ∈ L,U (ρ x)
theorem IsGr.same {K:PySem.W.Frag} {H H':Hp} {g:Addr} {ρ:Str->Rat} {L:List Str} (h:IsGr K H g ρ L) (s:zE H H'):IsGr K H' g ρ L:=by
 obtain⟨⟨kvs,h1,h2⟩,u⟩:=h
 refine⟨⟨kvs,s _ _ h1,fun x hx=>?_⟩,u⟩
 obtain⟨v,e,f⟩:=h2 x hx
 exact⟨v,e,f.same s⟩
def Ltr (x:Str):Prop:=x.length=1/\Small x
end L4
namespace L2
open PySem PySem.Spec PyProof.Rows
section
variable {prog : Program} {w : World} {K : Type} [DecidableEq K] {knd : KeyKind prog w K} {A : Around} {E : Value -> Shared -> Prop} {s : Shared}
end
section
variable {X : Cx}
end
section
variable {X : Cx}
end
open PySem PySem.Spec PyProof.Rows L4
section
variable {X : Cx}
end
end L2
namespace L4
open PySem L2
end L4
namespace L2
open PySem PySem.Spec PyProof.Rows
section
variable {prog : Program} {w : World} {A : Around} {R : Result -> Shared -> Prop}
end
section
variable {X : Cx}
theorem hu1 {k:Nat} {A:Around} (hr:jk k A):A.units+1 < cLine:=by
 have:A.units+64 < cLine:=hr.units
 omega
end
open PySem
section
variable {prog : Program} {w : World} {K : Type} [DecidableEq K] {knd : KeyKind prog w K} {A : Around} {E : Value -> Shared -> Prop} {s : Shared}
end
section
variable {prog : Program} {w : World} {A : Around} {E : Value -> Shared -> Prop} {s : Shared}
end
section
variable {prog : Program} {w : World} {A : Around} {E : Value -> Shared -> Prop} {s : Shared}
end
section
variable {prog : Program} {w : World} {A : Around} {E : Value -> Shared -> Prop} {s : Shared} {a I : Addr} {es : Array (Int × Value)} {ep : Nat} {t : SetTable}
end
open PySem PySem.Spec PyProof.Rows PySem.W
section
variable {prog : Program} {w : World} {A : Around} {E : Value -> Shared -> Prop} {s : Shared} {a : Addr} {es : Array (Int × Value)} {ep : Nat} {t : SetTable}
end
section
variable {X : Cx}
end
section
variable {X : Cx}
end
section
variable {prog : Program} {w : World} {A : Around} {R : Result -> Shared -> Prop}
end
section
variable {X : Cx}
end
section
variable {X : Cx}
end
end L2
namespace L4
open PySem L2
end L4
namespace Tn
end Tn
namespace L2
open PySem PySem.Spec PyProof.Rows
section
variable {X : Cx} {N' : List Str} {ix : List (Option Nat)} {scope : Scope} {y : Str} {pins : List (Addr × Obj)} {σ : St} {H : Hp} {s : Shared} {fp : List Addr}
end
open PySem PySem.Spec PyProof.Rows PySem.W
section
variable {prog : Program} {w : World} {A : Around} {E : Value -> Shared -> Prop} {s : Shared} {d it : Addr} {es : Array DictEntry} {ep i : Nat}
end
section
variable {prog : Program} {w : World} {A : Around} {E : Value -> Shared -> Prop} {s : Shared}
end
section
variable {X : Cx}
end
theorem jq:∀ bs:List Bool,((List.range bs.length).any fun i=>bs.getD i false)=bs.any id
 | []=>rfl
 | b :: bs=>by
  have ih:=jq bs
  rw[Ay,CG,BA,List.any_map,BA,<- ih]
  rfl
theorem bt_any:bootBuiltins "any" = some (.builtin "any"):=by decide +kernel
section
variable {X : Cx}
end
section
variable {X : Cx}
def rCountL:V->List V->Hp->VK->Prop:=fun x vs H Q=>∃ p xs y,x=.ref p/\vs=[y]/\H p=some (.lst xs)/\qK y=true/\xs.all qK=true/\Q (.int (xs.countP fun z=>eqV z y:Nat)) H
theorem yJ:MtR X "list.count" rCountL:=by
 intro pins s σ H x vs v us Q I rx rv h
 obtain⟨p,xs,y,rfl,rfl,hq,fy,fx,q⟩:=h
 cases rx
 obtain⟨u,rfl,ru⟩:=vals1 rv
 obtain⟨_,its,n,r,e⟩:=I.hok p _ hq
 refine CW F.slot_list_count ⟨_,e,rfl⟩ F.entry_list_count (F.args_list_count_2 _ _) (SeqAt.list_countAt p its.toArray n none #[] u (eqU y)) ⟨e,fun w hw=>Zk ru fy r fx w (by simpa using hw),?_⟩
 refine⟨.int _,H,I.tok _,⟨_,rfl⟩,?_⟩
 have ec:its.toArray.toList.countP (eqU y)=xs.countP fun z=>eqV z y:=Qi r fx
 rw[ec]
 exact q
def rEqNilT (K:PySem.W.Frag):R2:=fun x y H Q=>∃ p q xs,x=.ref p/\y=.ref q/\SqT K H p xs/\SqT K H q []/\xs.all qK=true/\Q (.bl xs.isEmpty) H
theorem yK (K:PySem.W.Frag) {k:Nat} (hr:jk k X.A) (hK:X.K=K:=by rfl):OpR X (compareOp .Eq) (rEqNilT K):=by
 subst hK
 intro pins s σ H x y v u Q I rx ry h
 obtain⟨p,q,xs,rfl,rfl,hp,hq,fx,hQ⟩:=h
 cases rx
 cases ry
 have hu:X.A.units+64 < cLine:=hr.units
 obtain⟨us,r1,p1,_⟩:=I.tuple hp
 obtain⟨vs,r2,p2,_⟩:=I.tuple hq
 have l1:=r1.length
 have z:=SeqAt.RcAt.tuples (A:=X.A) (s:=s) p1 p2 (by omega) (QE r1 r2 fx rfl)
 cases r2
 have e:((List.range (min us.toArray.size (#[]:Array Value).size)).all (fun j=>eqV (xs.getD j .non) (([]:List V).getD j .non)) && us.toArray.size == (#[]:Array Value).size)=xs.isEmpty:=by
  cases xs with
  | nil=>cases r1;rfl
  | cons x xs=>cases r1;simp
 replace z:=z
 rw[e] at z
 exact z X.prog X.w _ _ ⟨.bl _,H,I,rfl,hQ⟩
theorem opOr {op:Value->Value->Sem Value} {r1 r2:R2} (h1:OpR X op r1) (h2:OpR X op r2):OpR X op fun x y H Q=>r1 x y H Q\/r2 x y H Q:=fun pins s σ H x y v u Q I rx ry h=>h.elim (h1 pins s σ H x y v u Q I rx ry) (h2 pins s σ H x y v u Q I rx ry)
end
section
variable {X : Cx}
def tTryD2 (K:PySem.W.Frag) (C:Addr) (i:Nat) (tb:TSd) (t2:TS) (ts:Addr->TS):TS:=fun D σ H=>tb { D with nx:=t2 D } σ H fun cls d σ' H'=>PySem.W.exmOne K cls (.ref C)=some true/\∀ ea,H' ea=none->ts ea (D.drop i) (σ'.set i (some (.ref ea))) (upd H' ea (Z1 ea cls d))
theorem ps_tryD2 {x n:Str} {C:Addr} {i:Nat} {st b0:Stmt} {rest suite:List Stmt} {np hpos pos:Pos} {tb:TSd} {t2:TS} {ts:Addr->TS} (hst:X.stack=X.env :: X.outer) (hf:X.env.frame=some X.env.locals) (hex:X.ex=[]) (hN:X.N.Nodup) (hi:X.N[i]? = some n) (hl:X.env.scope.names.lookup n=some .local)
  (hg:Gl X x) (hm:X.mg x=some (.ref C)) (hb:PSd X st tb) (hr2:PSs X.nox rest t2) (hs:∀ ea,PSs (X.inEx ea) (b0 :: suite) (ts ea)) (hdb:(x == ("__debug__" : Str))=false:=by decide) :
  PS X (.Try (st :: rest) [.ExceptHandler (some (.Name x np)) (some n) (b0 :: suite) hpos] [] [] pos) (tTryD2 X.K C i tb t2 ts):=by
 intro pins s σ H D I h
 refine wpAny_Try_except (wpAny_execs_cons (A4 (hb _ pins s σ H { D with nx:=t2 D } _ I h (fun e s' hc=>?_)) (fun f s1 q=>?_) fun _ _ z=>z))
 rotate_left
 ·cases f with
  | next=>
   obtain⟨σ1,H1,I1,q1⟩:=q
   refine A4 (hr2 pins s1 σ1 H1 D (I1.wish _) q1) (fun f2 s2 q2=>?_) fun _ _ z=>False.elim z
   have q3:=q2.unwish
   cases f2 with
   | next=>exact By q3
   | ret v=>exact q3
   | brk=>exact q3
   | cont=>exact q3
  | ret v=>exact q
  | brk=>exact q
  | cont=>exact q
 refine landD1 hst hf I.ok.frames hc fun h5 hc5=>?_
 obtain⟨ea,cls,d,σ',H',rfl,I5,hn,⟨hx,hR⟩,hob,h0,nL,nC,nP⟩:=hc5.see
 refine wpAny_handleBy_cons (codeAny_handlers_test (jA (X:=X.inEx ea) (I5.inEx ea) hg hm ((PySem.W.exm_one I5.kIn (wJ (seeD hob)) hx).here ?_) hdb)) (by intro q;cases q)
 refine codeAny_handlers_suite_as (landD2 hc5 fun h6 hc6=>?_)
 obtain⟨ea',cls',d',σ2,H2,e2,I6,hn6,⟨hx6,hR6⟩,hob6,h06,nL6,nC6,nP6⟩:=hc6.see
 cases e2
 have I7:=(I6.adopt hn6 (h06 hex) nL6 nC6 nP6 (excD_ok (H:=upd H2 ea (Z1 ea cls' d')) hob6)).inEx ea
 refine Zj (X:=X.inEx ea) (v:=.ref ea) I7 hN hi (.inl hl) rfl (fun s8 I8=>?_) (.inr hl)
 refine A4 (hs ea pins s8 _ _ (D.drop i) I8 (hR6 ea hn6)) (fun f s9 q=>?_) fun _ _ z=>False.elim z
 cases f with
 | next=>
  obtain⟨σ9,H9,I9,q9⟩:=q
  exact jR (I9.outEx I.ok) hN hi hl fun s10 I10=>⟨_,_,I10,q9⟩
 | brk=>
  obtain⟨σ9,H9,I9,q9⟩:=q
  exact jR (I9.outEx I.ok) hN hi hl fun s10 I10=>⟨_,_,I10,q9⟩
 | cont=>
  obtain⟨σ9,H9,I9,q9⟩:=q
  exact jR (I9.outEx I.ok) hN hi hl fun s10 I10=>⟨_,_,I10,q9⟩
 | ret u=>
  obtain⟨v,σ9,H9,I9,r9,q9⟩:=q
  exact jR (I9.outEx I.ok) hN hi hl fun s10 I10=>⟨_,_,_,I10,r9,q9⟩
end
def yL (ea:Addr) (h:Heap):Prop:=∃ o vs,h.get? ea=some o/\o.data=.fields vs/\vs[2]? = some .none
theorem QP:entryFor table "proto.unchain" = some Builtin.«proto.unchain»:=entryFor_of_tree (by kernel_rfl)
section
variable {prog : Program} {w : World} {A : Around} {E : Value -> Shared -> Prop} {s : Shared}
theorem Jv {ea:Addr} {e:Value} {Q:Value->Shared->Prop} (n:yL ea s.heap) (h:Q .none s):wpAny (model prog w) A (runValue (.builtin "proto.unchain" ⟨[e,.ref ea,.ref ea,.bool false],[]⟩)) Q E s:=by
 obtain⟨o,vs,h1,h2,h3⟩:=n
 refine wpAny_runValue (Ca QP ?_)
 show wpAny _ _ (field (.ref ea) 2 >>= _) _ _ s
 refine AA (A2 h1 h2 h3 ?_)
 rw[if_pos (by rfl)]
 exact AB h
theorem QQ {α:Type} {ea e:Addr} {oe:Obj} {vs:Array Value} {Q:α->Shared->Prop} (hh:A.handled=some (.ref ea)) (ne:ea ≠ e) (n:yL ea s.heap) (h1:s.heap.get? e=some oe) (h2:oe.data=.fields vs) (h3:2 < vs.size)
  (k:E (.ref e) { s with heap:=s.heap.update e (Obj.mapFields (·.setIfInBounds 2 (.ref ea))) }):wpAny (model prog w) A (raiseNew (.ref e):Sem α) Q E s:=by
 unfold raiseNew
 refine AA (wpAny_handled ?_)
 rw[hh]
 dsimp only
 have hb:((Value.ref ea != Value.ref e)=true):=by
  rw[bne_iff_ne]
  intro z
  cases z
  exact ne rfl
 rw[if_pos hb]
 refine AA (Aw (Jv n (AA ?_)))
 show wpAny _ _ (setField (.ref e) 2 (.ref ea)) _ _ _
 exact B6 h1 h2 h3 (wpAny_throw k)
theorem yM {it l ea:Addr} {i:Nat} {items:Array Value} {Q:Option Value->Shared->Prop} (hh:A.handled=some (.ref ea)) (n:yL ea s.heap) (ne:ea ≠ it)
  (hit:s.heap.IsListIter it l i) (hl:s.heap.IsList l items) (hx:items[i]? = none)
  (hQ:∀ h',Heap.ExtBut it s.heap h'->Q none { s with heap:=h' }):wpAny (model prog w) A (pyNext (.ref it)) Q E s:=by
 obtain⟨o,ho,hc,hd⟩:=id hit
 obtain⟨ol,hol,_,nl,hdl⟩:=hl
 unfold pyNext
 refine AA (BQ (wpAny_callSpecial?_slot (name:=Str.ofString "__next__") hit.typeIs slot_listiter_next (BJ slot_listiter_next hit.typeIs entry_listiter_next ?_ (args_listiter_next _))))
 change wpAny _ _ (field (.ref it) 0 >>= _) _ _ s
 refine AA (A2 ho hd (x:=.ref l) rfl ?_)
 change wpAny _ _ (if (Value.ref l == Value.none)=true then _ else _) _ _ s
 rw[if_neg (fun z=>nomatch z)]
 change wpAny _ _ (field (.ref it) 1 >>= _) _ _ s
 refine AA (A2 ho hd (x:=.int i 0) rfl ?_)
 change wpAny _ _ (seqItems? (.ref l) >>= _) _ _ s
 refine AA (wpAny_seqItems hol hdl ?_)
 simp only[Int.toNat_natCast,hx]
 refine AA (Bq (AA (B6 ho hd (by simp) ?_)))
 change wpAny _ _ (newExc (.type "StopIteration") [] >>= _) _ _ _
 refine AA ?_
 simp only[newExc,newTuple]
 refine AA (Aj ?_ (by size_fits))
 refine AA (m:=firstArgMember _ _) (Av (a:=Value.none) (by first | rfl | (simp only[firstArgMember];rfl)) ?_)
 refine Aj ?_ (by size_fits)
 obtain⟨oe,vs,n1,n2,n3⟩:=n
 have hz:it < s.heap.objs.size:=AI ho
 have hz2:ea < s.heap.objs.size:=AI n1
 have sz:∀ (f:Obj->Obj) (o1:Obj),((s.heap.update it f).push o1).objs.size=s.heap.objs.size+1:=fun f o1=>by
  rw[CB]
  unfold Heap.update
  rw[Array.size_modify]
 refine QQ (ea:=ea) hh (fun z=>?_) ⟨oe,vs,(((Cm ..).extBut.push _).push _) ea oe ne n1,n2,n3⟩ (AM _ rfl) rfl (by simp;omega) ?_
 ·have z2:ea=((s.heap.update it _).push _).objs.size:=z
  rw[sz] at z2
  exact absurd z2 (AW (Be hz2))
 ·refine AA (CP (T := "StopIteration") (b:=true) ⟨_,A7 _ (AM _ rfl) rfl,rfl⟩ isSubtype_stop ?_)
  refine AB (hQ _ fun b o' nb eb=>?_)
  have lb:=AI eb
  refine (B2 _ _ _ _ (fun z=>?_)).trans ((((Cm ..).extBut.push _).push _) b o' nb eb)
  have z2:b=((s.heap.update it _).push _).objs.size:=z
  rw[sz] at z2
  exact absurd z2 (AW (Be lb))
theorem J7 {ea:Addr} (hh:A.handled=some (.ref ea)) (I l:Addr) (hne:l ≠ I) (hea:ea ≠ I) (items:Array Value) :
  Walks prog w A I [I,l,ea] [I] items.size (fun i v=>items[i]? = some v) (fun i h=>h.IsListIter I l i/\h.IsList l items/\yL ea h) where
 sub:=fun b hb=>by
  rw[AJ.mp hb]
  exact Ai
 frame:=fun i h h' st hk=>⟨by obtain⟨o,a,r⟩:=st.1;exact⟨o,hk I (by simp) o a,r⟩,by obtain⟨o,a,r⟩:=st.2.1;exact⟨o,hk l (by simp) o a,r⟩,by obtain⟨o,vs,a,r⟩:=st.2.2;exact⟨o,vs,hk ea (by simp) o a,r⟩⟩
 item:=fun i s Q E hi st hQ=>wpAny_pyNext_list_item st.1 st.2.1 (x:=items[i]) (by simp[hi]) fun h' hit' hs'=>hQ _ h' s.toks (by simp[hi])
  ⟨hit',by obtain⟨o,a,r⟩:=st.2.1;exact⟨o,hs'.extBut l o hne a,r⟩,by obtain⟨o,vs,a,r⟩:=st.2.2;exact⟨o,vs,hs'.extBut ea o hea a,r⟩⟩ fun b o hb e=>hs'.extBut b o (fun z=>hb (by simp[z])) e
 done:=fun s Q E st hQ=>yM hh st.2.2 hea st.1 st.2.1 (by simp) fun h' he=>hQ h' s.toks fun b o hb e=>he b o (fun z=>hb (by simp[z])) e
 self:=fun i s Q E st hQ=>wpAny_pyIter_listiter st.1 hQ
end
section
variable {X : Cx}
theorem Jw (X:Cx) (ea:Addr):(X.inEx ea).A.handled=some (.ref ea):=rfl
theorem Wu (K:PySem.W.Frag) {ea:Addr} (hh:X.A.handled=some (.ref ea)) (hK:X.K=K:=by rfl):qU X (.builtin "any") (fun xs H Q=>∃ (p:Addr) (bs:List Bool) (cls:Value) (d:Option Addr),xs=[.ref p]/\SqL K H p (bs.map V.bl)/\H ea=some (Z1 ea cls d)/\Q (.bl (bs.any id)) H):=by
 subst hK
 intro pins s σ H xs us Q I r h
 obtain⟨p,bs,cls,d,rfl,hq,hx,q⟩:=h
 obtain⟨u,rfl,ru⟩:=vals1 r
 cases ru
 obtain⟨its,rv,pl,_⟩:=I.list hq
 have hl:s.heap.IsList p its.toArray:=pl.isList
 obtain⟨oe,vs,n1,_,n2,_,n3⟩:=(I.hok ea _ hx).1
 have hlt:p < s.heap.objs.size:=by obtain⟨_,e,_⟩:=hl;exact AI e
 have n0:yL ea s.heap:=⟨oe,vs,n1,n2,n3⟩
 refine call_any_walk (Cs hl ⟨_,_,_,_,_,_,fun i=>bs.getD i false,rfl,J7 (A:=X.A.in1) hh _ p (AW hlt) (AW (AI n1)) its.toArray,⟨⟨_,AM _ rfl,rfl,rfl⟩,hl.push _,⟨oe,vs,AC _ n1,n2,n3⟩⟩,fun i v s' Q' E' hv hQ=>?_,fun h' tk hk=>⟨.bl _,H,I.kept (old_kept hk),rfl,?_⟩⟩)
 ·have hv':its[i]? = some v:=by simpa using hv
  rw[wM rv,An] at hv'
  obtain⟨b,hb,rfl⟩:=Ar.mp hv'
  have e:bs.getD i false=b:=by simp[List.getD,hb]
  have z:Q' (bs.getD i false) s':=hQ
  rw[e] at z
  exact BG z
 ·have e1:its.toArray.size=bs.length:=by
   have:=rv.length
   rw[AF] at this
   simp;omega
  rw[e1,jq bs]
  exact q
end
section
variable {X : Cx}
end
section
variable {prog : Program} {w : World} {A : Around} {E : Value -> Shared -> Prop} {s : Shared}
end
section
variable {prog : Program} {w : World} {A : Around} {E : Value -> Shared -> Prop} {s : Shared} {a I : Addr} {es : Array (Int × Value)} {ep : Nat} {t : SetTable}
end
section
variable {prog : Program} {w : World} {A : Around} {E : Value -> Shared -> Prop} {s : Shared}
section
variable {a I p : Addr} {es : Array (Int × Value)} {ep : Nat} {t : SetTable} {pl : List Nat}
end
end
section
variable {X : Cx}
end
section
variable {X : Cx}
def rKIn:R2:=fun y x H Q=>∃ a kvs k,x=.ref a/\y=kV k/\H a=some (.dK kvs)/\Q (.bl (ji kvs k).isSome) H
theorem op_kIn {j:Nat} (hr:jk j X.A):OpR X (compareOp .In) rKIn:=by
 intro pins s σ H x y v u Q I rx ry h
 obtain⟨a,kvs,k,rfl,rfl,ha,q⟩:=h
 have hu:X.A.units+64 < cLine:=hr.units
 obtain rfl:u=Value.ref a:=ry
 exact d_in (by omega) I (DGet.k ha) rx fun s' I'=>⟨.bl _,H,I',rfl,q⟩
end
end L2
namespace L4
open PySem L2
namespace Sy
def sub:Sy->List Sy
 | .ltr x=>[.ltr x]
 | .n0 n=>[.n0 n]
 | .n1 n a=>.n1 n a :: a.sub
 | .n2 n a b=>.n2 n a b :: (a.sub++b.sub)
end Sy
theorem Sy.sub_ps (s:Sy):s.sub=s :: s.ps.flatMap Sy.sub:=by
 cases s <;> simp[Sy.sub,Sy.ps]
theorem Sy.ps_le (s:Sy):s.ps.length<=2:=by cases s <;> simp[Sy.ps]
def Sy.lets:Sy->List Str
 | .ltr x=>[x]
 | .n0 _=>[]
 | .n1 _ a=>a.lets
 | .n2 _ a b=>a.lets++b.lets
end L4
namespace K42
open PySem L2 L4
local macro_rules | `(tactic| walk_at "hp") => `(tactic| first | assumption | exact zb | (rw [zt (by first | assumption | exact Ne.symm (by assumption) | exact zF (by assumption) (by assumption) | exact Ne.symm (zF (by assumption) (by assumption)))]; walk_at "hp"))
local macro_rules | `(tactic| walk_at "r1") => `(tactic| first | refine ⟨_, rfl, ?_⟩ | refine .inl ⟨_, _, _, _, rfl, rfl, SqL.of (by walk_at "hp"), rfl, ?_⟩ | refine .inr (.inl ⟨_, _, _, _, rfl, rfl, SqT.of (by walk_at "hp"), rfl, ?_⟩) | refine ⟨_, _, rfl, rfl, ?_⟩ | refine ⟨(show CMul _ _ from .inr ⟨by omega, by omega⟩), ?_⟩ | refine ⟨(show CMul _ _ from .inl ⟨by omega, by omega⟩), ?_⟩ | refine ⟨(show CDiv _ _ from ⟨by omega, by omega⟩), ?_⟩ | refine ⟨(show CPow _ _ from ⟨by decide, by decide, by decide⟩), ?_⟩ | refine ⟨(show (0 : Int) < _ by omega), ?_⟩ | refine ⟨_, _, _, _, rfl, rfl, (by walk_at "hp"), rfl, ?_⟩)
local macro_rules | `(tactic| walk_at "rd") => `(tactic| repeat walk_at "r1")
local macro_rules | `(tactic| walk_at "dc") => `(tactic| first | refine jN ?_ | refine ZC ?_ | refine Z3 (by decide +kernel) ?_ | refine J1 (by decide +kernel) ?_ | refine ⟨_, rfl, rfl, _, rfl, ?_⟩)
local macro_rules | `(tactic| walk_at "ds") => `(tactic| repeat walk_at "dc")
local macro_rules | `(tactic| walk_at "v") => `(tactic| first | exact Or.inl rfl | exact Or.inr (Or.inl rfl) | exact Or.inr (Or.inr rfl))
local macro_rules | `(tactic| walk_at "f") => `(tactic| first | exact .inl rfl | exact .inr rfl | assumption)
def QR:Sp:=fun vs H Q _=>∃ (t:Th) (v:V),vs=[v]/\Z2 H t v/\Q (.bl (wholeB t)) H
theorem at0 {x:V} {us:List V}:atI (x :: us) 0=some x:=qZ (j:=0) rfl
theorem two {zs:List (V×Rat)} {nm:Str} (h:zs.length=qS nm) (e:qS nm=2:=by decide +kernel):∃ z1 z2,zs=[z1,z2]:=by
 rw[e] at h
 match zs,h with
 | [a,b],_=>exact⟨a,b,rfl⟩
theorem one1 {zs:List (V×Rat)} {nm:Str} (h:zs.length=qS nm) (e:qS nm=1:=by decide +kernel):∃ z1,zs=[z1]:=by
 rw[e] at h
 match zs,h with
 | [a],_=>exact⟨a,rfl⟩
theorem jr {xs:List V} (h:1<=xs.length):Qe xs (some 1) none=xs.drop 1:=by
 unfold Qe
 rw[show HT.sIx xs.length 0 (some 1)=1 by rw[show (1:Int)=((1:Nat):Int) from rfl,HT.sIx_nat];omega,HT.sIx_none]
 exact Ah (by rw[BH];omega)
theorem ZR {K:PySem.W.Frag} {H:Hp} {a:Addr} {xs:List V} {lo hi:Option Int} {Q:VK} (ha:H a=some (.tup xs)) (F:∀ t H',zE H H'->H' t=some (.tup (Qe xs lo hi))->Q (.ref t) H'):rSlT K (.ref a) lo hi H Q\/rSlTW K (.ref a) lo hi H Q:=by
 by_cases h:HT.sIx xs.length 0 lo=0/\HT.sIx xs.length xs.length hi=xs.length
 ·refine .inr ⟨a,xs,rfl,SqT.of ha,h,F a H (zE.refl H) ?_⟩
  unfold Qe
  rw[h.1,h.2,List.drop_zero,Nat.sub_zero,List.take_length]
  exact ha
 ·exact .inl ⟨a,xs,rfl,SqT.of ha,h,fun p hp=>F p _ (zd hp _) zb⟩
theorem QS {K:PySem.W.Frag} {H:Hp} {a b:Addr} {xs ys:List V} {Q:VK} (ha:H a=some (.tup xs)) (hb:H b=some (.tup ys)) (hz:xs.length+ys.length<=1000) (F:∀ t H',zE H H'->H' t=some (.tup (xs++ys))->Q (.ref t) H'):rCatA K (.ref a) (.ref b) H Q:=
 ⟨a,b,xs,ys,rfl,rfl,SqT.of ha,SqT.of hb,zh hz,fun z=>F b H (zE.refl H) (by rw[z];exact hb),fun _ z=>F a H (zE.refl H) (by rw[z,Bc];exact ha),fun _ _ p hp=>F p _ (zd hp _) zb⟩
theorem J8 {H H':Hp} (k:Tk H H') {ss:List Sy} {us:List V} (h:Paired (ql H) ss us):Paired (ql H') ss us:=by
 induction h with
 | nil=>exact .nil
 | cons r _ ih=>exact .cons (r.tk k) ih
theorem yN {H:Hp} {ss:List Sy} {us:List V} {s:Sy} {u:V} (h:Paired (ql H) ss us) (k:ql H s u):Paired (ql H) (ss++[s]) (us++[u]):=by
 induction h with
 | nil=>exact .cons k .nil
 | cons r _ ih=>exact .cons r ih
def Ls (L:List Str):Prop:=∀ x ∈ L,Ltr x
def J9:Sp:=fun vs H Q _=>∃ x:Str,vs=[.str x]/\Small x/\x.length<=8/\∀ H',zE H H'->Q (.bl true) H'
def Wv:Sp:=fun vs H Q _=>∃ (v:V) (s:Sy),vs=[v]/\ql H s v/\(s.isL=true->Ltr s.nm)/\∀ H',zE H H'->Q (.bl s.isL) H'
def Zp (K:PySem.W.Frag):Nat->Sp
 | 0=>fun _ _ _ _=>False
 | j+1=>fun vs H Q _=>∃ (k:Str) (v:V) (s:Sy) (g:Addr) (L:List Str) (ρ:Str->Rat),vs=[.str k,v,.ref g]/\Kd k/\ql H s v/\GS L s/\Ls L/\IsGr K H g ρ L/\s.dp<=j/\s.dp<=5/\∀ u H',zE H H'->FR K H' u (gr k ρ s) (bt s.dp)->Q u H'
theorem bt4 {d:Nat} (h:d<=4):bt d<=1780:=Ab (J6 h) (by decide)
def jW:List (List V):=[[.str "and",.int 2],[.str "or",.int 2],[.str "then",.int 2],[.str "with",.int 2],[.str "not",.int 1],[.str "false",.int 0],[.str "true",.int 0]]
theorem shape_in {nm:Str} (hm:nm ∈ qc):(jW.any fun c=>Q2 c [.str nm,.int (qS nm:Nat)])=true:=by
 unfold qc at hm
 simp only[List.mem_cons,List.not_mem_nil,or_false] at hm
 rcases hm with rfl | rfl | rfl | rfl | rfl | rfl | rfl <;> decide +kernel
theorem arity2 (nm:Str):qS nm<=2:=by unfold qS;split;omega;split <;> omega
theorem yO {α:Type} {f:α->Nat} (xs:List α) (h:∀ x,1<=f x):xs.length<=(xs.map f).sum:=by
 induction xs with
 | nil=>exact AG _
 | cons x xs ih=>
  rw[Ay,Ag,List.sum_cons]
  have:=h x
  omega
def jX:Th->Bool
 | .str x=>inV (.str x) [.str "least",.str "cut",.str "times"]
 | _=>false
theorem kind_of {t:Th} (h:jX t=true):∃ k,t=.str k/\Kd k:=by
 cases t with
 | str x=>
  refine⟨x,rfl,?_⟩
  have h':inV (.str x) [.str "least",.str "cut",.str "times"]=true:=h
  simp[inV,eqV] at h'
  unfold Kd
  rcases h' with h | h | h <;> simp[h]
 | _=>cases h
def yP (C:Addr):Sp:=fun vs H Q E=>∃ (t:Th) (v:V),vs=[v]/\Z2 H t v/\(jX t=false->E (.ref C) none H)/\(jX t=true->Q .non H)
def jY (s:Sy):Prop:=∀ x ∈ s.lets,Ltr x
theorem jY.part {s a:Sy} (h:jY s) (ha:a ∈ s.ps):jY a:=by
 cases s with
 | ltr x=>cases ha
 | n0 n=>cases ha
 | n1 n b=>
  rw[AJ.mp ha]
  exact h
 | n2 n b c=>
  rcases AZ.mp ha with rfl | ha
  ·exact fun x hx=>h x (A6 _ hx)
  ·rw[AJ.mp ha]
   exact fun x hx=>h x (AX _ hx)
theorem jY.isl {s:Sy} (h:jY s) (hs:s.isL=true):Ltr s.nm:=by
 cases s with
 | ltr x=>exact h x (AJ.mpr rfl)
 | _=>cases hs
theorem jY.sub:∀ {s a:Sy},jY s->a ∈ s.sub->jY a
 | .ltr x,a,h,ha=>by rw[AJ.mp ha];exact h
 | .n0 n,a,h,ha=>by rw[AJ.mp ha];exact h
 | .n1 n b,a,h,ha=>by
  rcases AZ.mp ha with rfl | ha
  ·exact h
  ·exact jY.sub (s:=b) h ha
 | .n2 n b c,a,h,ha=>by
  rcases AZ.mp ha with rfl | ha
  ·exact h
  ·rcases Ae.mp ha with ha | ha
   ·exact jY.sub (s:=b) (fun x hx=>h x (A6 _ hx)) ha
   ·exact jY.sub (s:=c) (fun x hx=>h x (AX _ hx)) ha
def SyS (H:Hp) (ps:List (V×Sy)):Prop:=∀ z ∈ ps,jY z.2/\ql H z.2 z.1
theorem SyS.same {H H':Hp} (s:zE H H') {ps:List (V×Sy)} (h:SyS H ps):SyS H' ps:=fun z hz=>⟨(h z hz).1,(h z hz).2.same s⟩
theorem SyS.paired {H:Hp}:∀ {ps:List (V×Sy)},SyS H ps->Paired (ql H) (ps.map Prod.snd) (ps.map Prod.fst)
 | [],_=>.nil
 | z :: ps,h=>.cons (h z Ai).2 (SyS.paired fun y hy=>h y (AV _ hy))
theorem Ww {H:Hp} {ss:List Sy} {us:List V} (h:Paired (ql H) ss us) (g:∀ a ∈ ss,jY a):SyS H (us.zip ss)/\(us.zip ss).map Prod.fst=us/\(us.zip ss).map Prod.snd=ss:=by
 induction h with
 | nil=>exact⟨(fun z hz=>by cases hz),rfl,rfl⟩
 | @cons a u ss us r _ ih=>
  obtain⟨i1,i2,i3⟩:=ih fun b hb=>g b (AV _ hb)
  refine⟨fun z hz=>?_,?_,?_⟩
  ·rcases AZ.mp hz with rfl | hz
   ·exact⟨g _ (Ai ..),r⟩
   ·exact i1 z hz
  ·rw[Cc,Ag,i2]
  ·rw[Cc,Ag,i3]
def yQ:Sp:=fun vs H Q _=>∃ (v:V) (s:Sy),vs=[v]/\ql H s v/\jY s/\s.sz<=63/\∀ l us H',zE H H'->H' l=some (.lst us)->Paired (ql H') s.sub us->Q (.ref l) H'
def Jx (P:Sy->Prop) (nm:Str) (ss:List Sy):Prop:=∃ (i:Nat) (z:Sy),ss[i]? = some z/\(∀ (j:Nat) (y:Sy),j < i->ss[j]? = some y->P y)/\¬ P z/\z.nm=nm
theorem ZS {P:Sy->Prop} {a b:Str} {ss:List Sy} (h:Jx P a ss) (k:Jx P b ss):a=b:=by
 obtain⟨i,z,h1,h2,h3,h4⟩:=h
 obtain⟨j,y,k1,k2,k3,k4⟩:=k
 rcases Nat.lt_trichotomy i j with e | e | e
 ·exact absurd (k2 i z e h1) h3
 ·rw[e,k1] at h1
  rw[<- h4,<- k4,AO h1]
 ·exact absurd (h2 j y e k1) k3
theorem jG {P:Sy->Prop} {a:Str} {ss:List Sy} (h:Jx P a ss) (k:∀ y ∈ ss,P y):False:=by
 obtain⟨i,z,h1,_,h3,_⟩:=h
 exact h3 (k z (AH h1))
theorem Jy {P:Sy->Prop} {z:Sy} {ss:List Sy} (h:¬ P z):Jx P z.nm (z :: ss):=⟨0,z,rfl,(fun j y hj=>absurd hj (Bb _)),h,rfl⟩
theorem Jz {P:Sy->Prop} {nm:Str} {as bs:List Sy} (h:∀ y ∈ as,P y) (k:Jx P nm bs):Jx P nm (as++bs):=by
 obtain⟨i,z,k1,k2,k3,k4⟩:=k
 refine⟨as.length+i,z,by rw[BP (Nat.le_add_right _ _),Nat.add_sub_cancel_left];exact k1,fun j y hj hy=>?_,k3,k4⟩
 by_cases e:j < as.length
 ·rw[BE e] at hy
  exact h y (AH hy)
 ·rw[BP (by omega)] at hy
  exact k2 (j - as.length) y (by omega) hy
theorem badP_app {P:Sy->Prop} {nm:Str} {as bs:List Sy} (k:Jx P nm as):Jx P nm (as++bs):=by
 obtain⟨i,z,k1,k2,k3,k4⟩:=k
 have hi:=(AD.mp k1).1
 refine⟨i,z,by rw[BE hi];exact k1,fun j y hj hy=>?_,k3,k4⟩
 rw[BE (by omega)] at hy
 exact k2 j y hj hy
def KnC (s:Sy):Prop:=s.isL=true\/(s.nm ∈ qc/\s.ps.length=qS s.nm)
def KnL (M:List Str) (s:Sy):Prop:=s.isL=true->s.nm ∈ M
theorem gs_of {M:List Str}:∀ {s:Sy},(∀ y ∈ s.sub,KnC y)->(∀ y ∈ s.sub,KnL M y)->GS M s
 | .ltr x,_,h=>h (.ltr x) (by simp[Sy.sub]) rfl
 | .n0 nm,h,_=>by
  rcases h (.n0 nm) (by simp[Sy.sub]) with z | z
  ·cases z
  ·exact⟨z.1,z.2.symm⟩
 | .n1 nm a,h,k=>by
  have ia:=gs_of (M:=M) (s:=a) (fun y hy=>h y (AV _ hy)) (fun y hy=>k y (AV _ hy))
  rcases h (.n1 nm a) (by simp[Sy.sub]) with z | z
  ·cases z
  ·exact⟨z.1,z.2.symm,ia⟩
 | .n2 nm a b,h,k=>by
  have ia:=gs_of (M:=M) (s:=a) (fun y hy=>h y (AV _ (A6 _ hy))) (fun y hy=>k y (AV _ (A6 _ hy)))
  have ib:=gs_of (M:=M) (s:=b) (fun y hy=>h y (AV _ (AX _ hy))) (fun y hy=>k y (AV _ (AX _ hy)))
  rcases h (.n2 nm a b) (by simp[Sy.sub]) with z | z
  ·cases z
  ·exact⟨z.1,z.2.symm,ia,ib⟩
theorem yR {nm:Str} {n:Nat} (h:(jW.any fun c=>Q2 c [.str nm,.int (n:Nat)])=true):nm ∈ qc/\n=qS nm:=by
 simp[jW,Q2,eqV] at h
 unfold qc
 rcases h with ⟨rfl,h⟩ | ⟨rfl,h⟩ | ⟨rfl,h⟩ | ⟨rfl,h⟩ | ⟨rfl,h⟩ | ⟨rfl,h⟩ | ⟨rfl,h⟩
 all_goals refine⟨by decide +kernel,?_⟩
 all_goals first | (obtain rfl:n=0:=(by omega);decide +kernel) | (obtain rfl:n=1:=(by omega);decide +kernel) | (obtain rfl:n=2:=(by omega);decide +kernel)
structure GrX (K:PySem.W.Frag) (H:Hp) (g:Addr) (ρ:Str->Rat) (M:List Str):Prop where
 gr:IsGr K H g ρ M
 no:∃ kvs,H g=some (.dK kvs)/\∀ x,x ∉ M->ji kvs (Sum.inr x)=none
theorem GrX.same {K:PySem.W.Frag} {H H':Hp} {g:Addr} {ρ:Str->Rat} {M:List Str} (h:GrX K H g ρ M) (s:zE H H'):GrX K H' g ρ M:=⟨h.gr.same s,by
 obtain⟨kvs,h1,h2⟩:=h.no
 exact⟨kvs,s _ _ h1,h2⟩⟩
def wb (C N:Addr):Sp:=fun vs H Q E=>∃ (l:Addr) (us:List V) (ss:List Sy),vs=[.ref C,.ref l]/\H l=some (.lst us)/\Paired (ql H) ss us/\(∀ s ∈ ss,s.isL=true->Ltr s.nm)/\((∀ s ∈ ss,KnC s)->∀ H',zE H H'->Q .non H')/\∀ nm,Jx KnC nm ss->∀ d H',zE H H'->H' d=none->E (.ref N) (some d) (upd H' d (.xd [("name",.str nm)]))
def wc (K:PySem.W.Frag) (N:Addr):Sp:=fun vs H Q E=>∃ (l g:Addr) (us:List V) (ss:List Sy) (ρ:Str->Rat) (M:List Str),vs=[.ref l,.ref g]/\H l=some (.lst us)/\Paired (ql H) ss us/\(∀ s ∈ ss,s.isL=true->Ltr s.nm)/\GrX K H g ρ M/\((∀ s ∈ ss,KnL M s)->∀ H',zE H H'->Q .non H')/\∀ x,Jx (KnL M) x ss->∀ d H',zE H H'->H' d=none->E (.ref N) (some d) (upd H' d (.xd [("letter",.str x)]))
def spGBX (K:PySem.W.Frag) (C2 C3 C4:Addr):Sp:=fun vs H Q E=>∃ (t:Th) (kv v:V) (s:Sy) (g:Addr) (ρ:Str->Rat) (M:List Str),vs=[kv,v,.ref g]/\Z2 H t kv/\ql H s v/\jY s/\s.dp<=5/\GrX K H g ρ M/\Ls M /\
 (jX t=false->∀ H',zE H H'->E (.ref C3) none H') /\
 (jX t=true->∀ nm,Jx KnC nm s.sub->∀ d H',zE H H'->H' d=none->E (.ref C2) (some d) (upd H' d (.xd [("name",.str nm)]))) /\
 (jX t=true->(∀ y ∈ s.sub,KnC y)->∀ x,Jx (KnL M) x s.sub->∀ d H',zE H H'->H' d=none->E (.ref C4) (some d) (upd H' d (.xd [("letter",.str x)]))) /\
 (jX t=true->(∀ y ∈ s.sub,KnC y)->(∀ y ∈ s.sub,KnL M y)->∀ p a b H',zE H H'->H' p=some (.tup [a,b])->Q (.ref p) H')
def wd:Sp:=fun vs H Q _=>∃ (c:Int) (sz:Addr) (ns:List Nat),vs=[.int c,.ref sz]/\H sz=some (.lst (ns.map nV))/\ns.length<=100/\(∀ n ∈ ns,1<=n/\n<=10000000)/\∀ (l:Addr) (fs:List Nat) (H':Hp),zE H H'->H' l=some (.lst (fs.map nV))->fs.length=ns.length->(∀ (i n f:Nat),ns[i]? = some n->fs[i]? = some f->f < n)->Q (.ref l) H'
def sgn (c:Nat):Str:=⟨#[c]⟩
def Lcod (c:Nat):Prop:=97<=c/\c<=122
theorem sgn_ltr {c:Nat} (h:Lcod c):Ltr (sgn c):=⟨rfl,fun x hx=>by
 have e:x=c:=by simpa [sgn] using hx
 rw[e]
 exact h⟩
def ZT:Sp:=fun vs H Q _=>∃ (l:Addr) (fs:List Nat) (m:Nat),vs=[.ref l,nV m]/\H l=some (.lst (fs.map nV))/\m<=fs.length/\m<=6/\∀ (lt:Addr) (cs:List Nat) (H':Hp),zE H H'->H' lt=some (.lst (cs.map fun c=>V.str (sgn c)))->cs.length=m->(∀ c ∈ cs,Lcod c)->Q (.ref lt) H'
def Zq:Nat->Sp
 | 0=>fun _ _ _ _=>False
 | j+1=>fun vs H Q _=>∃ (l lt:Addr) (fs:List Nat) (a dd:Nat) (L:List Str),vs=[.ref l,nV a,nV dd,.ref lt]/\H l=some (.lst (fs.map nV))/\H lt=some (.lst (L.map V.str))/\1<=L.length/\L.length<=6/\dd<=j/\dd<=4/\fs.length<=1000/\(a+2) * 2 ^ dd<=fs.length+1/\∀ v s H',zE H H'->ql H' s v->GS L s->s.dp<=dd->Q v H'
def yS:List (Str×Nat):=[("and",2),("or",2),("then",2),("with",2),("not",1),("false",0),("true",0),("then",2)]
theorem Wx:(yS.all fun p=>decide (p.1 ∈ qc) && decide (qS p.1=p.2))=true:=by decide +kernel
theorem yT {i:Nat} {p:Str×Nat} (h:yS[i]? = some p):p.1 ∈ qc/\qS p.1=p.2:=by
 have:=A5.mp Wx p (AH h)
 rw[Az] at this
 exact⟨Am this.1,Am this.2⟩
theorem yU {xs:List Nat} {i:Nat} (hi:i < xs.length):atI (xs.map nV) (i:Int)=some (nV (xs.getD i 0)):=by
 refine qZ ?_
 rw[An,AE hi,BC,AE hi]
 rfl
theorem QT {α:Type} {f:α->V} {xs:List α} {i:Nat} {x:α} (h:xs[i]? = some x):atI (xs.map f) (i:Int)=some (f x):=qZ (by rw[An,h];rfl)
theorem we {ns fs:List Nat} {n v:Nat} (h:∀ (j n f:Nat),ns[j]? = some n->fs[j]? = some f->f < n) (hi:ns[fs.length]? = some n) (hv:v < n):∀ (j n f:Nat),ns[j]? = some n->(fs++[v])[j]? = some f->f < n:=fun j n' f h1 h2=>by
 by_cases hj:j < fs.length
 ·rw[BE hj] at h2
  exact h j n' f h1 h2
 ·rw[BP (by omega)] at h2
  have e:j - fs.length=0:=by
   cases hz:j - fs.length with
   | zero=>rfl
   | succ z=>rw[hz] at h2;simp at h2
  have ej:j=fs.length:=by omega
  rw[ej,hi] at h1
  rw[e] at h2
  have e1:v=f:=by simpa using h2
  have e2:=AO h1
  omega
def yV:Str := "abcdefghijklmnopqrstuvwxyz"
def AL:List Nat:=(List.range 26).map (97 + ·)
theorem wf:yV.cps.toList=AL:=by decide +kernel
theorem wg {cs:List Nat} (hl:cs.length < 26):∃ c ∈ AL,c ∉ cs:=by
 refine Classical.byContradiction fun hn=>?_
 have all:∀ i,i < 26->97+i ∈ cs:=fun i hi=>Classical.byContradiction fun z=>hn ⟨97+i,BS.mpr ⟨i,Bf.mpr hi,rfl⟩,z⟩
 have nd:((List.range 26).map fun i=>cs.idxOf (97+i)).Nodup:=by
  unfold List.Nodup
  rw[List.pairwise_map]
  refine List.Pairwise.imp_of_mem (fun {a b} ha hb hab he=>?_) (List.nodup_range (n:=26))
  have h1:=Bs (all a (Bf.mp ha))
  have h2:=Bs (all b (Bf.mp hb))
  have g1:=List.getElem_idxOf h1
  have g2:=List.getElem_idxOf h2
  have:cs[cs.idxOf (97+a)]=cs[cs.idxOf (97+b)]:=by congr 1
  omega
 have:=Tn.nodup_len cs.length _ nd fun x hx=>by
  obtain⟨i,hi,rfl⟩:=BS.mp hx
  exact Bs (all i (Bf.mp hi))
 rw[AF,List.length_range] at this
 omega
theorem sgn_inj {a b:Nat} (h:sgn a=sgn b):a=b:=by
 have:(#[a]:Array Nat) = #[b]:=by
  have:=BB Str.cps h
  exact this
 simpa using this
theorem in_sgn (c:Nat) (cs:List Nat):inV (.str (sgn c)) (cs.map fun c=>V.str (sgn c))=decide (c ∈ cs):=by
 induction cs with
 | nil=>rfl
 | cons w cs ih=>
  unfold inV at ih ⊢
  rw[Ag,BA,ih]
  have e:eqV (.str (sgn w)) (.str (sgn c))=decide (c=w):=by
   by_cases h:c=w
   ·rw[h]
    simp[eqV]
   ·rw[AQ h]
    simp[eqV]
    exact fun z=>h (sgn_inj z).symm
  rw[e,<- Bool.decide_or]
  exact decide_eq_decide.mpr AZ.symm
theorem flat_sgn (cs:List Nat):(cs.map fun c=>V.str (sgn c)).all qK=true:=by
 rw[Cg,A5]
 intro i _
 rfl
theorem cut_ints {f:Int->V} (ns:List Int) (lo hi:Option Int):∃ cs:List Int,Qe (ns.map f) lo hi=cs.map f/\cs.length<=ns.length:=by
 unfold Qe
 refine⟨(ns.drop (HT.sIx (ns.map f).length 0 lo)).take (HT.sIx (ns.map f).length (ns.map f).length hi - HT.sIx (ns.map f).length 0 lo),?_,?_⟩
 ·rw[<- List.map_drop,<- List.map_take]
 ·rw[Al,BH]
  omega
theorem cut_from {fs:List Nat} {k:Nat} (h:k<=fs.length):Qe (fs.map nV) (some (k:Int)) none=(fs.drop k).map nV:=by
 unfold Qe
 rw[HT.sIx_nat,HT.sIx_none,AF,show min k fs.length=k by omega,<- List.map_drop,Ah]
 rw[AF,BH]
 omega
theorem rep_nV (n k:Nat):(List.replicate n [nV k]).flatten=(List.replicate n k).map nV:=by
 induction n with
 | zero=>rfl
 | succ n ih=>
  rw[A8,Bg,ih,A8,Ag]
  rfl
theorem SqT_putD {K:PySem.W.Frag} {H:Hp} {a D:Addr} {xs:List V} {kvs:List (Key×V)} {o:HO} (h:SqT K H a xs) (hD:H D=some (.dK kvs)):SqT K (upd H D o) a xs:=by
 rcases h with (h | ⟨u,h⟩) | h
 ·exact .inl (.inl (by rw[zt (JO h hD (by intro z;cases z))];exact h))
 ·exact .inl (.inr ⟨u,by rw[zt (JO h hD (by intro z;cases z))];exact h⟩)
 ·exact .inr h
theorem wj {K:PySem.W.Frag} {H:Hp} {v:V} {r:Rat} {n:Nat} {D:Addr} {kvs:List (Key×V)} {o:HO} (h:FR K H v r n) (hD:H D=some (.dK kvs)):FR K (upd H D o) v r n:=by
 obtain⟨p,e,h1,h2,h3⟩:=h
 exact⟨p,e,SqT_putD h1 hD,h2,h3⟩
def Drawn (K:PySem.W.Frag) (H:Hp) (g:Addr) (L:List Str) (i:Nat):Prop:=∃ kvs:List (Key×V),H g=some (.dK kvs)/\kvs.length<=i/\∀ x ∈ L.take i,∃ v r,ji kvs (Sum.inr x)=some v/\FR K H v r 100/\U r
theorem putK_len (kvs:List (Key×V)) (k:Key) (v:V):(Z6 kvs k v).length<=kvs.length+1:=by
 unfold Z6
 split
 ·rw[AF]
  omega
 ·rw[AR]
  exact AG _
open Classical in
theorem QU {L:List Str} (hL:Ls L):∀ {s:Sy},GS L s->jY s
 | .ltr x,h=>fun y hy=>by
  have e:y=x:=AJ.mp hy
  rw[e]
  exact hL x h
 | .n0 nm,h=>fun y hy=>by cases hy
 | .n1 nm a,h=>fun y hy=>QU hL h.2.2 y hy
 | .n2 nm a b,h=>fun y hy=>(Ae.mp hy).elim (QU hL h.2.2.1 y) (QU hL h.2.2.2 y)
theorem yW {nm:Str} {ss:List Sy} (h:∀ a ∈ ss,jY a):jY (Sy.mk nm ss):=by
 match ss,h with
 | [],_=>exact fun y hy=>by cases hy
 | [a],h=>exact fun y hy=>h a (by simp) y hy
 | a :: b :: _,h=>exact fun y hy=>(Ae.mp hy).elim (h a (by simp) y) (h b (by simp) y)
def okP:Sy->List Nat->Prop
 | _,[]=>True
 | s,k :: p=>∃ i z,k=i+1/\s.ps[i]? = some z/\okP z p
def putS:Sy->List Nat->Sy->Sy
 | _,[],o=>o
 | s,k :: p,o=>Sy.mk s.nm (s.ps.set (k - 1) (putS (s.ps.getD (k - 1) s) p o))
theorem wk {s z o:Sy} {i:Nat} {p:List Nat} (hz:s.ps[i]? = some z):putS s ((i+1) :: p) o=Sy.mk s.nm (s.ps.set i (putS z p o)):=by
 show Sy.mk s.nm (s.ps.set i (putS (s.ps.getD i s) p o))=_
 rw[BC,hz]
 rfl
theorem wU:∀ {p:List Nat} {s o:Sy},jY s->jY o->okP s p->jY (putS s p o)
 | [],_,_,_,ho,_=>ho
 | k :: p,s,o,hs,ho,⟨i,z,e,hz,hp⟩=>by
  subst e
  rw[wk hz]
  refine yW fun a ha=>?_
  rcases List.mem_or_eq_of_mem_set ha with h | h
  ·exact hs.part h
  ·rw[h]
   exact wU (hs.part (AH hz)) ho hp
theorem dp_put:∀ {p:List Nat} {s o:Sy},okP s p->(putS s p o).dp<=s.dp+o.dp
 | [],_,_,_=>Nat.le_add_left ..
 | k :: p,s,o,⟨i,z,e,hz,hp⟩=>by
  subst e
  rw[wk hz]
  have hd:=Sy.dp_lt (AH hz)
  obtain⟨d,hd'⟩:∃ d,s.dp=d+1:=⟨s.dp - 1,by omega⟩
  refine Ab (dp_mk (d:=d+o.dp) fun a ha=>?_) (by omega)
  rcases List.mem_or_eq_of_mem_set ha with h | h
  ·have:=Sy.dp_lt h
   omega
  ·rw[h]
   have:=dp_put (o:=o) hp
   omega
theorem wl:∀ {p:List Nat} {s:Sy},okP s p->p.length<=s.dp
 | [],_,_=>Ax _
 | k :: p,s,⟨i,z,e,hz,hp⟩=>by
  have hd:=Sy.dp_lt (AH hz)
  have:=wl hp
  show p.length+1<=_
  omega
def Wy (H:Hp) (p:List Nat) (u:V):Prop:=∃ t,u=.ref t/\H t=some (.tup (p.map nV))
theorem Wy.tk {H H':Hp} {p:List Nat} {u:V} (h:Wy H p u) (s:Tk H H'):Wy H' p u:=by
 obtain⟨t,e,h⟩:=h
 exact⟨t,e,s _ _ h⟩
theorem wV {H H':Hp} (s:Tk H H') {ss:List (List Nat)} {us:List V} (h:Paired (Wy H) ss us):Paired (Wy H') ss us:=by
 induction h with
 | nil=>exact .nil
 | cons r _ ih=>exact .cons (r.tk s) ih
theorem yX {H:Hp} {ss tt:List (List Nat)} {us ws:List V} (h:Paired (Wy H) ss us) (k:Paired (Wy H) tt ws):Paired (Wy H) (ss++tt) (us++ws):=by
 induction h with
 | nil=>exact k
 | cons r _ ih=>exact .cons r ih
theorem sy_set {H:Hp} {ss:List Sy} {us:List V} {s:Sy} {u:V} (h:Paired (ql H) ss us) (k:ql H s u):∀ (i:Nat),Paired (ql H) (ss.set i s) (us.set i u):=by
 induction h with
 | nil=>exact fun _=>.nil
 | cons r hp ih=>
  intro i
  cases i with
  | zero=>exact .cons k hp
  | succ i=>exact .cons r (ih i)
theorem wW {s:Sy} (hs:s.isL=false):s.ps.length<=2:=by cases s <;> simp[Sy.ps]
theorem flat_nV (p:List Nat):(p.map nV).all qK=true:=by
 rw[Cg,A5]
 intro i _
 rfl
theorem cut_to {xs:List V} {n:Nat}:Qe xs none (some (n:Int))=xs.take n:=by
 unfold Qe
 rw[HT.sIx_none,HT.sIx_nat,List.drop_zero,Nat.sub_zero]
 by_cases h:n<=xs.length
 ·rw[Nat.min_eq_left h]
 ·rw[Nat.min_eq_right (by omega),Ah (AG _),Ah (by omega)]
theorem cut_fr {xs:List V} {n:Nat}:Qe xs (some (n:Int)) none=xs.drop n:=by
 unfold Qe
 rw[HT.sIx_none,HT.sIx_nat,Ah (by rw[BH];omega)]
 by_cases h:n<=xs.length
 ·rw[Nat.min_eq_left h]
 ·rw[Nat.min_eq_right (by omega),List.drop_of_length_le (AG _),List.drop_of_length_le (by omega)]
def QV:Nat->Sp
 | 0=>fun _ _ _ _=>False
 | j+1=>fun vs H Q _=>∃ (v:V) (s:Sy),vs=[v]/\ql H s v/\s.dp<=j/\s.dp<=5/\∀ l us pp H',zE H H'->H' l=some (.lst us)->Paired (Wy H') pp us->(∀ p ∈ pp,okP s p)->1<=pp.length->pp.length<=s.sz->Q (.ref l) H'
def spPut:Nat->Sp
 | 0=>fun _ _ _ _=>False
 | j+1=>fun vs H Q _=>∃ (v pv ov:V) (s o:Sy) (p:List Nat),vs=[v,pv,ov]/\ql H s v/\Wy H p pv/\okP s p/\ql H o ov/\p.length<=j/\p.length<=5/\∀ u H',zE H H'->ql H' (putS s p o) u->Q u H'
def wm:Sp:=fun vs H Q _=>∃ (x:Nat) (l:Str),vs=[nV x,.str l]/\Ltr l/\∀ u o H',zE H H'->ql H' o u->jY o->o.dp<=1->Q u H'
def WR (H:Hp) (us:List V):Prop:=∃ ss,Paired (ql H) ss us/\∀ o ∈ ss,jY o/\o.dp<=1
theorem WR.same {H H':Hp} {us:List V} (h:WR H us) (s:zE H H'):WR H' us:=by
 obtain⟨ss,a,b⟩:=h
 exact⟨ss,Paired.mapP a fun _ _ z=>z.same s,b⟩
theorem WR.step {H:Hp} {us:List V} {l:Str} {t:Addr} (h:WR H us) (hl:Ltr l) (ht:H t=none) (nm:Str) (n:Nat) (hn:n<=2):WR (upd H t (.tup (.str nm :: List.replicate n (.str l)))) (us++[.ref t]):=by
 obtain⟨ss,a,b⟩:=h
 have m:=zd ht (.tup (.str nm :: List.replicate n (.str l)))
 have r:∀ (H':Hp) (n:Nat),Paired (ql H') (List.replicate n (.ltr l)) (List.replicate n (.str l)):=fun H' n=>by
  induction n with
  | zero=>exact .nil
  | succ n ih=>exact .cons rfl ih
 refine⟨ss++[Sy.mk nm (List.replicate n (.ltr l))],yN (Paired.mapP a fun _ _ z=>z.same m) (ql.of zb (r _ n) (by rw[List.length_replicate];exact hn)),fun o ho=>?_⟩
 rcases Ae.mp ho with h | h
 ·exact b o h
 ·rw[AJ.mp h]
  refine⟨yW fun a ha=>?_,dp_mk (d:=0) fun a ha=>?_⟩
  ·rw[List.eq_of_mem_replicate ha]
   exact fun y hy=>by rw[AJ.mp hy];exact hl
  ·rw[List.eq_of_mem_replicate ha]
   exact AG _
theorem WR.at {H:Hp} {us:List V} {i:Nat} (h:WR H us) (hi:i < us.length):∃ u o,us[i]? = some u/\ql H o u/\jY o/\o.dp<=1:=by
 obtain⟨ss,a,b⟩:=h
 have l:=Ac a
 have h1:us[i]? = some us[i]:=AE hi
 have h2:ss[i]? = some ss[i]:=AE (by omega)
 exact⟨_,_,h1,Paired.at a i _ _ h2 h1,b _ (AH h2)⟩
def FstP (P:Sy->Prop) (ss:List Sy):Option Str->Prop
 | none=>∀ y ∈ ss,P y
 | some nm=>Jx P nm ss
def oV:Option Str->V
 | none=>.non
 | some x=>.str x
theorem jV {P:Sy->Prop} {ss:List Sy} {a b:Option Str} (h:FstP P ss a) (k:FstP P ss b):a=b:=by
 cases a with
 | none=>
  cases b with
  | none=>rfl
  | some y=>exact (jG k h).elim
 | some x=>
  cases b with
  | none=>exact (jG h k).elim
  | some y=>rw[ZS h k]
theorem Zr {P:Sy->Prop} {s:Sy} (p0:P s) (h:∀ z ∈ s.ps,∀ y ∈ z.sub,P y):∀ y ∈ s.sub,P y:=by
 rw[Sy.sub_ps]
 intro y hy
 rcases AZ.mp hy with rfl | hy
 ·exact p0
 ·obtain⟨z,hz,hy⟩:=List.mem_flatMap.mp hy
  exact h z hz y hy
theorem JA {P:Sy->Prop} {nm:Str} {s z:Sy} {i:Nat} (p0:P s) (h:∀ (j:Nat) (w:Sy),j < i->s.ps[j]? = some w->∀ y ∈ w.sub,P y) (hz:s.ps[i]? = some z) (hb:Jx P nm z.sub):Jx P nm s.sub:=by
 rw[Sy.sub_ps]
 have hi:=(AD.mp hz).1
 have e:s.ps=s.ps.take i++z :: s.ps.drop (i+1):=by
  rw[<- (AD.mp hz).2]
  simp
 rw[e,List.flatMap_append,List.flatMap_cons]
 refine Jz (as:=[s]) (fun y hy=>by rw[AJ.mp hy];exact p0) (Jz (fun y hy=>?_) (badP_app hb))
 obtain⟨w,hw,hy⟩:=List.mem_flatMap.mp hy
 obtain⟨j,hj⟩:=BL.mp hw
 have hj2:=(AD.mp hj).1
 rw[Al] at hj2
 rw[List.getElem?_take] at hj
 exact h j w (by omega) (by split at hj;exact hj;cases hj) y hy
def qJ:List (Key×V):=[(Sum.inr "and",.int 2),(Sum.inr "or",.int 2),(Sum.inr "then",.int 2),(Sum.inr "with",.int 2),(Sum.inr "not",.int 1),(Sum.inr "false",.int 0),(Sum.inr "true",.int 0)]
theorem yY {nm:Str} (h:nm ∈ qc):ji (qI [] qJ) (Sum.inr nm)=some (.int (qS nm:Nat)):=by
 unfold qc at h
 simp only[List.mem_cons,List.not_mem_nil,or_false] at h
 rcases h with rfl | rfl | rfl | rfl | rfl | rfl | rfl <;> decide +kernel
theorem yZ {nm:Str} (h:nm ∉ qc):ji (qI [] qJ) (Sum.inr nm)=none:=by
 unfold qc at h
 simp only[List.mem_cons,List.not_mem_nil,or_false,not_or] at h
 obtain⟨h1,h2,h3,h4,h5,h6,h7⟩:=h
 unfold qI qJ
 simp only[List.foldl_cons,List.foldl_nil,QN,Sum.inr.injEq,h1,h2,h3,h4,h5,h6,h7,if_false]
 rfl
theorem y4 {s:Sy} {n:Int} (hn:n=(s.ps.length:Nat)) (hs:s.isL=false):scal ((ji (qI [] qJ) (Sum.inr s.nm)).getD .non) (.int n)=true/\(KnC s->decide ((ji (qI [] qJ) (Sum.inr s.nm)).getD .non=.int n)=true)/\(¬ KnC s->decide ((ji (qI [] qJ) (Sum.inr s.nm)).getD .non=.int n)=false):=by
 subst hn
 by_cases h:s.nm ∈ qc
 ·rw[yY h]
  refine⟨rfl,fun k=>AS ?_,fun k=>AQ fun e=>?_⟩
  ·rcases k with k | k
   ·rw[hs] at k
    cases k
   ·rw[k.2]
    rfl
  ·refine k (.inr ⟨h,?_⟩)
   have e2:V.int (qS s.nm:Nat)=.int (s.ps.length:Nat):=e
   have:=V.int.inj e2
   omega
 ·rw[yZ h]
  refine⟨rfl,fun k=>?_,fun k=>AQ fun e=>by cases e⟩
  rcases k with k | k
  ·rw[hs] at k
   cases k
  ·exact absurd k.1 h
def wX:Nat->Sp
 | 0=>fun _ _ _ _=>False
 | j+1=>fun vs H Q _=>∃ (v:V) (s:Sy),vs=[v]/\ql H s v/\s.dp<=j/\s.dp<=5/\∀ o H',zE H H'->FstP KnC s.sub o->Q (oV o) H'
def wY (K:PySem.W.Frag):Nat->Sp
 | 0=>fun _ _ _ _=>False
 | j+1=>fun vs H Q _=>∃ (v:V) (s:Sy) (g:Addr) (ρ:Str->Rat) (M:List Str),vs=[v,.ref g]/\ql H s v/\GrX K H g ρ M/\s.dp<=j/\s.dp<=5/\∀ o H',zE H H'->FstP (KnL M) s.sub o->Q (oV o) H'
def QW (H:Hp):Bool->Option Str->Option Str->V->Prop
 | false,_,_,u=>u=.str "kind"
 | true,some nm,_,u=>∃ t,u=.ref t/\H t=some (.tup [.str "name",.str nm])
 | true,none,some x,u=>∃ t,u=.ref t/\H t=some (.tup [.str "letter",.str x])
 | true,none,none,u=>u=.str "told"
def y6 (K:PySem.W.Frag):Sp:=fun vs H Q _=>∃ (t:Th) (kv v:V) (s:Sy) (g:Addr) (ρ:Str->Rat) (M:List Str) (n l:Option Str),vs=[kv,v,.ref g]/\Z2 H t kv/\ql H s v/\jY s/\s.dp<=5/\GrX K H g ρ M/\Ls M/\FstP KnC s.sub n/\FstP (KnL M) s.sub l/\∀ u H',zE H H'->QW H' (jX t) n l u->Q u H'
theorem QW.same {H H':Hp} {b:Bool} {n l:Option Str} {u:V} (h:QW H b n l u) (s:zE H H'):QW H' b n l u:=by
 cases b with
 | false=>exact h
 | true=>
  cases n with
  | some nm=>
   obtain⟨t,e,h⟩:=h
   exact⟨t,e,s _ _ h⟩
  | none=>
   cases l with
   | some x=>
    obtain⟨t,e,h⟩:=h
    exact⟨t,e,s _ _ h⟩
   | none=>exact h
theorem y8 {K:PySem.W.Frag} {H:Hp} {b:Bool} {n l:Option Str} {u w:V} {Q:VK} (h:QW H b n l u) (k:QW H b n l w) (q:Q (.bl false) H):rNe u w H Q\/rNeT K u w H Q:=by
 have st:∀ x:Str,rNe (.str x) (.str x) H Q:=fun x=>⟨rfl,by rw[AS rfl];exact q⟩
 have tp:∀ (a c:Addr) (x y:Str),H a=some (.tup [.str x,.str y])->H c=some (.tup [.str x,.str y])->rNeT K (.ref a) (.ref c) H Q:=fun a c x y ha hc=>⟨a,c,_,_,rfl,rfl,SqT.of ha,SqT.of hc,rfl,rfl,rfl,by
  rw[show Q2 [.str x,.str y] [.str x,.str y]=true by simp[Q2,eqV]]
  exact q⟩
 cases b with
 | false=>
  obtain rfl:u=.str "kind":=h
  obtain rfl:w=.str "kind":=k
  exact .inl (st _)
 | true=>
  cases n with
  | some nm=>
   obtain⟨t,rfl,h⟩:=h
   obtain⟨t',rfl,k⟩:=k
   exact .inr (tp _ _ _ _ h k)
  | none=>
   cases l with
   | some x=>
    obtain⟨t,rfl,h⟩:=h
    obtain⟨t',rfl,k⟩:=k
    exact .inr (tp _ _ _ _ h k)
   | none=>
    obtain rfl:u=.str "told":=h
    obtain rfl:w=.str "told":=k
    exact .inl (st _)
theorem wZ {t w:TS} {D:JK} {σ:St} {H:Hp} (P:St->Hp->Prop) (h1:∀ R:St->Hp->Prop,(∀ σ' H',P σ' H'->R σ' H')->t { D with nx:=R } σ H) (h2:∀ σ' H',P σ' H'->w D σ' H'):tSeq t w D σ H:=h1 (w D) h2
theorem asgC {x:V} {i:Nat} {w:TS} {D:JK} {σ:St} {H:Hp} (h:w D (σ.set i (some x)) H):tSeq (tAsg (tC x) (Zg i)) w D σ H:=h
def hf:Rat:=mkRat 1 2
theorem hf_u:U hf:=⟨by decide +kernel,by decide +kernel⟩
theorem fr_half {K:PySem.W.Frag} {H:Hp} {p:Addr} (h:H p=some (.tup [.int 1,.int 2])):FR K H (.ref p) hf 100:=by
 have e1:hf.num=1:=by decide +kernel
 have e2:hf.den=2:=by decide +kernel
 refine⟨p,rfl,?_,?_,?_⟩
 ·rw[e1,e2]
  exact SqT.of h
 ·rw[e1]
  exact (by unfold Sz;decide)
 ·rw[e2]
  exact (by unfold Sz;decide)
theorem JB (kvs:List (Key×V)) (k j:Key):ji (Jq kvs k) j=if j=k then none else ji kvs j:=by
 unfold ji Jq
 rw[List.find?_filter]
 by_cases e:j=k
 ·rw[if_pos e,List.find?_eq_none.mpr]
  ·rfl
  ·intro x _
   simp[e]
 ·rw[if_neg e]
  congr 2
  funext x
  by_cases z:x.1=j
  ·simp[z,e]
  ·simp[z]
def Gz (K:PySem.W.Frag) (H:Hp) (g:Addr) (L:List Str) (n:Nat):Prop:=∃ kvs,H g=some (.dK kvs)/\kvs.length<=n/\(∀ x ∈ L,∃ v,ji kvs (Sum.inr x)=some v/\FR K H v hf 100)/\∀ x,x ∉ L->ji kvs (Sum.inr x)=none
theorem Gz.same {K:PySem.W.Frag} {H H':Hp} {g:Addr} {L:List Str} {n:Nat} (h:Gz K H g L n) (s:zE H H'):Gz K H' g L n:=by
 obtain⟨kvs,a,b,c,d⟩:=h
 exact⟨kvs,s _ _ a,b,(fun x hx=>by obtain⟨v,e,f⟩:=c x hx;exact⟨v,e,f.same s⟩),d⟩
theorem Gz.step {K:PySem.W.Frag} {H:Hp} {g:Addr} {L:List Str} {n:Nat} {kvs:List (Key×V)} {x:Str} {v:V} (h:Gz K H g L n) (hk:H g=some (.dK kvs)) (f:FR K H v hf 100):Gz K (upd H g (.dK (Z6 kvs (Sum.inr x) v))) g (L++[x]) (n+1):=by
 obtain⟨kvs',a,b,c,d⟩:=h
 obtain rfl:kvs=kvs':=by
  rw[hk] at a
  cases a
  rfl
 refine⟨_,zb,Ab (putK_len ..) (by omega),fun y hy=>?_,fun y hy=>?_⟩
 ·rw[QN]
  by_cases e:y=x
  ·rw[e,if_pos rfl]
   exact⟨v,rfl,wj f hk⟩
  ·rw[if_neg (fun z=>e (CQ z))]
   rcases Ae.mp hy with hy | hy
   ·obtain⟨w,k,k2⟩:=c y hy
    exact⟨w,k,wj k2 hk⟩
   ·exact absurd (AJ.mp hy) e
 ·rw[Ae,not_or] at hy
  rw[QN,if_neg (fun z=>hy.2 (by rw[CQ z];exact List.mem_singleton_self _))]
  exact d y hy.1
theorem Gz.drop {K:PySem.W.Frag} {H:Hp} {g:Addr} {L:List Str} {n:Nat} {kvs:List (Key×V)} (x:Str) (h:Gz K H g L n) (hk:H g=some (.dK kvs)):Gz K (upd H g (.dK (Jq kvs (Sum.inr x)))) g (L.filter fun y=>decide (y ≠ x)) n:=by
 obtain⟨kvs',a,b,c,d⟩:=h
 obtain rfl:kvs=kvs':=by
  rw[hk] at a
  cases a
  rfl
 refine⟨_,zb,Ab (wR ..) b,fun y hy=>?_,fun y hy=>?_⟩
 ·obtain⟨h1,h2⟩:=BK.mp hy
  obtain⟨w,k,k2⟩:=c y h1
  rw[JB,if_neg (fun z=>Am h2 (CQ z))]
  exact⟨w,k,wj k2 hk⟩
 ·rw[JB]
  by_cases e:y=x
  ·rw[e,if_pos rfl]
  ·rw[if_neg (fun z=>e (CQ z))]
   exact d y fun z=>hy (BK.mpr ⟨z,AS e⟩)
theorem Gz.grx {K:PySem.W.Frag} {H:Hp} {g:Addr} {L:List Str} {n:Nat} (h:Gz K H g L n):GrX K H g (fun _=>hf) L:=by
 obtain⟨kvs,a,b,c,d⟩:=h
 exact⟨⟨⟨kvs,a,c⟩,fun _ _=>hf_u⟩,kvs,a,d⟩
def spLaw (K:PySem.W.Frag):Sp:=fun vs H Q _=>∃ (a:Addr) (ns:List Int),vs=[.ref a]/\SqL K H a (ns.map V.int)/\ns.length<=63/\∀ H',Q (.bl true) H'
def top (i:Nat):Stmt:=PySem.Challenge.pw_truthgrades_k42_chain_grades_refused.main.body.getD i (.Pass ⟨0,0,0,0⟩)
structure Gb (mg:Str->Option Value):Prop where
 «abs» : mg "abs" = none
 «range» : mg "range" = none
 «tuple» : mg "tuple" = none
 «list» : mg "list" = none
 «isinstance» : mg "isinstance" = none
 «int» : mg "int" = none
 «bool» : mg "bool" = none
 «len» : mg "len" = none
 «str» : mg "str" = none
 «all» : mg "all" = none
 «any» : mg "any" = none
 «reversed» : mg "reversed" = none
 «max» : mg "max" = none
 «dict» : mg "dict" = none
 «ValueError» : mg "ValueError" = none
structure Cl (K:PySem.W.Frag) (mg:Str->Option Value) (c:Nat->Addr):Prop where
 g_GradeError:mg "GradeError" = some (.ref (c 0))
 g_NoFraction:mg "NoFraction" = some (.ref (c 1))
 g_NoName:mg "NoName" = some (.ref (c 2))
 g_NoKind:mg "NoKind" = some (.ref (c 3))
 g_NoLetter:mg "NoLetter" = some (.ref (c 4))
 g_KINDS:mg "KINDS" = some (.ref (c 5))
 g_SHAPES:mg "SHAPES" = some (.ref (c 6))
 g_NOUGHT:mg "NOUGHT" = some (.ref (c 7))
 g_ONE:mg "ONE" = some (.ref (c 8))
 g_NoTable:mg "NoTable" = some (.ref (c 9))
 g_NoSaying:mg "NoSaying" = some (.ref (c 10))
 g_TooMany:mg "TooMany" = some (.ref (c 11))
 g_NoCount:mg "NoCount" = some (.ref (c 12))
 g_NoRow:mg "NoRow" = some (.ref (c 13))
 g_NoKept:mg "NoKept" = some (.ref (c 14))
 x_NoFraction:PySem.W.excIn K (c 1) [.type "ValueError",.type "Exception",.type "BaseException",.type "object"] "ValueError.__new__" = true
 x_NoKind:PySem.W.excIn K (c 3) [.type "ValueError",.type "Exception",.type "BaseException",.type "object"] "ValueError.__new__" = true
 xa_NoName:exI K (c 2) bmV "ValueError.__new__" = true
 xb_NoName:PySem.W.keepIn K (.ref (c 2))=true
 xc_NoName:PySem.W.findIn K (.ref (c 2)) "__setattr__" = some (some (.builtin "object.__setattr__"))
 xd_NoName:PySem.W.findIn K (.ref (c 2)) "name" = some none
 xe_NoName:PySem.W.findIn K (.ref (c 2)) "__getattribute__" = some (some (.builtin "BaseException.__getattribute__"))
 xf_NoName:PySem.W.findIn K (.ref (c 2)) "__getattr__" = some none
 xa_NoLetter:exI K (c 4) bmV "ValueError.__new__" = true
 xb_NoLetter:PySem.W.keepIn K (.ref (c 4))=true
 xc_NoLetter:PySem.W.findIn K (.ref (c 4)) "__setattr__" = some (some (.builtin "object.__setattr__"))
 xd_NoLetter:PySem.W.findIn K (.ref (c 4)) "letter" = some none
 xe_NoLetter:PySem.W.findIn K (.ref (c 4)) "__getattribute__" = some (some (.builtin "BaseException.__getattribute__"))
 xf_NoLetter:PySem.W.findIn K (.ref (c 4)) "__getattr__" = some none
 r1:PySem.W.specialIn K (.ref (c 0)) (Str.ofString "__getattribute__")=some (some (.builtin "type.__getattribute__"))
 r2:PySem.W.readsIn K (c 0) (.type "type")=true
 r3:PySem.W.findCls K (.ref (c 0)) (.type "type") "__init__" = some (.val (.builtin "ValueError.__init__"))
 m_NoKind:PySem.W.exmOne K (.ref (c 3)) (.ref (c 0))=some true
 h_NoKind:zN K (c 3)=true
 v_NoKind:PySem.W.kitOne K (.ref (c 3)) (.type "ValueError")=some true
 k_NoKind_NoFraction:PySem.W.kitOne K (.ref (c 3)) (.ref (c 1))=some false
 k_NoKind_NoName:PySem.W.kitOne K (.ref (c 3)) (.ref (c 2))=some false
 k_NoKind_NoKind:PySem.W.kitOne K (.ref (c 3)) (.ref (c 3))=some true
 k_NoKind_NoLetter:PySem.W.kitOne K (.ref (c 3)) (.ref (c 4))=some false
 k_NoKind_NoTable:PySem.W.kitOne K (.ref (c 3)) (.ref (c 9))=some false
 k_NoKind_NoSaying:PySem.W.kitOne K (.ref (c 3)) (.ref (c 10))=some false
 k_NoKind_TooMany:PySem.W.kitOne K (.ref (c 3)) (.ref (c 11))=some false
 k_NoKind_NoCount:PySem.W.kitOne K (.ref (c 3)) (.ref (c 12))=some false
 k_NoKind_NoRow:PySem.W.kitOne K (.ref (c 3)) (.ref (c 13))=some false
 k_NoKind_NoKept:PySem.W.kitOne K (.ref (c 3)) (.ref (c 14))=some false
 m_NoName:PySem.W.exmOne K (.ref (c 2)) (.ref (c 0))=some true
 h_NoName:zN K (c 2)=true
 v_NoName:PySem.W.kitOne K (.ref (c 2)) (.type "ValueError")=some true
 k_NoName_NoFraction:PySem.W.kitOne K (.ref (c 2)) (.ref (c 1))=some false
 k_NoName_NoName:PySem.W.kitOne K (.ref (c 2)) (.ref (c 2))=some true
 k_NoName_NoKind:PySem.W.kitOne K (.ref (c 2)) (.ref (c 3))=some false
 k_NoName_NoLetter:PySem.W.kitOne K (.ref (c 2)) (.ref (c 4))=some false
 k_NoName_NoTable:PySem.W.kitOne K (.ref (c 2)) (.ref (c 9))=some false
 k_NoName_NoSaying:PySem.W.kitOne K (.ref (c 2)) (.ref (c 10))=some false
 k_NoName_TooMany:PySem.W.kitOne K (.ref (c 2)) (.ref (c 11))=some false
 k_NoName_NoCount:PySem.W.kitOne K (.ref (c 2)) (.ref (c 12))=some false
 k_NoName_NoRow:PySem.W.kitOne K (.ref (c 2)) (.ref (c 13))=some false
 k_NoName_NoKept:PySem.W.kitOne K (.ref (c 2)) (.ref (c 14))=some false
 m_NoLetter:PySem.W.exmOne K (.ref (c 4)) (.ref (c 0))=some true
 h_NoLetter:zN K (c 4)=true
 v_NoLetter:PySem.W.kitOne K (.ref (c 4)) (.type "ValueError")=some true
 k_NoLetter_NoFraction:PySem.W.kitOne K (.ref (c 4)) (.ref (c 1))=some false
 k_NoLetter_NoName:PySem.W.kitOne K (.ref (c 4)) (.ref (c 2))=some false
 k_NoLetter_NoKind:PySem.W.kitOne K (.ref (c 4)) (.ref (c 3))=some false
 k_NoLetter_NoLetter:PySem.W.kitOne K (.ref (c 4)) (.ref (c 4))=some true
 k_NoLetter_NoTable:PySem.W.kitOne K (.ref (c 4)) (.ref (c 9))=some false
 k_NoLetter_NoSaying:PySem.W.kitOne K (.ref (c 4)) (.ref (c 10))=some false
 k_NoLetter_TooMany:PySem.W.kitOne K (.ref (c 4)) (.ref (c 11))=some false
 k_NoLetter_NoCount:PySem.W.kitOne K (.ref (c 4)) (.ref (c 12))=some false
 k_NoLetter_NoRow:PySem.W.kitOne K (.ref (c 4)) (.ref (c 13))=some false
 k_NoLetter_NoKept:PySem.W.kitOne K (.ref (c 4)) (.ref (c 14))=some false
 t_KINDS:wP K (c 5) [.str "least",.str "cut",.str "times"]
 t_SHAPES:∃ a0 a1 a2 a3 a4 a5 a6:Addr,wP K (c 6) [.ref a0,.ref a1,.ref a2,.ref a3,.ref a4,.ref a5,.ref a6]/\wP K a0 [.str "and",.int 2]/\wP K a1 [.str "or",.int 2]/\wP K a2 [.str "then",.int 2]/\wP K a3 [.str "with",.int 2]/\wP K a4 [.str "not",.int 1]/\wP K a5 [.str "false",.int 0]/\wP K a6 [.str "true",.int 0]
 t_NOUGHT:wP K (c 7) [.int 0,.int 1]
 t_ONE:wP K (c 8) [.int 1,.int 1]
theorem Cl.xi_NoName {K:PySem.W.Frag} {mg:Str->Option Value} {c:Nat->Addr} (cl:Cl K mg c):ExI K (c 2) "name":=⟨cl.xa_NoName,cl.xb_NoName,cl.xc_NoName,cl.xd_NoName,cl.xe_NoName,cl.xf_NoName⟩
theorem Cl.xi_NoLetter {K:PySem.W.Frag} {mg:Str->Option Value} {c:Nat->Addr} (cl:Cl K mg c):ExI K (c 4) "letter":=⟨cl.xa_NoLetter,cl.xb_NoLetter,cl.xc_NoLetter,cl.xd_NoLetter,cl.xe_NoLetter,cl.xf_NoLetter⟩
abbrev qB:Stmt:=clsAt (top 5) 0
theorem Z7:zu ["self", "name"] ["self", "name"] (zi qB):=⟨rfl,rfl,rfl,by decide +kernel,rfl,by decide +kernel,by decide +kernel⟩
theorem Z8 {P:Program} {w:World} {K:PySem.W.Frag} {mg:Str->Option Value} {base:Heap} {f:Addr} {fd:FuncData} (F:Fun K "__init__" "NoName.__init__" qB f fd) (gb:Gb mg) {c:Nat->Addr} (cl:Cl K mg c):qA P w K mg base CX0 2 f fd ["self", "name"] (Jk (c 2) "name"):=by
 refine F.ok Z7 (fun vs H Q E h=>?_) (fun cdv A outer s H vs Q E hr h=>?_)
 ·obtain⟨e,y,rfl,_⟩:=h
  rfl
 obtain⟨e,y,rfl,he,q⟩:=h
 refine⟨_,(@ze _ _ _ _ _ (@qr _ _ _ _ (@wN _ _ _ _ _ _ _ _ _ _ rfl cl.g_GradeError cl.r1 cl.r2 cl.r3 (@za _ _ _ _ _ (@pw _ 0 _ _ rfl rfl) (@za _ _ _ _ _ (@zm _ _ _ _) (@zc _) rfl) rfl) (by decide) rfl rfl rfl) rfl) (@zg _ _ _ (@ps_xd _ _ _ _ _ _ _ _ rfl (@pw _ 0 _ _ rfl rfl) (@pw _ 1 _ _ rfl rfl) rfl))),?_⟩
 exact⟨_,rfl,e,(c 2), "name",_,rfl,he,cl.xi_NoName,_,rfl,_,rfl,e,(c 2),rfl,he,cl.xi_NoName,fun d hd ne=>q d hd ne⟩
abbrev qi:Stmt:=clsAt (top 6) 0
theorem Zh:zu ["self", "letter"] ["self", "letter"] (zi qi):=⟨rfl,rfl,rfl,by decide +kernel,rfl,by decide +kernel,by decide +kernel⟩
theorem Zi {P:Program} {w:World} {K:PySem.W.Frag} {mg:Str->Option Value} {base:Heap} {f:Addr} {fd:FuncData} (F:Fun K "__init__" "NoLetter.__init__" qi f fd) (gb:Gb mg) {c:Nat->Addr} (cl:Cl K mg c):qA P w K mg base CX0 2 f fd ["self", "letter"] (Jk (c 4) "letter"):=by
 refine F.ok Zh (fun vs H Q E h=>?_) (fun cdv A outer s H vs Q E hr h=>?_)
 ·obtain⟨e,y,rfl,_⟩:=h
  rfl
 obtain⟨e,y,rfl,he,q⟩:=h
 refine⟨_,(@ze _ _ _ _ _ (@qr _ _ _ _ (@wN _ _ _ _ _ _ _ _ _ _ rfl cl.g_GradeError cl.r1 cl.r2 cl.r3 (@za _ _ _ _ _ (@pw _ 0 _ _ rfl rfl) (@za _ _ _ _ _ (@zm _ _ _ _) (@zc _) rfl) rfl) (by decide) rfl rfl rfl) rfl) (@zg _ _ _ (@ps_xd _ _ _ _ _ _ _ _ rfl (@pw _ 0 _ _ rfl rfl) (@pw _ 1 _ _ rfl rfl) rfl))),?_⟩
 exact⟨_,rfl,e,(c 4), "letter",_,rfl,he,cl.xi_NoLetter,_,rfl,_,rfl,e,(c 4),rfl,he,cl.xi_NoLetter,fun d hd ne=>q d hd ne⟩
abbrev jZ:Stmt:=top 13
theorem wn:zu ["thing"] ["thing"] (zi jZ):=⟨rfl,rfl,rfl,by decide +kernel,rfl,by decide +kernel,by decide +kernel⟩
theorem wo {P:Program} {w:World} {K:PySem.W.Frag} {mg:Str->Option Value} {base:Heap} {f:Addr} {fd:FuncData} (F:Fun K "is_whole" "is_whole" jZ f fd) (gb:Gb mg) {c:Nat->Addr} (cl:Cl K mg c):qA P w K mg base CX0 1 f fd ["thing"] QR:=by
 refine F.ok wn (fun vs H Q E h=>?_) (fun cdv A outer s H vs Q E hr h=>?_)
 ·obtain⟨t,v,rfl,_⟩:=h
  rfl
 obtain⟨t,v,rfl,h,q⟩:=h
 refine⟨_,(@zg _ _ _ (@zr _ _ _ _ (@WG _ _ _ _ _ _ _ (@zo _ _ _ _ _ _ _ _ _ (@zZ _ K rfl) rfl gb.isinstance zn (@za _ _ _ _ _ (@pw _ 0 _ _ rfl rfl) (@za _ _ _ _ _ (@qX _ _ (.ty "int") _ _ rfl gb.int bt_int rfl (by decide) (by decide)) (@zc _) rfl) rfl) (by decide) (by decide) rfl rfl) (@pe_one _ _ _ _ _ (@pe_not _ _ _ _ (@zo _ _ _ _ _ _ _ _ _ (@zZ _ K rfl) rfl gb.isinstance zn (@za _ _ _ _ _ (@pw _ 0 _ _ rfl rfl) (@za _ _ _ _ _ (@qX _ _ (.ty "bool") _ _ rfl gb.bool bt_bool rfl (by decide) (by decide)) (@zc _) rfl) rfl) (by decide) (by decide) rfl rfl)))))),?_⟩
 refine⟨_,rfl,_,_,_,isIntB t,rfl,h.ty,kit_int t,_,rfl,?_⟩
 cases t with
 | int i=>exact jN ⟨_,rfl,_,_,_,false,rfl,h.ty,wO (.int i),_,rfl,q⟩
 | bl b=>exact jN ⟨_,rfl,_,_,_,true,rfl,h.ty,wO (.bl b),_,rfl,q⟩
 | _=>exact ZC q
abbrev jd:Stmt:=top 18
theorem zP:zu ["one", "other", "larger", "smaller", "rest"] ["one", "other"] (zi jd):=⟨rfl,rfl,rfl,by decide +kernel,rfl,by decide +kernel,by decide +kernel⟩
theorem Z9 {P:Program} {w:World} {K:PySem.W.Frag} {mg:Str->Option Value} {base:Heap} {f:Addr} {fd:FuncData} (F:Fun K "shared_part" "shared_part" jd f fd) (gb:Gb mg) {c:Nat->Addr} (cl:Cl K mg c):qA P w K mg base CX0 1 f fd ["one", "other"] QG:=by
 refine F.ok zP (fun vs H Q E h=>?_) (fun cdv A outer s H vs Q E hr h=>?_)
 ·obtain⟨a,b,rfl,_⟩:=h
  rfl
 obtain⟨a,b,rfl,q⟩:=h
 refine⟨_,(@ze _ _ _ _ _ (@zx _ _ 2 _ _ _ _ zP.nd rfl (Or.inl rfl) (@zo _ _ _ _ _ _ _ _ _ (@wC _) rfl gb.abs bt_abs (@za _ _ _ _ _ (@pw _ 0 _ _ rfl rfl) (@zc _) rfl) (by decide) (by decide) rfl rfl) rfl (by walk_at "f")) (@ze _ _ _ _ _ (@zx _ _ 3 _ _ _ _ zP.nd rfl (Or.inl rfl) (@zo _ _ _ _ _ _ _ _ _ (@wC _) rfl gb.abs bt_abs (@za _ _ _ _ _ (@pw _ 1 _ _ rfl rfl) (@zc _) rfl) (by decide) (by decide) rfl rfl) rfl (by walk_at "f")) (@ze _ _ _ _ _ (@wy _ _ _ _ _ _ A0 (@zv _ _ _ _ _ _ _ _ (@op_gt _) (@pw _ 3 _ _ rfl rfl) (@zf _ _ _ _) (@zG _ _ (by decide) (by decide))) (@ze _ _ _ _ _ (@zx _ _ 4 _ _ _ _ zP.nd rfl (Or.inl rfl) (@zA _ _ _ _ _ _ _ _ (@qV _) (@pw _ 2 _ _ rfl rfl) (@pw _ 3 _ _ rfl rfl)) rfl (by walk_at "f")) (@ze _ _ _ _ _ (@zx _ _ 2 _ _ _ _ zP.nd rfl (Or.inl rfl) (@pw _ 3 _ _ rfl rfl) rfl (by walk_at "f")) (@zg _ _ _ (@zx _ _ 3 _ _ _ _ zP.nd rfl (Or.inl rfl) (@pw _ 4 _ _ rfl rfl) rfl (by walk_at "f")))))) (@zg _ _ _ (@zr _ _ _ _ (@pw _ 2 _ _ rfl rfl)))))),?_⟩
 refine⟨_,rfl,a,rfl,_,rfl,b,rfl,?_⟩
 refine while_by (fun σ H'=>H'=H/\∃ (l s:Int) (x4:Option V),σ=[some (.int a),some (.int b),some (.int l),some (.int s),x4]/\0<=l/\0<=s/\Int.gcd l s=Int.gcd a b)
  (fun σ _=>match σ with | [_,_,_,some (.int s),_]=>s.toNat | _=>0) ⟨rfl,_,_,none,rfl,by split <;> omega,by split <;> omega,?_⟩ ?_ (fun _ _ _ _ k ⟨v,e,i,j,a,b,c,d,q⟩=>⟨v,e,i,j,a,b,c,d,k _ _ q⟩)
 ·unfold Int.gcd
  congr 1 <;> (split <;> omega)
 ·rintro σ H' ⟨rfl,l,s,x4,rfl,l0,s0,hg⟩
  refine⟨_,rfl,_,_,rfl,rfl,_,rfl,?_⟩
  refine W0 (fun c=>?_) (fun c=>?_)
  ·have sp:0 < s:=Am c
   refine⟨_,rfl,_,rfl,_,_,rfl,rfl,sp,_,rfl,_,rfl,⟨rfl,_,_,_,rfl,s0,BF _ (by omega),?_⟩,?_⟩
   ·rw[<- hg]
    exact Fr.gcd_step' l s sp
   ·show (l % s).toNat < s.toNat
    have h1:=Bw l sp
    have h2:=BF l (show s ≠ 0 by omega)
    omega
  ·have sz:s=0:=by
    have:¬ (0 < s):=fun z=>c (AS z)
    omega
   refine⟨_,rfl,?_⟩
   have el:l=(Int.gcd a b:Int):=by
    rw[<- hg,sz]
    simp
    omega
   rw[el]
   exact q
abbrev j4:Stmt:=top 17
theorem ZU:zu ["top", "bottom", "shared"] ["top", "bottom"] (zi j4):=⟨rfl,rfl,rfl,by decide +kernel,rfl,by decide +kernel,by decide +kernel⟩
theorem wq {P:Program} {w:World} {K:PySem.W.Frag} {mg:Str->Option Value} {base:Heap} {f:Addr} {fd:FuncData} (F:Fun K "fraction" "fraction" j4 f fd) (gb:Gb mg) {c:Nat->Addr} (cl:Cl K mg c) (d_is_whole:Def P w K mg base 1 "is_whole" ["thing"] QR) (d_shared_part:Def P w K mg base 1 "shared_part" ["one", "other"] QG):qA P w K mg base (CXD P w) 2 f fd ["top", "bottom"] (Qm (c 1)):=by
 refine F.okD ZU (fun vs H Q E h=>?_) (fun cdv A outer s H vs Q E hr h=>?_)
 ·obtain⟨t,b,rfl,_⟩:=h
  rfl
 obtain⟨t,b,rfl,mb,q0,q1⟩:=h
 refine⟨_,(@ze _ _ _ _ _ (@zO _ _ _ _ _ _ _ _ (@PW.pt _ _ _ (@pw_or _ _ _ _ _ _ _ (@Zv _ _ _ _ (@qk _ _ _ (@zw _ _ _ _ _ _ _ _ _ _ _ d_is_whole hr (by omega) rfl (@za _ _ _ _ _ (@pw _ 0 _ _ rfl rfl) (@zc _) rfl) (by decide) rfl rfl) (by intro _;rfl))) (@ww _ _ _ _ (@Zv _ _ _ _ (@qk _ _ _ (@zw _ _ _ _ _ _ _ _ _ _ _ d_is_whole hr (by omega) rfl (@za _ _ _ _ _ (@pw _ 1 _ _ rfl rfl) (@zc _) rfl) (by decide) rfl rfl) (by intro _;rfl)))))) (@zg _ _ _ (@ZI _ _ _ _ _ _ _ _ _ _ _ _ _ _ _ _ _ _ rfl cl.g_NoFraction cl.x_NoFraction Af rfl Af rfl rfl (@ZH _ _ _ _ _ _ _ _ _ _ _ _ _ _ _) (@za _ _ _ _ _ (@zm _ _ _ _) (@zc _) rfl) (by decide) rfl rfl)) (@zq _)) (@ze _ _ _ _ _ (@zO _ _ _ _ _ _ _ _ (@zv _ _ _ _ _ _ _ _ (@jm _) (@pw _ 1 _ _ rfl rfl) (@zf _ _ _ _) (@zG _ _ (by decide) (by decide))) (@zg _ _ _ (@ZI _ _ _ _ _ _ _ _ _ _ _ _ _ _ _ _ _ _ rfl cl.g_NoFraction cl.x_NoFraction Af rfl Af rfl rfl (@ZH _ _ _ _ _ _ _ _ _ _ _ _ _ _ _) (@za _ _ _ _ _ (@zm _ _ _ _) (@zc _) rfl) (by decide) rfl rfl)) (@zq _)) (@ze _ _ _ _ _ (@zx _ _ 2 _ _ _ _ ZU.nd rfl (Or.inl rfl) (@Qs _ _ _ _ _ _ _ _ (@zv _ _ _ _ _ _ _ _ (@op_gt _) (@pw _ 1 _ _ rfl rfl) (@zf _ _ _ _) (@zG _ _ (by decide) (by decide))) (@zw _ _ _ _ _ _ _ _ _ _ _ d_shared_part hr (by omega) rfl (@za _ _ _ _ _ (@pw _ 0 _ _ rfl rfl) (@za _ _ _ _ _ (@pw _ 1 _ _ rfl rfl) (@zc _) rfl) rfl) (by decide) rfl rfl) (@pe_un _ _ _ _ _ _ (@un_neg _) (@zw _ _ _ _ _ _ _ _ _ _ _ d_shared_part hr (by omega) rfl (@za _ _ _ _ _ (@pw _ 0 _ _ rfl rfl) (@za _ _ _ _ _ (@pw _ 1 _ _ rfl rfl) (@zc _) rfl) rfl) (by decide) rfl rfl))) rfl (by walk_at "f")) (@zg _ _ _ (@zr _ _ _ _ (@zB _ _ _ _ _ (@za _ _ _ _ _ (@zA _ _ _ _ _ _ _ _ (@wI _) (@pw _ 0 _ _ rfl rfl) (@pw _ 2 _ _ rfl rfl)) (@za _ _ _ _ _ (@zA _ _ _ _ _ _ _ _ (@wI _) (@pw _ 1 _ _ rfl rfl) (@pw _ 2 _ _ rfl rfl)) (@zc _) rfl) rfl))))))),?_⟩
 refine⟨_,rfl,.int t,_,rfl,.int t,true,rfl,?_⟩
 refine⟨_,rfl,.int b,_,rfl,.int b,true,rfl,?_⟩
 refine⟨_,rfl,rfl,_,rfl,?_⟩
 refine W0 (fun c0=>?_) (fun c0=>?_)
 ·have e:V.int b=V.int 0:=Am c0
  cases e
  exact⟨zh (by show 1<=1000;decide),q0 rfl⟩
 ·have nb:b ≠ 0:=fun z=>c0 (AS (by rw[z]))
  obtain⟨f1,f2,f3,f4,f5,f6,f7⟩:=Fr.frac (t:=t) nb
  have mg:Mid (Fr.sg t b):=Bu f5 mb
  have fin:∀ g:Int,g=Fr.sg t b->tRet (tTup (tCons (tOp (rI (fun _ j=>j ≠ 0/\Mid j) fun i j=>.int (i.fdiv j)) (tVar 0) (tVar 2)) (tCons (tOp (rI (fun _ j=>j ≠ 0/\Mid j) fun i j=>.int (i.fdiv j)) (tVar 1) (tVar 2)) tNil))) { nx:=fun _ H'=>Q .non H',rt:=Q } [some (.int t),some (.int b),some (.int g)] H:=fun g eg=>by
   subst eg
   exact⟨_,rfl,_,rfl,_,_,rfl,rfl,⟨f1,mg⟩,_,rfl,_,rfl,_,_,rfl,rfl,⟨f1,mg⟩,zh (by show 2<=1000;decide),fun p hp=>q1 nb p hp⟩
  refine⟨_,rfl,_,_,rfl,rfl,_,rfl,?_⟩
  refine W0 (fun c=>?_) (fun c=>?_)
  ·have bp:0 < b:=Am c
   refine⟨_,rfl,_,rfl,t,b,rfl,fin _ ?_⟩
   unfold Fr.sg
   rw[if_pos bp]
  ·have bp:¬ 0 < b:=fun z=>c (AS z)
   refine⟨_,rfl,_,rfl,t,b,rfl,_,rfl,fin _ ?_⟩
   unfold Fr.sg
   rw[if_neg bp]
abbrev y9:Stmt:=top 19
theorem sc_plus:zu ["a", "b"] ["a", "b"] (zi y9):=⟨rfl,rfl,rfl,by decide +kernel,rfl,by decide +kernel,by decide +kernel⟩
theorem ok_plus {P:Program} {w:World} {K:PySem.W.Frag} {mg:Str->Option Value} {base:Heap} {f:Addr} {fd:FuncData} (F:Fun K "plus" "plus" y9 f fd) (gb:Gb mg) {c:Nat->Addr} (cl:Cl K mg c) (d_fraction:Jj P w K mg base 2 "fraction" ["top", "bottom"] (Qm (c 1))):qA P w K mg base CX0 3 f fd ["a", "b"] (spR K (fun r s=>r+s)):=by
 refine F.ok sc_plus (fun vs H Q E h=>?_) (fun cdv A outer s H vs Q E hr h=>?_)
 ·obtain⟨a,b,r,s,n,m,rfl,_⟩:=h
  rfl
 obtain⟨_,_,r,s,n,m,rfl,⟨pa,rfl,ha,sx,sy⟩,⟨pb,rfl,hb,su,sv⟩,hn,q⟩:=h
 refine⟨_,(@zg _ _ _ (@zr _ _ _ _ (@QC _ _ _ _ _ _ _ _ _ _ _ d_fraction hr (by omega) rfl (@za _ _ _ _ _ (@zA _ _ _ _ _ _ _ _ (@jO _) (@zA _ _ _ _ _ _ _ _ (@qu _) (@zy _ _ _ _ _ _ _ (@zj _ K rfl) (@pw _ 0 _ _ rfl rfl) (@zf _ _ _ _) (fun _ _=>rfl)) (@zy _ _ _ _ _ _ _ (@zj _ K rfl) (@pw _ 1 _ _ rfl rfl) (@zf _ _ _ _) (fun _ _=>rfl))) (@zA _ _ _ _ _ _ _ _ (@qu _) (@zy _ _ _ _ _ _ _ (@zj _ K rfl) (@pw _ 1 _ _ rfl rfl) (@zf _ _ _ _) (fun _ _=>rfl)) (@zy _ _ _ _ _ _ _ (@zj _ K rfl) (@pw _ 0 _ _ rfl rfl) (@zf _ _ _ _) (fun _ _=>rfl)))) (@za _ _ _ _ _ (@zA _ _ _ _ _ _ _ _ (@qu _) (@zy _ _ _ _ _ _ _ (@zj _ K rfl) (@pw _ 0 _ _ rfl rfl) (@zf _ _ _ _) (fun _ _=>rfl)) (@zy _ _ _ _ _ _ _ (@zj _ K rfl) (@pw _ 1 _ _ rfl rfl) (@zf _ _ _ _) (fun _ _=>rfl))) (@zc _) rfl) rfl) (by decide) rfl rfl))),?_⟩
 refine⟨_,rfl,.inr (.inl ⟨pa,_,0,_,rfl,rfl,ha,rfl,_,rfl,.inr (.inl ⟨pb,_,1,_,rfl,rfl,hb,rfl,_,_,rfl,rfl,⟨(sx.mid (by omega)),(sv.mid (by omega))⟩,_,rfl,.inr (.inl ⟨pb,_,0,_,rfl,rfl,hb,rfl,_,rfl,.inr (.inl ⟨pa,_,1,_,rfl,rfl,ha,rfl,_,_,rfl,rfl,⟨(su.mid (by omega)),(sy.mid (by omega))⟩,_,_,rfl,rfl,_,rfl,.inr (.inl ⟨pa,_,1,_,rfl,rfl,ha,rfl,_,rfl,.inr (.inl ⟨pb,_,1,_,rfl,rfl,hb,rfl,_,_,rfl,rfl,⟨(sy.mid (by omega)),(sv.mid (by omega))⟩,_,_,rfl,(sy.mul sv).mid (by omega),fun z=>absurd z (Ql (Fr.denp r) (Fr.denp s)),fun _=>ansR q (Fr.ratadd r s) (Ql (Fr.denp r) (Fr.denp s)) (((sx.mul sv).mono (show n+m<=n+m by omega)).add ((su.mul sy).mono (show m+n<=n+m by omega))) ((sy.mul sv).mono (by omega))⟩)⟩)⟩)⟩)⟩)⟩)⟩
abbrev wr:Stmt:=top 20
theorem sc_minus:zu ["a", "b"] ["a", "b"] (zi wr):=⟨rfl,rfl,rfl,by decide +kernel,rfl,by decide +kernel,by decide +kernel⟩
theorem ok_minus {P:Program} {w:World} {K:PySem.W.Frag} {mg:Str->Option Value} {base:Heap} {f:Addr} {fd:FuncData} (F:Fun K "minus" "minus" wr f fd) (gb:Gb mg) {c:Nat->Addr} (cl:Cl K mg c) (d_fraction:Jj P w K mg base 2 "fraction" ["top", "bottom"] (Qm (c 1))):qA P w K mg base CX0 3 f fd ["a", "b"] (spR K (fun r s=>r - s)):=by
 refine F.ok sc_minus (fun vs H Q E h=>?_) (fun cdv A outer s H vs Q E hr h=>?_)
 ·obtain⟨a,b,r,s,n,m,rfl,_⟩:=h
  rfl
 obtain⟨_,_,r,s,n,m,rfl,⟨pa,rfl,ha,sx,sy⟩,⟨pb,rfl,hb,su,sv⟩,hn,q⟩:=h
 refine⟨_,(@zg _ _ _ (@zr _ _ _ _ (@QC _ _ _ _ _ _ _ _ _ _ _ d_fraction hr (by omega) rfl (@za _ _ _ _ _ (@zA _ _ _ _ _ _ _ _ (@wA _) (@zA _ _ _ _ _ _ _ _ (@qu _) (@zy _ _ _ _ _ _ _ (@zj _ K rfl) (@pw _ 0 _ _ rfl rfl) (@zf _ _ _ _) (fun _ _=>rfl)) (@zy _ _ _ _ _ _ _ (@zj _ K rfl) (@pw _ 1 _ _ rfl rfl) (@zf _ _ _ _) (fun _ _=>rfl))) (@zA _ _ _ _ _ _ _ _ (@qu _) (@zy _ _ _ _ _ _ _ (@zj _ K rfl) (@pw _ 1 _ _ rfl rfl) (@zf _ _ _ _) (fun _ _=>rfl)) (@zy _ _ _ _ _ _ _ (@zj _ K rfl) (@pw _ 0 _ _ rfl rfl) (@zf _ _ _ _) (fun _ _=>rfl)))) (@za _ _ _ _ _ (@zA _ _ _ _ _ _ _ _ (@qu _) (@zy _ _ _ _ _ _ _ (@zj _ K rfl) (@pw _ 0 _ _ rfl rfl) (@zf _ _ _ _) (fun _ _=>rfl)) (@zy _ _ _ _ _ _ _ (@zj _ K rfl) (@pw _ 1 _ _ rfl rfl) (@zf _ _ _ _) (fun _ _=>rfl))) (@zc _) rfl) rfl) (by decide) rfl rfl))),?_⟩
 refine⟨_,rfl,.inr (.inl ⟨pa,_,0,_,rfl,rfl,ha,rfl,_,rfl,.inr (.inl ⟨pb,_,1,_,rfl,rfl,hb,rfl,_,_,rfl,rfl,⟨(sx.mid (by omega)),(sv.mid (by omega))⟩,_,rfl,.inr (.inl ⟨pb,_,0,_,rfl,rfl,hb,rfl,_,rfl,.inr (.inl ⟨pa,_,1,_,rfl,rfl,ha,rfl,_,_,rfl,rfl,⟨(su.mid (by omega)),(sy.mid (by omega))⟩,_,_,rfl,rfl,_,rfl,.inr (.inl ⟨pa,_,1,_,rfl,rfl,ha,rfl,_,rfl,.inr (.inl ⟨pb,_,1,_,rfl,rfl,hb,rfl,_,_,rfl,rfl,⟨(sy.mid (by omega)),(sv.mid (by omega))⟩,_,_,rfl,(sy.mul sv).mid (by omega),fun z=>absurd z (Ql (Fr.denp r) (Fr.denp s)),fun _=>ansR q (Fr.ratsub r s) (Ql (Fr.denp r) (Fr.denp s)) (((sx.mul sv).mono (show n+m<=n+m by omega)).sub ((su.mul sy).mono (show m+n<=n+m by omega))) ((sy.mul sv).mono (by omega))⟩)⟩)⟩)⟩)⟩)⟩)⟩
abbrev wt:Stmt:=top 21
theorem sc_times:zu ["a", "b"] ["a", "b"] (zi wt):=⟨rfl,rfl,rfl,by decide +kernel,rfl,by decide +kernel,by decide +kernel⟩
theorem ok_times {P:Program} {w:World} {K:PySem.W.Frag} {mg:Str->Option Value} {base:Heap} {f:Addr} {fd:FuncData} (F:Fun K "times" "times" wt f fd) (gb:Gb mg) {c:Nat->Addr} (cl:Cl K mg c) (d_fraction:Jj P w K mg base 2 "fraction" ["top", "bottom"] (Qm (c 1))):qA P w K mg base CX0 3 f fd ["a", "b"] (spR K (fun r s=>r * s)):=by
 refine F.ok sc_times (fun vs H Q E h=>?_) (fun cdv A outer s H vs Q E hr h=>?_)
 ·obtain⟨a,b,r,s,n,m,rfl,_⟩:=h
  rfl
 obtain⟨_,_,r,s,n,m,rfl,⟨pa,rfl,ha,sx,sy⟩,⟨pb,rfl,hb,su,sv⟩,hn,q⟩:=h
 refine⟨_,(@zg _ _ _ (@zr _ _ _ _ (@QC _ _ _ _ _ _ _ _ _ _ _ d_fraction hr (by omega) rfl (@za _ _ _ _ _ (@zA _ _ _ _ _ _ _ _ (@qu _) (@zy _ _ _ _ _ _ _ (@zj _ K rfl) (@pw _ 0 _ _ rfl rfl) (@zf _ _ _ _) (fun _ _=>rfl)) (@zy _ _ _ _ _ _ _ (@zj _ K rfl) (@pw _ 1 _ _ rfl rfl) (@zf _ _ _ _) (fun _ _=>rfl))) (@za _ _ _ _ _ (@zA _ _ _ _ _ _ _ _ (@qu _) (@zy _ _ _ _ _ _ _ (@zj _ K rfl) (@pw _ 0 _ _ rfl rfl) (@zf _ _ _ _) (fun _ _=>rfl)) (@zy _ _ _ _ _ _ _ (@zj _ K rfl) (@pw _ 1 _ _ rfl rfl) (@zf _ _ _ _) (fun _ _=>rfl))) (@zc _) rfl) rfl) (by decide) rfl rfl))),?_⟩
 refine⟨_,rfl,.inr (.inl ⟨pa,_,0,_,rfl,rfl,ha,rfl,_,rfl,.inr (.inl ⟨pb,_,0,_,rfl,rfl,hb,rfl,_,_,rfl,rfl,⟨(sx.mid (by omega)),(su.mid (by omega))⟩,_,rfl,.inr (.inl ⟨pa,_,1,_,rfl,rfl,ha,rfl,_,rfl,.inr (.inl ⟨pb,_,1,_,rfl,rfl,hb,rfl,_,_,rfl,rfl,⟨(sy.mid (by omega)),(sv.mid (by omega))⟩,_,_,rfl,(sy.mul sv).mid (by omega),fun z=>absurd z (Ql (Fr.denp r) (Fr.denp s)),fun _=>ansR q (Fr.ratmul r s) (Ql (Fr.denp r) (Fr.denp s)) ((sx.mul su).mono (by omega)) ((sy.mul sv).mono (by omega))⟩)⟩)⟩)⟩)⟩
abbrev Ya:Stmt:=top 22
theorem sc_over:zu ["a", "b"] ["a", "b"] (zi Ya):=⟨rfl,rfl,rfl,by decide +kernel,rfl,by decide +kernel,by decide +kernel⟩
theorem ok_over {P:Program} {w:World} {K:PySem.W.Frag} {mg:Str->Option Value} {base:Heap} {f:Addr} {fd:FuncData} (F:Fun K "over" "over" Ya f fd) (gb:Gb mg) {c:Nat->Addr} (cl:Cl K mg c) (d_fraction:Jj P w K mg base 2 "fraction" ["top", "bottom"] (Qm (c 1))):qA P w K mg base CX0 3 f fd ["a", "b"] (J4 K):=by
 refine F.ok sc_over (fun vs H Q E h=>?_) (fun cdv A outer s H vs Q E hr h=>?_)
 ·obtain⟨a,b,r,s,n,m,rfl,_⟩:=h
  rfl
 obtain⟨_,_,r,s,n,m,rfl,⟨pa,rfl,ha,sx,sy⟩,⟨pb,rfl,hb,su,sv⟩,hn,s0,q⟩:=h
 refine⟨_,(@zg _ _ _ (@zr _ _ _ _ (@QC _ _ _ _ _ _ _ _ _ _ _ d_fraction hr (by omega) rfl (@za _ _ _ _ _ (@zA _ _ _ _ _ _ _ _ (@qu _) (@zy _ _ _ _ _ _ _ (@zj _ K rfl) (@pw _ 0 _ _ rfl rfl) (@zf _ _ _ _) (fun _ _=>rfl)) (@zy _ _ _ _ _ _ _ (@zj _ K rfl) (@pw _ 1 _ _ rfl rfl) (@zf _ _ _ _) (fun _ _=>rfl))) (@za _ _ _ _ _ (@zA _ _ _ _ _ _ _ _ (@qu _) (@zy _ _ _ _ _ _ _ (@zj _ K rfl) (@pw _ 0 _ _ rfl rfl) (@zf _ _ _ _) (fun _ _=>rfl)) (@zy _ _ _ _ _ _ _ (@zj _ K rfl) (@pw _ 1 _ _ rfl rfl) (@zf _ _ _ _) (fun _ _=>rfl))) (@zc _) rfl) rfl) (by decide) rfl rfl))),?_⟩
 have nb:(r.den:Int) * s.num ≠ 0:=fun z=>by
  rcases Int.mul_eq_zero.mp z with z | z
  ·exact Fr.den0 r z
  ·exact s0 (Rat.num_eq_zero.mp z)
 refine⟨_,rfl,.inr (.inl ⟨pa,_,0,_,rfl,rfl,ha,rfl,_,rfl,.inr (.inl ⟨pb,_,1,_,rfl,rfl,hb,rfl,_,_,rfl,rfl,⟨(sx.mid (by omega)),(sv.mid (by omega))⟩,_,rfl,.inr (.inl ⟨pa,_,1,_,rfl,rfl,ha,rfl,_,rfl,.inr (.inl ⟨pb,_,0,_,rfl,rfl,hb,rfl,_,_,rfl,rfl,⟨(sy.mid (by omega)),(su.mid (by omega))⟩,_,_,rfl,(sy.mul su).mid (by omega),fun z=>absurd z nb,fun _=>ansR q (Fr.ratdiv r s) nb ((sx.mul sv).mono (by omega)) ((sy.mul su).mono (by omega))⟩)⟩)⟩)⟩)⟩
abbrev wu:Stmt:=top 23
theorem sc_below:zu ["a", "b"] ["a", "b"] (zi wu):=⟨rfl,rfl,rfl,by decide +kernel,rfl,by decide +kernel,by decide +kernel⟩
theorem ok_below {P:Program} {w:World} {K:PySem.W.Frag} {mg:Str->Option Value} {base:Heap} {f:Addr} {fd:FuncData} (F:Fun K "below" "below" wu f fd) (gb:Gb mg) {c:Nat->Addr} (cl:Cl K mg c):qA P w K mg base CX0 1 f fd ["a", "b"] (ZN K):=by
 refine F.ok sc_below (fun vs H Q E h=>?_) (fun cdv A outer s H vs Q E hr h=>?_)
 ·obtain⟨a,b,r,s,n,m,rfl,_⟩:=h
  rfl
 obtain⟨_,_,r,s,n,m,rfl,⟨pa,rfl,ha,sx,sy⟩,⟨pb,rfl,hb,su,sv⟩,hn,q⟩:=h
 refine⟨_,(@zg _ _ _ (@zr _ _ _ _ (@JP _ _ _ _ _ _ _ _ (@op_lt _) (@zA _ _ _ _ _ _ _ _ (@qu _) (@zy _ _ _ _ _ _ _ (@zj _ K rfl) (@pw _ 0 _ _ rfl rfl) (@zf _ _ _ _) (fun _ _=>rfl)) (@zy _ _ _ _ _ _ _ (@zj _ K rfl) (@pw _ 1 _ _ rfl rfl) (@zf _ _ _ _) (fun _ _=>rfl))) (@zA _ _ _ _ _ _ _ _ (@qu _) (@zy _ _ _ _ _ _ _ (@zj _ K rfl) (@pw _ 1 _ _ rfl rfl) (@zf _ _ _ _) (fun _ _=>rfl)) (@zy _ _ _ _ _ _ _ (@zj _ K rfl) (@pw _ 0 _ _ rfl rfl) (@zf _ _ _ _) (fun _ _=>rfl))) (@zG _ _ (by decide) (by decide))))),?_⟩
 refine⟨_,rfl,.inr (.inl ⟨pa,_,0,_,rfl,rfl,ha,rfl,_,rfl,.inr (.inl ⟨pb,_,1,_,rfl,rfl,hb,rfl,_,_,rfl,rfl,⟨(sx.mid (by omega)),(sv.mid (by omega))⟩,_,rfl,.inr (.inl ⟨pb,_,0,_,rfl,rfl,hb,rfl,_,rfl,.inr (.inl ⟨pa,_,1,_,rfl,rfl,ha,rfl,_,_,rfl,rfl,⟨(su.mid (by omega)),(sy.mid (by omega))⟩,_,_,rfl,rfl,?_⟩)⟩)⟩)⟩)⟩
 have e:decide (r.num * s.den < s.num * r.den)=decide (r < s):=decide_eq_decide.mpr (Fr.ratlt r s)
 dsimp only
 rw[e]
 exact q
abbrev QX:Stmt:=top 40
theorem Yb:zu ["a", "b"] ["a", "b"] (zi QX):=⟨rfl,rfl,rfl,by decide +kernel,rfl,by decide +kernel,by decide +kernel⟩
theorem Yc {P:Program} {w:World} {K:PySem.W.Frag} {mg:Str->Option Value} {base:Heap} {f:Addr} {fd:FuncData} (F:Fun K "lesser" "lesser" QX f fd) (gb:Gb mg) {c:Nat->Addr} (cl:Cl K mg c) (d_below:Def P w K mg base 1 "below" ["a", "b"] (ZN K)):qA P w K mg base CX0 2 f fd ["a", "b"] (spLG K QI):=by
 refine F.ok Yb (fun vs H Q E h=>?_) (fun cdv A outer s H vs Q E hr h=>?_)
 ·obtain⟨a,b,r,s,n,m,rfl,_⟩:=h
  rfl
 obtain⟨va,vb,r,s,n,m,rfl,fa,fb,hn,q⟩:=h
 refine⟨_,(@zg _ _ _ (@zr _ _ _ _ (@Qs _ _ _ _ _ _ _ _ (@qk _ _ _ (@zw _ _ _ _ _ _ _ _ _ _ _ d_below hr (by omega) rfl (@za _ _ _ _ _ (@pw _ 1 _ _ rfl rfl) (@za _ _ _ _ _ (@pw _ 0 _ _ rfl rfl) (@zc _) rfl) rfl) (by decide) rfl rfl) (by intro _;rfl)) (@pw _ 1 _ _ rfl rfl) (@pw _ 0 _ _ rfl rfl)))),?_⟩
 have qa:=q va
 have qb:=q vb
 unfold QI at qa qb
 refine⟨_,rfl,_,rfl,_,_,s,r,m,n,rfl,fb,fa,by omega,_,rfl,W0 (fun c=>?_) (fun c=>?_)⟩
 ·rw[if_pos (Am c)] at qb
  exact⟨_,rfl,qb (fb.mono (by omega))⟩
 ·rw[if_neg (fun z=>c (AS z))] at qa
  exact⟨_,rfl,qa (fa.mono (by omega))⟩
abbrev ZV:Stmt:=top 41
theorem Wz:zu ["a", "b"] ["a", "b"] (zi ZV):=⟨rfl,rfl,rfl,by decide +kernel,rfl,by decide +kernel,by decide +kernel⟩
theorem WA {P:Program} {w:World} {K:PySem.W.Frag} {mg:Str->Option Value} {base:Heap} {f:Addr} {fd:FuncData} (F:Fun K "greater" "greater" ZV f fd) (gb:Gb mg) {c:Nat->Addr} (cl:Cl K mg c) (d_below:Def P w K mg base 1 "below" ["a", "b"] (ZN K)):qA P w K mg base CX0 2 f fd ["a", "b"] (spLG K jy):=by
 refine F.ok Wz (fun vs H Q E h=>?_) (fun cdv A outer s H vs Q E hr h=>?_)
 ·obtain⟨a,b,r,s,n,m,rfl,_⟩:=h
  rfl
 obtain⟨va,vb,r,s,n,m,rfl,fa,fb,hn,q⟩:=h
 refine⟨_,(@zg _ _ _ (@zr _ _ _ _ (@Qs _ _ _ _ _ _ _ _ (@qk _ _ _ (@zw _ _ _ _ _ _ _ _ _ _ _ d_below hr (by omega) rfl (@za _ _ _ _ _ (@pw _ 0 _ _ rfl rfl) (@za _ _ _ _ _ (@pw _ 1 _ _ rfl rfl) (@zc _) rfl) rfl) (by decide) rfl rfl) (by intro _;rfl)) (@pw _ 1 _ _ rfl rfl) (@pw _ 0 _ _ rfl rfl)))),?_⟩
 have qa:=q va
 have qb:=q vb
 unfold jy at qa qb
 refine⟨_,rfl,_,rfl,_,_,r,s,n,m,rfl,fa,fb,by omega,_,rfl,W0 (fun c=>?_) (fun c=>?_)⟩
 ·rw[if_pos (Am c)] at qb
  exact⟨_,rfl,qb (fb.mono (by omega))⟩
 ·rw[if_neg (fun z=>c (AS z))] at qa
  exact⟨_,rfl,qa (fa.mono (by omega))⟩
abbrev qv:Stmt:=top 38
theorem j6:zu ["kind", "a", "b"] ["kind", "a", "b"] (zi qv):=⟨rfl,rfl,rfl,by decide +kernel,rfl,by decide +kernel,by decide +kernel⟩
theorem j7 {P:Program} {w:World} {K:PySem.W.Frag} {mg:Str->Option Value} {base:Heap} {f:Addr} {fd:FuncData} (F:Fun K "connected_then" "connected_then" qv f fd) (gb:Gb mg) {c:Nat->Addr} (cl:Cl K mg c) (d_below:Def P w K mg base 1 "below" ["a", "b"] (ZN K)) (d_plus:Def P w K mg base 3 "plus" ["a", "b"] (spR K (fun r s=>r+s))) (d_minus:Def P w K mg base 3 "minus" ["a", "b"] (spR K (fun r s=>r - s))) (d_over:Def P w K mg base 3 "over" ["a", "b"] (J4 K)):qA P w K mg base CX0 4 f fd ["kind", "a", "b"] (Qn K Jn):=by
 refine F.ok j6 (fun vs H Q E h=>?_) (fun cdv A outer s H vs Q E hr h=>?_)
 ·obtain⟨k,a,b,r,s,n,m,rfl,_⟩:=h
  rfl
 obtain⟨k,va,vb,r,s,n,m,rfl,kd,fa,fb,s0,hn,q⟩:=h
 refine⟨_,(@ze _ _ _ _ _ (@zO _ _ _ _ _ _ _ _ (@Zv _ _ _ _ (@qk _ _ _ (@zw _ _ _ _ _ _ _ _ _ _ _ d_below hr (by omega) rfl (@za _ _ _ _ _ (@pw _ 2 _ _ rfl rfl) (@za _ _ _ _ _ (@pw _ 1 _ _ rfl rfl) (@zc _) rfl) rfl) (by decide) rfl rfl) (by intro _;rfl))) (@zg _ _ _ (@zr _ _ _ _ (@zM _ _ (.ref _) _ _ rfl cl.g_ONE rfl (by decide)))) (@zq _)) (@ze _ _ _ _ _ (@zO _ _ _ _ _ _ _ _ (@zv _ _ _ _ _ _ _ _ (@jm _) (@pw _ 0 _ _ rfl rfl) (@zm _ _ _ _) (@zG _ _ (by decide) (by decide))) (@zg _ _ _ (@zr _ _ _ _ (@pw _ 2 _ _ rfl rfl))) (@zq _)) (@ze _ _ _ _ _ (@zO _ _ _ _ _ _ _ _ (@zv _ _ _ _ _ _ _ _ (@jm _) (@pw _ 0 _ _ rfl rfl) (@zm _ _ _ _) (@zG _ _ (by decide) (by decide))) (@zg _ _ _ (@zr _ _ _ _ (@zw _ _ _ _ _ _ _ _ _ _ _ d_plus hr (by omega) rfl (@za _ _ _ _ _ (@zw _ _ _ _ _ _ _ _ _ _ _ d_minus hr (by omega) rfl (@za _ _ _ _ _ (@zM _ _ (.ref _) _ _ rfl cl.g_ONE rfl (by decide)) (@za _ _ _ _ _ (@pw _ 1 _ _ rfl rfl) (@zc _) rfl) rfl) (by decide) rfl rfl) (@za _ _ _ _ _ (@pw _ 2 _ _ rfl rfl) (@zc _) rfl) rfl) (by decide) rfl rfl))) (@zq _)) (@zg _ _ _ (@zr _ _ _ _ (@zw _ _ _ _ _ _ _ _ _ _ _ d_over hr (by omega) rfl (@za _ _ _ _ _ (@pw _ 2 _ _ rfl rfl) (@za _ _ _ _ _ (@pw _ 1 _ _ rfl rfl) (@zc _) rfl) rfl) (by decide) rfl rfl)))))),?_⟩
 have qq:=q
 unfold Jn at qq
 have f1:FR K H (.ref (c 8)) 1 1:=FR.k (r:=1) cl.t_ONE (by unfold Sz;decide) (by unfold Sz;decide)
 refine⟨_,rfl,_,rfl,vb,va,s,r,m,n,rfl,fb,fa,by omega,_,rfl,?_⟩
 by_cases h:s < r
 ·rw[if_pos h] at qq
  rw[AS h]
  refine⟨_,rfl,rfl,_,rfl,?_⟩
  by_cases e1:k = "least"
  ·rw[if_pos e1] at qq
   refine Z3 (AS (by rw[e1])) ?_
   exact⟨_,rfl,qq _ _ (zE.refl H) (fb.mono (by omega))⟩
  rw[if_neg e1] at qq
  refine J1 (AQ fun z=>e1 (V.str.inj z)) ?_
  refine⟨_,rfl,rfl,_,rfl,?_⟩
  by_cases e2:k = "cut"
  ·rw[if_pos e2] at qq
   refine Z3 (AS (by rw[e2])) ?_
   refine⟨_,rfl,_,_,_,_,1,n,rfl,f1,fa,by omega,fun v1 H1 s1 g1=>?_⟩
   exact⟨_,rfl,_,_,_,_,1+n+1,m,rfl,g1,fb.same s1,by omega,fun v2 H2 s2 g2=>qq _ _ (s1.trans s2) (g2.mono (by omega))⟩
  rw[if_neg e2] at qq
  refine J1 (AQ fun z=>e2 (V.str.inj z)) ?_
  refine⟨_,rfl,_,rfl,_,_,_,_,m,n,rfl,fb,fa,by omega,fun z=>?_,fun v2 H2 s2 g2=>qq _ _ s2 (g2.mono (by omega))⟩
  rw[z] at h
  exact absurd h (Rat.not_lt.mpr s0)
 ·rw[if_neg h] at qq
  rw[AQ h]
  exact qq _ _ (zE.refl H) (f1.mono (by omega))
abbrev qw:Stmt:=top 39
theorem j8:zu ["kind", "a", "b"] ["kind", "a", "b"] (zi qw):=⟨rfl,rfl,rfl,by decide +kernel,rfl,by decide +kernel,by decide +kernel⟩
theorem j9 {P:Program} {w:World} {K:PySem.W.Frag} {mg:Str->Option Value} {base:Heap} {f:Addr} {fd:FuncData} (F:Fun K "connected_with" "connected_with" qw f fd) (gb:Gb mg) {c:Nat->Addr} (cl:Cl K mg c) (d_lesser:Def P w K mg base 2 "lesser" ["a", "b"] (spLG K QI)) (d_greater:Def P w K mg base 2 "greater" ["a", "b"] (spLG K jy)) (d_minus:Def P w K mg base 3 "minus" ["a", "b"] (spR K (fun r s=>r - s))) (d_plus:Def P w K mg base 3 "plus" ["a", "b"] (spR K (fun r s=>r+s))) (d_times:Def P w K mg base 3 "times" ["a", "b"] (spR K (fun r s=>r * s))):qA P w K mg base CX0 4 f fd ["kind", "a", "b"] (Qn K J2):=by
 refine F.ok j8 (fun vs H Q E h=>?_) (fun cdv A outer s H vs Q E hr h=>?_)
 ·obtain⟨k,a,b,r,s,n,m,rfl,_⟩:=h
  rfl
 obtain⟨k,va,vb,r,s,n,m,rfl,kd,fa,fb,s0,hn,q⟩:=h
 refine⟨_,(@ze _ _ _ _ _ (@zO _ _ _ _ _ _ _ _ (@zv _ _ _ _ _ _ _ _ (@jm _) (@pw _ 0 _ _ rfl rfl) (@zm _ _ _ _) (@zG _ _ (by decide) (by decide))) (@zg _ _ _ (@zr _ _ _ _ (@zw _ _ _ _ _ _ _ _ _ _ _ d_lesser hr (by omega) rfl (@za _ _ _ _ _ (@pw _ 1 _ _ rfl rfl) (@za _ _ _ _ _ (@pw _ 2 _ _ rfl rfl) (@zc _) rfl) rfl) (by decide) rfl rfl))) (@zq _)) (@ze _ _ _ _ _ (@zO _ _ _ _ _ _ _ _ (@zv _ _ _ _ _ _ _ _ (@jm _) (@pw _ 0 _ _ rfl rfl) (@zm _ _ _ _) (@zG _ _ (by decide) (by decide))) (@zg _ _ _ (@zr _ _ _ _ (@zw _ _ _ _ _ _ _ _ _ _ _ d_greater hr (by omega) rfl (@za _ _ _ _ _ (@zw _ _ _ _ _ _ _ _ _ _ _ d_minus hr (by omega) rfl (@za _ _ _ _ _ (@zw _ _ _ _ _ _ _ _ _ _ _ d_plus hr (by omega) rfl (@za _ _ _ _ _ (@pw _ 1 _ _ rfl rfl) (@za _ _ _ _ _ (@pw _ 2 _ _ rfl rfl) (@zc _) rfl) rfl) (by decide) rfl rfl) (@za _ _ _ _ _ (@zM _ _ (.ref _) _ _ rfl cl.g_ONE rfl (by decide)) (@zc _) rfl) rfl) (by decide) rfl rfl) (@za _ _ _ _ _ (@zM _ _ (.ref _) _ _ rfl cl.g_NOUGHT rfl (by decide)) (@zc _) rfl) rfl) (by decide) rfl rfl))) (@zq _)) (@zg _ _ _ (@zr _ _ _ _ (@zw _ _ _ _ _ _ _ _ _ _ _ d_times hr (by omega) rfl (@za _ _ _ _ _ (@pw _ 1 _ _ rfl rfl) (@za _ _ _ _ _ (@pw _ 2 _ _ rfl rfl) (@zc _) rfl) rfl) (by decide) rfl rfl))))),?_⟩
 have qq:=q
 unfold J2 at qq
 have f1:∀ H',FR K H' (.ref (c 8)) 1 1:=fun H'=>FR.k (r:=1) cl.t_ONE (by unfold Sz;decide) (by unfold Sz;decide)
 have f0:∀ H',FR K H' (.ref (c 7)) 0 1:=fun H'=>FR.k (r:=0) cl.t_NOUGHT (by unfold Sz;decide) (by unfold Sz;decide)
 refine⟨_,rfl,rfl,_,rfl,?_⟩
 by_cases e1:k = "least"
 ·rw[if_pos e1] at qq
  refine Z3 (AS (by rw[e1])) ?_
  exact⟨_,rfl,_,rfl,_,_,_,_,n,m,rfl,fa,fb,by omega,fun v g=>qq _ _ (zE.refl H) (g.mono (by omega))⟩
 rw[if_neg e1] at qq
 refine J1 (AQ fun z=>e1 (V.str.inj z)) ?_
 refine⟨_,rfl,rfl,_,rfl,?_⟩
 by_cases e2:k = "cut"
 ·rw[if_pos e2] at qq
  refine Z3 (AS (by rw[e2])) ?_
  refine⟨_,rfl,_,rfl,_,_,_,_,n,m,rfl,fa,fb,by omega,fun v1 H1 s1 g1=>?_⟩
  refine⟨_,_,_,_,n+m+1,1,rfl,g1,f1 _,by omega,fun v2 H2 s2 g2=>?_⟩
  exact⟨_,_,_,_,n+m+1+1+1,1,rfl,g2,f0 _,by omega,fun v3 g3=>qq _ _ (s1.trans s2) (g3.mono (by omega))⟩
 rw[if_neg e2] at qq
 refine J1 (AQ fun z=>e2 (V.str.inj z)) ?_
 exact⟨_,rfl,_,rfl,_,_,_,_,n,m,rfl,fa,fb,by omega,fun v1 H1 s1 g1=>qq _ _ s1 (g1.mono (by omega))⟩
abbrev jH:Stmt:=top 37
theorem JC:zu ["kind", "name", "grades"] ["kind", "name", "grades"] (zi jH):=⟨rfl,rfl,rfl,by decide +kernel,rfl,by decide +kernel,by decide +kernel⟩
theorem JD {P:Program} {w:World} {K:PySem.W.Frag} {mg:Str->Option Value} {base:Heap} {f:Addr} {fd:FuncData} (F:Fun K "connected" "connected" jH f fd) (gb:Gb mg) {c:Nat->Addr} (cl:Cl K mg c) (d_connected_then:Def P w K mg base 4 "connected_then" ["kind", "a", "b"] (Qn K Jn)) (d_connected_with:Def P w K mg base 4 "connected_with" ["kind", "a", "b"] (Qn K J2)) (d_greater:Def P w K mg base 2 "greater" ["a", "b"] (spLG K jy)) (d_lesser:Def P w K mg base 2 "lesser" ["a", "b"] (spLG K QI)):qA P w K mg base CX0 5 f fd ["kind", "name", "grades"] (yx K):=by
 refine F.ok JC (fun vs H Q E h=>?_) (fun cdv A outer s H vs Q E hr h=>?_)
 ·obtain⟨k,nm,g,zs,n,rfl,_⟩:=h
  rfl
 obtain⟨k,nm,g,zs,n,rfl,kd,hm,hl,hg,fz,z0,hn,q⟩:=h
 refine⟨_,(@ze _ _ _ _ _ (@zO _ _ _ _ _ _ _ _ (@zv _ _ _ _ _ _ _ _ (@jm _) (@pw _ 1 _ _ rfl rfl) (@zm _ _ _ _) (@zG _ _ (by decide) (by decide))) (@zg _ _ _ (@zr _ _ _ _ (@zM _ _ (.ref _) _ _ rfl cl.g_NOUGHT rfl (by decide)))) (@zq _)) (@ze _ _ _ _ _ (@zO _ _ _ _ _ _ _ _ (@zv _ _ _ _ _ _ _ _ (@jm _) (@pw _ 1 _ _ rfl rfl) (@zm _ _ _ _) (@zG _ _ (by decide) (by decide))) (@zg _ _ _ (@zr _ _ _ _ (@zM _ _ (.ref _) _ _ rfl cl.g_ONE rfl (by decide)))) (@zq _)) (@ze _ _ _ _ _ (@zO _ _ _ _ _ _ _ _ (@zv _ _ _ _ _ _ _ _ (@jm _) (@pw _ 1 _ _ rfl rfl) (@zm _ _ _ _) (@zG _ _ (by decide) (by decide))) (@zg _ _ _ (@zr _ _ _ _ (@zw _ _ _ _ _ _ _ _ _ _ _ d_connected_then hr (by omega) rfl (@za _ _ _ _ _ (@pw _ 0 _ _ rfl rfl) (@za _ _ _ _ _ (@zy _ _ _ _ _ _ _ (@zj _ K rfl) (@pw _ 2 _ _ rfl rfl) (@zf _ _ _ _) (fun _ _=>rfl)) (@za _ _ _ _ _ (@zM _ _ (.ref _) _ _ rfl cl.g_NOUGHT rfl (by decide)) (@zc _) rfl) rfl) rfl) (by decide) rfl rfl))) (@zq _)) (@ze _ _ _ _ _ (@zO _ _ _ _ _ _ _ _ (@zv _ _ _ _ _ _ _ _ (@jm _) (@pw _ 1 _ _ rfl rfl) (@zm _ _ _ _) (@zG _ _ (by decide) (by decide))) (@zg _ _ _ (@zr _ _ _ _ (@zw _ _ _ _ _ _ _ _ _ _ _ d_connected_then hr (by omega) rfl (@za _ _ _ _ _ (@pw _ 0 _ _ rfl rfl) (@za _ _ _ _ _ (@zy _ _ _ _ _ _ _ (@zj _ K rfl) (@pw _ 2 _ _ rfl rfl) (@zf _ _ _ _) (fun _ _=>rfl)) (@za _ _ _ _ _ (@zy _ _ _ _ _ _ _ (@zj _ K rfl) (@pw _ 2 _ _ rfl rfl) (@zf _ _ _ _) (fun _ _=>rfl)) (@zc _) rfl) rfl) rfl) (by decide) rfl rfl))) (@zq _)) (@ze _ _ _ _ _ (@zO _ _ _ _ _ _ _ _ (@zv _ _ _ _ _ _ _ _ (@jm _) (@pw _ 1 _ _ rfl rfl) (@zm _ _ _ _) (@zG _ _ (by decide) (by decide))) (@zg _ _ _ (@zr _ _ _ _ (@zw _ _ _ _ _ _ _ _ _ _ _ d_connected_with hr (by omega) rfl (@za _ _ _ _ _ (@pw _ 0 _ _ rfl rfl) (@za _ _ _ _ _ (@zy _ _ _ _ _ _ _ (@zj _ K rfl) (@pw _ 2 _ _ rfl rfl) (@zf _ _ _ _) (fun _ _=>rfl)) (@za _ _ _ _ _ (@zy _ _ _ _ _ _ _ (@zj _ K rfl) (@pw _ 2 _ _ rfl rfl) (@zf _ _ _ _) (fun _ _=>rfl)) (@zc _) rfl) rfl) rfl) (by decide) rfl rfl))) (@zq _)) (@ze _ _ _ _ _ (@zO _ _ _ _ _ _ _ _ (@zv _ _ _ _ _ _ _ _ (@jm _) (@pw _ 1 _ _ rfl rfl) (@zm _ _ _ _) (@zG _ _ (by decide) (by decide))) (@zg _ _ _ (@zr _ _ _ _ (@zw _ _ _ _ _ _ _ _ _ _ _ d_greater hr (by omega) rfl (@za _ _ _ _ _ (@zy _ _ _ _ _ _ _ (@zj _ K rfl) (@pw _ 2 _ _ rfl rfl) (@zf _ _ _ _) (fun _ _=>rfl)) (@za _ _ _ _ _ (@zy _ _ _ _ _ _ _ (@zj _ K rfl) (@pw _ 2 _ _ rfl rfl) (@zf _ _ _ _) (fun _ _=>rfl)) (@zc _) rfl) rfl) (by decide) rfl rfl))) (@zq _)) (@zg _ _ _ (@zr _ _ _ _ (@zw _ _ _ _ _ _ _ _ _ _ _ d_lesser hr (by omega) rfl (@za _ _ _ _ _ (@zy _ _ _ _ _ _ _ (@zj _ K rfl) (@pw _ 2 _ _ rfl rfl) (@zf _ _ _ _) (fun _ _=>rfl)) (@za _ _ _ _ _ (@zy _ _ _ _ _ _ _ (@zj _ K rfl) (@pw _ 2 _ _ rfl rfl) (@zf _ _ _ _) (fun _ _=>rfl)) (@zc _) rfl) rfl) (by decide) rfl rfl))))))))),?_⟩
 have f1:FR K H (.ref (c 8)) 1 1:=FR.k (r:=1) cl.t_ONE (by unfold Sz;decide) (by unfold Sz;decide)
 have f0:FR K H (.ref (c 7)) 0 1:=FR.k (r:=0) cl.t_NOUGHT (by unfold Sz;decide) (by unfold Sz;decide)
 unfold qc at hm
 simp only[List.mem_cons,List.not_mem_nil,or_false] at hm
 rcases hm with rfl | rfl | rfl | rfl | rfl | rfl | rfl
 ·obtain⟨z1,z2,rfl⟩:∃ z1 z2,zs=[z1,z2]:=two hl
  walk_at "ds"
  exact⟨_,rfl,.inl ⟨g,_,0,_,rfl,rfl,SqL.of hg,rfl,_,rfl,.inl ⟨g,_,1,_,rfl,rfl,SqL.of hg,rfl,_,_,_,_,n,n,rfl,fz z1 (by simp),fz z2 (by simp),by omega,fun v g=>q _ _ (zE.refl H) (g.mono (by omega))⟩⟩⟩
 ·obtain⟨z1,z2,rfl⟩:∃ z1 z2,zs=[z1,z2]:=two hl
  walk_at "ds"
  exact⟨_,rfl,.inl ⟨g,_,0,_,rfl,rfl,SqL.of hg,rfl,_,rfl,.inl ⟨g,_,1,_,rfl,rfl,SqL.of hg,rfl,_,_,_,_,n,n,rfl,fz z1 (by simp),fz z2 (by simp),by omega,fun v g=>q _ _ (zE.refl H) (g.mono (by omega))⟩⟩⟩
 ·obtain⟨z1,z2,rfl⟩:∃ z1 z2,zs=[z1,z2]:=two hl
  walk_at "ds"
  exact⟨_,rfl,_,rfl,.inl ⟨g,_,0,_,rfl,rfl,SqL.of hg,rfl,_,rfl,.inl ⟨g,_,1,_,rfl,rfl,SqL.of hg,rfl,k,_,_,_,_,n,n,rfl,kd,fz z1 (by simp),fz z2 (by simp),z0 z2 (by simp),by omega,fun v H1 s1 g=>q _ _ s1 (g.mono (by omega))⟩⟩⟩
 ·obtain⟨z1,z2,rfl⟩:∃ z1 z2,zs=[z1,z2]:=two hl
  walk_at "ds"
  exact⟨_,rfl,_,rfl,.inl ⟨g,_,0,_,rfl,rfl,SqL.of hg,rfl,_,rfl,.inl ⟨g,_,1,_,rfl,rfl,SqL.of hg,rfl,k,_,_,_,_,n,n,rfl,kd,fz z1 (by simp),fz z2 (by simp),z0 z2 (by simp),by omega,fun v H1 s1 g=>q _ _ s1 (g.mono (by omega))⟩⟩⟩
 ·obtain⟨z1,rfl⟩:∃ z1,zs=[z1]:=one1 hl
  walk_at "ds"
  exact⟨_,rfl,_,rfl,.inl ⟨g,_,0,_,rfl,rfl,SqL.of hg,rfl,k,_,_,_,_,n,1,rfl,kd,fz z1 (by simp),f0,by decide,by omega,fun v H1 s1 g=>q _ _ s1 (g.mono (by omega))⟩⟩
 ·walk_at "ds"
  exact q _ _ (zE.refl H) (f0.mono (by omega))
 ·walk_at "ds"
  exact q _ _ (zE.refl H) (f1.mono (by omega))
abbrev zD:Stmt:=top 15
theorem qL:zu ["text"] ["text"] (zi zD):=⟨rfl,rfl,rfl,by decide +kernel,rfl,by decide +kernel,by decide +kernel⟩
theorem qM {P:Program} {w:World} {K:PySem.W.Frag} {mg:Str->Option Value} {base:Heap} {f:Addr} {fd:FuncData} (F:Fun K "has_small_letters_alone" "has_small_letters_alone" zD f fd) (gb:Gb mg) {c:Nat->Addr} (cl:Cl K mg c):qA P w K mg base CX0 1 f fd ["text"] J9:=by
 refine F.ok qL (fun vs H Q E h=>?_) (fun cdv A outer s H vs Q E hr h=>?_)
 ·obtain⟨x,rfl,_⟩:=h
  rfl
 obtain⟨x,rfl,hs,hl,q⟩:=h
 have nd0:(["sign"]:List Str).Nodup:=by decide +kernel
 refine⟨_,(@zg _ _ _ (@zr _ _ _ _ (@zo _ _ _ _ _ _ _ _ _ (@yp _ K rfl rfl) rfl gb.all bt_all (@za _ _ _ _ _ (@Qx _ ["sign"] [none] _ _ _ _ _ _ _ _ _ _ (by exact (show qH ["text"] (zi zD) ["sign"] [none] _ from⟨rfl,by decide +kernel,by decide +kernel,by decide +kernel,by decide +kernel,rfl,by decide +kernel⟩)) rfl (@pi_str _ _ _ _ (@pw _ 0 _ _ rfl rfl)) (fun _ _ _ _=>(@pgl _ 0 _ _ nd0 rfl rfl)) (fun _ _ _ _=>(@wE _)) (fun _ _ _ _=>(@pe_chain _ _ _ _ _ _ _ _ _ _ _ _ (@Jm _) (@Jm _) (@zm _ _ _ _) (@pw _ 0 _ _ rfl rfl) (@zm _ _ _ _) (by with_unfolding_all rfl))) (by intro _;rfl)) (@zc _) rfl) (by decide) (by decide) rfl rfl))),?_⟩
 refine⟨_,rfl,x,rfl,fun D hD=>?_⟩
 refine map_str (h:=fun _=>.bl true) (by omega) hD (fun c hc H' Q' s1 q'=>?_) (fun H' s1 hD'=>?_)
 ·obtain⟨c0,c1⟩:=hs c hc
  refine⟨_,rfl,_,_,rfl,rfl,_,rfl,?_⟩
  have e1:(!decide ((Str.mk #[c]).cps.toList < (Str.ofString "a").cps.toList))=true:=by
   have:(Str.ofString "a").cps.toList=[97]:=by decide +kernel
   rw[this]
   simp[List.cons_lt_cons_iff]
   omega
  have e2:(!decide ((Str.ofString "z").cps.toList < (Str.mk #[c]).cps.toList))=true:=by
   have:(Str.ofString "z").cps.toList=[122]:=by decide +kernel
   rw[this]
   simp[List.cons_lt_cons_iff]
   omega
  rw[if_pos e1]
  refine⟨_,_,rfl,rfl,?_⟩
  rw[e2]
  exact q' _ zE.rfl'
 ·rw[trues] at hD'
  refine⟨D,_,rfl,SqL.of hD',?_⟩
  rw[yw]
  exact q _ s1
abbrev jI:Stmt:=top 14
theorem JE:zu ["thing"] ["thing"] (zi jI):=⟨rfl,rfl,rfl,by decide +kernel,rfl,by decide +kernel,by decide +kernel⟩
theorem JF {P:Program} {w:World} {K:PySem.W.Frag} {mg:Str->Option Value} {base:Heap} {f:Addr} {fd:FuncData} (F:Fun K "is_letter" "is_letter" jI f fd) (gb:Gb mg) {c:Nat->Addr} (cl:Cl K mg c) (d_has_small_letters_alone:Def P w K mg base 1 "has_small_letters_alone" ["text"] J9):qA P w K mg base CX0 2 f fd ["thing"] Wv:=by
 refine F.ok JE (fun vs H Q E h=>?_) (fun cdv A outer s H vs Q E hr h=>?_)
 ·obtain⟨v,s,rfl,_⟩:=h
  rfl
 obtain⟨v,s,rfl,ih,hl,q⟩:=h
 refine⟨_,(@zg _ _ _ (@zr _ _ _ _ (@WG _ _ _ _ _ _ _ (@zo _ _ _ _ _ _ _ _ _ (@zZ _ K rfl) rfl gb.isinstance zn (@za _ _ _ _ _ (@pw _ 0 _ _ rfl rfl) (@za _ _ _ _ _ (@qX _ _ (.ty "str") _ _ rfl gb.str Jg rfl (by decide) (by decide)) (@zc _) rfl) rfl) (by decide) (by decide) rfl rfl) (@WG _ _ _ _ _ _ _ (@JP _ _ _ _ _ _ _ _ (@jm _) (@zo _ _ _ _ _ _ _ _ _ (@qe _ K rfl) rfl gb.len jP (@za _ _ _ _ _ (@pw _ 0 _ _ rfl rfl) (@zc _) rfl) (by decide) (by decide) rfl rfl) (@zf _ _ _ _) (@zG _ _ (by decide) (by decide))) (@pe_one _ _ _ _ _ (@zw _ _ _ _ _ _ _ _ _ _ _ d_has_small_letters_alone hr (by omega) rfl (@za _ _ _ _ _ (@pw _ 0 _ _ rfl rfl) (@zc _) rfl) (by decide) rfl rfl)))))),?_⟩
 refine⟨_,rfl,?_⟩
 cases hs:s.isL with
 | true=>
  obtain rfl:=ih.letter hs
  obtain⟨l1,sm⟩:=hl hs
  refine⟨_,_,_,true,rfl,.str _,qN "str",true,rfl,jN ?_⟩
  refine⟨_,rfl,_,s.nm.length,rfl,⟨zh (by omega),rfl⟩,rfl,true,?_,jN ?_⟩
  ·rw[l1]
   rfl
  ·exact⟨_,rfl,s.nm,rfl,sm,by omega,fun H' s1=>by have q2:=q H' s1;rw[hs] at q2;exact q2⟩
 | false=>
  obtain⟨t,us,rfl,ht,_⟩:=ih.node hs
  exact⟨_,_,_,false,rfl,.tup ht,ZM (K:=K) (.tup []),false,rfl,ZC (by have q2:=q H (zE.refl H);rw[hs] at q2;exact q2)⟩
abbrev Zs:Stmt:=top 36
theorem Yd:zu ["kind", "S", "grading"] ["kind", "S", "grading"] (zi Zs):=⟨rfl,rfl,rfl,by decide +kernel,rfl,by decide +kernel,by decide +kernel⟩
theorem Ye {P:Program} {w:World} {K:PySem.W.Frag} {mg:Str->Option Value} {base:Heap} {f:Addr} {fd:FuncData} (F:Fun K "graded" "graded" Zs f fd) (gb:Gb mg) {c:Nat->Addr} (cl:Cl K mg c) (d_is_letter:Def P w K mg base 2 "is_letter" ["thing"] Wv) (d_connected:Def P w K mg base 5 "connected" ["kind", "name", "grades"] (yx K)) (j:Nat) (d_graded:Def P w K mg base (6+j) "graded" ["kind", "S", "grading"] ((Zp K) j)):qA P w K mg base CX0 (6+j+1) f fd ["kind", "S", "grading"] ((Zp K) (j+1)):=by
 refine F.ok Yd (fun vs H Q E h=>?_) (fun cdv A outer s H vs Q E hr h=>?_)
 ·obtain⟨k,v,s,g,L,ρ,rfl,_⟩:=h
  rfl
 obtain⟨k,v,s,g,L,ρ,rfl,kd,ih,gs,hL,ig,hj,d5,q⟩:=h
 have nd0:(["part", "kind", "grading"]:List Str).Nodup:=by decide +kernel
 refine⟨_,(@ze _ _ _ _ _ (@zO _ _ _ _ _ _ _ _ (@qk _ _ _ (@zw _ _ _ _ _ _ _ _ _ _ _ d_is_letter hr (by omega) rfl (@za _ _ _ _ _ (@pw _ 1 _ _ rfl rfl) (@zc _) rfl) (by decide) rfl rfl) (by intro _;rfl)) (@zg _ _ _ (@zr _ _ _ _ (@pe_kget _ _ _ _ _ _ (@pw _ 2 _ _ rfl rfl) (@pw _ 1 _ _ rfl rfl) (fun _ _=>rfl)))) (@zq _)) (@zg _ _ _ (@zr _ _ _ _ (@zw _ _ _ _ _ _ _ _ _ _ _ d_connected hr (by omega) rfl (@za _ _ _ _ _ (@pw _ 0 _ _ rfl rfl) (@za _ _ _ _ _ (@zy _ _ _ _ _ _ _ (@zj _ K rfl) (@pw _ 1 _ _ rfl rfl) (@zf _ _ _ _) (fun _ _=>rfl)) (@za _ _ _ _ _ (@Qx _ ["part", "kind", "grading"] [none,some 0,some 2] _ _ _ _ _ _ _ _ _ _ (by exact (show qH ["kind", "S", "grading"] (zi Zs) ["part", "kind", "grading"] [none,some 0,some 2] _ from⟨rfl,by decide +kernel,by decide +kernel,by decide +kernel,by decide +kernel,rfl,by decide +kernel⟩)) rfl (@JV _ K _ _ _ (@qm _ _ _ _ _ _ _ _ _ _ (@kslT _ K rfl) (@pw _ 1 _ _ rfl rfl) (@qQ _ _ _ (@zf _ _ _ _)) (@qP _)) rfl) (fun _ _ _ _=>(@pgl _ 0 _ _ nd0 rfl rfl)) (fun _ _ _ _=>(@wE _)) (fun _ _ _ _=>(@zw _ _ _ _ _ _ _ _ _ _ _ d_graded hr (by omega) rfl (@za _ _ _ _ _ (@pw _ 1 _ _ rfl rfl) (@za _ _ _ _ _ (@pw _ 0 _ _ rfl rfl) (@za _ _ _ _ _ (@pw _ 2 _ _ rfl rfl) (@zc _) rfl) rfl) rfl) (by decide) rfl rfl)) (by intro _;rfl)) (@zc _) rfl) rfl) rfl) (by decide) rfl rfl)))),?_⟩
 refine⟨_,rfl,v,s,rfl,ih,fun h=>hL _ (gs.letter h),fun H1 s1=>⟨_,rfl,?_⟩⟩
 cases hs:s.isL with
 | true=>
  have ev:=ih.letter hs
  obtain⟨kvs,hk,hv⟩:=ig.dk
  obtain⟨u,e,fu⟩:=hv _ (gs.letter hs)
  refine jN ⟨_,rfl,_,rfl,g,kvs,Sum.inr s.nm,u,rfl,s1 _ _ hk,by rw[ev];rfl,e,q u H1 s1 ?_⟩
  rw[yI hs]
  exact (fu.same s1).mono (show bt 0<=bt s.dp from J6 (Ax _))
 | false=>
  refine ZC ?_
  obtain⟨t,us,ev,ht,hP⟩:=ih.node hs
  obtain⟨nm7,pl,gps⟩:=gs.node hs
  have hul:=Ac hP
  have a2:=arity2 s.nm
  have ht1:=s1 _ _ ht
  rw[ev]
  refine⟨_,rfl,_,rfl,.inr (.inl ⟨t,_,_,_,rfl,rfl,SqT.of ht1,at0,_,rfl,_,rfl,?_⟩)⟩
  refine ZR ht1 fun t2 H2 s2 ht2=>?_
  rw[jr (by simp)] at ht2
  refine⟨t2,rfl,⟨_,SqT.of ht2⟩,fun D hD=>?_⟩
  have dpos:0 < s.dp:=by
   cases hs':s with
   | ltr x=>rw[hs'] at hs;cases hs
   | n0 n=>exact Nat.zero_lt_one
   | n1 n a=>exact Nat.succ_pos _
   | n2 n a b=>exact Nat.succ_pos _
  obtain⟨dd,hdd⟩:∃ dd,s.dp=dd+1:=⟨s.dp - 1,by omega⟩
  refine comp_tup (xs:=us) (fun i ys H'=>zE H2 H'/\∃ zs:List (V×Rat),ys=zs.map Prod.fst/\zs.map Prod.snd=(s.ps.take i).map (gr k ρ)/\FRs K H' zs (bt dd)) ⟨zd hD _,[],rfl,rfl,fun z hz=>by cases hz⟩ (fun i ys H' h _=>SqT.of (h.1 _ _ ht2)) ?_ ?_
  ·rintro i ys H3 x hx ⟨s3,zs,rfl,hz,fz⟩ hD3
   have hi:i < us.length:=(AD.mp hx).1
   have ha:s.ps[i]? = some s.ps[i]:=AE (by omega)
   generalize s.ps[i]=a at ha
   have hia:=Paired.at hP i _ _ ha hx
   have ham:=AH ha
   have hda:=Sy.dp_lt ham
   match j,hj,d_graded with
   | 0,hj,_=>exact absurd hj (by omega)
   | j+1,hj,_=>
   refine yes ⟨_,rfl,_,rfl,_,rfl,k,x,a,g,L,ρ,rfl,kd,hia.same (s1.trans (s2.trans s3)),gps a ham,hL,ig.same (s1.trans (s2.trans s3)),by omega,by omega,fun w H4 s4 f4=>?_⟩
   have hzl:=BB List.length hz
   rw[AF,AF,Al] at hzl
   refine cyes hi Wi (s4 _ _ hD3) (by rw[AF];exact zK (by omega)) ⟨(s3.trans s4).put hD,zs++[(w,gr k ρ a)],by rw[AU];rfl,by rw[AU,hz,take_snoc ha,AU];rfl,?_⟩
   intro z hz'
   rcases Ae.mp hz' with h | h
   ·exact ((fz z h).same s4).put (s4 _ _ hD3)
   ·rw[AJ.mp h]
    exact (f4.mono (J6 (by omega))).put (s4 _ _ hD3)
  ·rintro ys H3 ⟨s3,zs,rfl,hz,fz⟩ hD3
   rw[<- hul,List.take_length] at hz
   have hzl:=BB List.length hz
   rw[AF,AF] at hzl
   have nn:∀ z ∈ zs,0<=z.2:=fun z hz'=>by
    have:z.2 ∈ zs.map Prod.snd:=BS.mpr ⟨z,hz',rfl⟩
    rw[hz] at this
    obtain⟨a,ha,e⟩:=BS.mp this
    rw[<- e]
    exact (gr_u ig.u (gps a ha)).1
   refine⟨k,s.nm,D,zs,bt dd,rfl,kd,nm7,by omega,hD3,fz,nn,?_,fun u H4 s4 f4=>q u H4 (s1.trans (s2.trans (s3.trans s4))) ?_⟩
   ·have:=bt4 (d:=dd) (by omega)
    omega
   ·rw[gr_node hs,<- hz,hdd]
    exact f4
abbrev je:Stmt:=top 35
theorem Qa:zu ["kind"] ["kind"] (zi je):=⟨rfl,rfl,rfl,by decide +kernel,rfl,by decide +kernel,by decide +kernel⟩
theorem Qb {P:Program} {w:World} {K:PySem.W.Frag} {mg:Str->Option Value} {base:Heap} {f:Addr} {fd:FuncData} (F:Fun K "check_kind" "check_kind" je f fd) (gb:Gb mg) {c:Nat->Addr} (cl:Cl K mg c):qA P w K mg base (CXD P w) 1 f fd ["kind"] (yP (c 3)):=by
 refine F.okD Qa (fun vs H Q E h=>?_) (fun cdv A outer s H vs Q E hr h=>?_)
 ·obtain⟨t,v,rfl,_⟩:=h
  rfl
 obtain⟨t,v,rfl,ht,e0,q⟩:=h
 refine⟨_,(@zg _ _ _ (@zO _ _ _ _ _ _ _ _ (@PW.pt _ _ _ (@pw_or _ _ _ _ _ _ _ (@Zv _ _ _ _ (@qk _ _ _ (@zo _ _ _ _ _ _ _ _ _ (@zZ _ K rfl) rfl gb.isinstance zn (@za _ _ _ _ _ (@pw _ 0 _ _ rfl rfl) (@za _ _ _ _ _ (@qX _ _ (.ty "str") _ _ rfl gb.str Jg rfl (by decide) (by decide)) (@zc _) rfl) rfl) (by decide) (by decide) rfl rfl) (by intro _;rfl))) (@ww _ _ _ _ (@zv _ _ _ _ _ _ _ _ (@jQ _ K rfl) (@pw _ 0 _ _ rfl rfl) (@zM _ _ (.ref _) _ _ rfl cl.g_KINDS rfl (by decide)) (by with_unfolding_all rfl))))) (@zg _ _ _ (@ZI _ _ _ _ _ _ _ _ _ _ _ _ _ _ _ _ _ _ rfl cl.g_NoKind cl.x_NoKind Af rfl Af rfl rfl (@ZH _ _ _ _ _ _ _ _ _ _ _ _ _ _ _) (@za _ _ _ _ _ (@zm _ _ _ _) (@zc _) rfl) (by decide) rfl rfl)) (@zq _))),?_⟩
 refine⟨_,rfl,_,_,_,isStrB t,rfl,ht.ty,ZM t,_,rfl,?_⟩
 cases t with
 | str x=>
  cases ht
  refine⟨_,rfl,_,_,rfl,.inr cl.t_KINDS.sq,rfl,rfl,_,rfl,?_⟩
  have eb:inV (.str x) [.str "least",.str "cut",.str "times"]=jX (.str x):=rfl
  dsimp only
  rw[eb]
  cases hb:jX (.str x) with
  | false=>exact⟨zh (by show 1<=1000;decide),e0 hb⟩
  | true=>exact q hb
 | _=>exact⟨zh (by show 1<=1000;decide),e0 rfl⟩
abbrev qx:Stmt:=top 25
theorem zT:zu ["S", "parts", "waiting", "part"] ["S"] (zi qx):=⟨rfl,rfl,rfl,by decide +kernel,rfl,by decide +kernel,by decide +kernel⟩
theorem Za {P:Program} {w:World} {K:PySem.W.Frag} {mg:Str->Option Value} {base:Heap} {f:Addr} {fd:FuncData} (F:Fun K "written_parts" "written_parts" qx f fd) (gb:Gb mg) {c:Nat->Addr} (cl:Cl K mg c) (d_is_letter:Def P w K mg base 2 "is_letter" ["thing"] Wv):qA P w K mg base CX0 3 f fd ["S"] yQ:=by
 refine F.ok zT (fun vs H Q E h=>?_) (fun cdv A outer s H vs Q E hr h=>?_)
 ·obtain⟨v,s,rfl,_⟩:=h
  rfl
 obtain⟨v,s,rfl,ih,gs,h63,q⟩:=h
 refine⟨_,(@ze _ _ _ _ _ (@zx _ _ 1 _ _ _ _ zT.nd rfl (Or.inl rfl) (@zW _ _ _ _ (@zc _)) rfl (by walk_at "f")) (@ze _ _ _ _ _ (@zx _ _ 2 _ _ _ _ zT.nd rfl (Or.inl rfl) (@zW _ _ _ _ (@za _ _ _ _ _ (@pw _ 0 _ _ rfl rfl) (@zc _) rfl)) rfl (by walk_at "f")) (@ze _ _ _ _ _ (@wy _ _ _ _ _ _ A0 (@zv _ _ _ _ _ _ _ _ (@op_gt _) (@zo _ _ _ _ _ _ _ _ _ (@qe _ K rfl) rfl gb.len jP (@za _ _ _ _ _ (@pw _ 2 _ _ rfl rfl) (@zc _) rfl) (by decide) (by decide) rfl rfl) (@zf _ _ _ _) (@zG _ _ (by decide) (by decide))) (@ze _ _ _ _ _ (@zx _ _ 3 _ _ _ _ zT.nd rfl (Or.inl rfl) (@kpe_bm0 _ K _ _ _ _ _ _ _ _ Ao PySem.F.slot_list_pop PySem.F.type_list_pop (@mt_pop _) (@pw _ 2 _ _ rfl rfl) rfl rfl rfl) rfl (by walk_at "f")) (@ze _ _ _ _ _ (@qr _ _ _ _ (@ZF _ K _ _ _ _ _ _ _ _ _ _ _ Ao BZ BY (@jn _) (@pw _ 1 _ _ rfl rfl) (@za _ _ _ _ _ (@pw _ 3 _ _ rfl rfl) (@zc _) rfl) rfl rfl rfl rfl rfl rfl) rfl) (@zg _ _ _ (@zO _ _ _ _ _ _ _ _ (@Zv _ _ _ _ (@qk _ _ _ (@zw _ _ _ _ _ _ _ _ _ _ _ d_is_letter hr (by omega) rfl (@za _ _ _ _ _ (@pw _ 3 _ _ rfl rfl) (@zc _) rfl) (by decide) rfl rfl) (by intro _;rfl))) (@zg _ _ _ (@qr _ _ _ _ (@ZF _ K _ _ _ _ _ _ _ _ _ _ _ Ao PySem.F.slot_list_extend PySem.F.type_list_extend (@Je _) (@pw _ 2 _ _ rfl rfl) (@za _ _ _ _ _ (@Ws _ K _ _ _ _ _ _ rfl gb.list rfl gb.reversed (@za _ _ _ _ _ (@qm _ _ _ _ _ _ _ _ _ _ (@kslT _ K rfl) (@pw _ 3 _ _ rfl rfl) (@qQ _ _ _ (@zf _ _ _ _)) (@qP _)) (@zc _) rfl) rfl rfl rfl rfl) (@zc _) rfl) rfl rfl rfl rfl rfl rfl) rfl)) (@zq _)))))) (@zg _ _ _ (@zr _ _ _ _ (@pw _ 1 _ _ rfl rfl)))))),?_⟩
 refine⟨zh (by show 0<=1000;decide),fun pa hpa=>?_⟩
 have n1:=zd hpa (.lst [])
 refine⟨_,rfl,zh (by show 1<=1000;decide),fun wa hwa=>?_⟩
 have n2:=zd hwa (.lst [v])
 have pw:pa ≠ wa:=zF zb hwa
 refine⟨fun m σ H'=>(∃ x3,σ=[some v,some (.ref pa),some (.ref wa),x3])/\zE H H'/\∃ ps ws:List (V×Sy),H' pa=some (.lst (ps.map Prod.fst))/\H' wa=some (.lst (ws.map Prod.fst))/\SyS H ps/\SyS H ws/\ps.map Prod.snd++(ws.reverse.flatMap fun z=>z.2.sub)=s.sub/\(ws.map fun z=>z.2.sz).sum=m/\ps.length+m<=63/\ws.length<=m,⟨s.sz,⟨_,rfl⟩,n1.trans n2,[],[(v,s)],n2 _ _ zb,zb,(fun z hz=>by cases hz),(fun z hz=>by rw[AJ.mp hz];exact⟨gs,ih⟩),by simp,by simp,by simpa using h63,by have:=Sy.sz_ps s;simp;omega⟩,?_⟩
 rintro m σ H1 ⟨⟨x3,rfl⟩,s1,ps,ws,hp,hw,gp,gw,hsub,hm,h6,hwl⟩
 refine⟨_,rfl,_,_,rfl,.inl ⟨_,SqL.of hw,rfl⟩,_,_,rfl,rfl,_,rfl,?_⟩
 rw[AF]
 rcases List.eq_nil_or_concat ws with rfl | ⟨ws,z,rfl⟩
 ·refine J1 rfl ?_
  have e:ps.map Prod.snd=s.sub:=by simpa using hsub
  have hP:=(gp.same s1).paired
  rw[e] at hP
  exact⟨_,rfl,q pa _ H1 s1 hp hP⟩
 rw[List.concat_eq_append] at *
 have zl:0 < z.2.sz:=by have:=Sy.sz_ps z.2;omega
 refine Z3 (AS (by rw[AR];show (0:Int) < ((ws.length+1:Nat):Int);omega)) ?_
 rw[AU,Cp] at hm
 simp only[List.map_cons,List.map_nil,List.sum_cons,List.sum_nil,Nat.add_zero] at hm
 have hwl:ws.length+1<=m:=by simpa using hwl
 rw[List.reverse_append,List.reverse_singleton,List.singleton_append,List.flatMap_cons,Sy.sub_ps z.2] at hsub
 refine⟨fun σ' H'=>(∃ x3,σ'=[some v,some (.ref pa),some (.ref wa),x3])/\zE H H'/\∃ ps ws:List (V×Sy),H' pa=some (.lst (ps.map Prod.fst))/\H' wa=some (.lst (ws.map Prod.fst))/\SyS H ps/\SyS H ws/\ps.map Prod.snd++(ws.reverse.flatMap fun z=>z.2.sub)=s.sub/\(ws.map fun z=>z.2.sz).sum=m - 1/\ps.length+(m - 1)<=63/\ws.length<=m - 1,fun σ' H' h=>⟨m - 1,by omega,h⟩,?_⟩
 obtain⟨gz,iz⟩:=gw z (by simp)
 have gw':SyS H ws:=fun y hy=>gw y (A6 _ hy)
 refine⟨_,rfl,.inl ⟨rfl,_,SqL.of hw⟩,wa,_,z.1,rfl,rfl,hw,by simp,?_⟩
 rw[show (List.map Prod.fst (ws++[z])).dropLast=ws.map Prod.fst by rw[AU];simp]
 have hp2:(upd H1 wa (.lst (ws.map Prod.fst))) pa=some (.lst (ps.map Prod.fst)):=by rw[zt pw];exact hp
 have s2:zE H (upd H1 wa (.lst (ws.map Prod.fst))):=s1.put (n1.free hwa)
 refine⟨_,rfl,.inl ⟨rfl,_,SqL.of hp2⟩,_,rfl,pa,_,_,rfl,rfl,hp2,by rw[AF];exact zK (by omega),?_⟩
 have s3:zE H (upd (upd H1 wa (.lst (ws.map Prod.fst))) pa (.lst (ps.map Prod.fst++[z.1]))):=s2.put hpa
 have hp3:(upd (upd H1 wa (.lst (ws.map Prod.fst))) pa (.lst (ps.map Prod.fst++[z.1]))) pa=some (.lst ((ps++[z]).map Prod.fst)):=by rw[zb,AU];rfl
 have hw3:(upd (upd H1 wa (.lst (ws.map Prod.fst))) pa (.lst (ps.map Prod.fst++[z.1]))) wa=some (.lst (ws.map Prod.fst)):=by rw[zt (A3 pw)];exact zb
 generalize upd (upd H1 wa (.lst (ws.map Prod.fst))) pa (.lst (ps.map Prod.fst++[z.1]))=H3 at *
 have gp':SyS H (ps++[z]):=fun y hy=>by
  rcases Ae.mp hy with h | h
  ·exact gp y h
  ·rw[AJ.mp h]
   exact⟨gz,iz⟩
 refine⟨_,rfl,z.1,z.2,rfl,iz.same s3,gz.isl,fun H4 s4=>⟨_,rfl,?_⟩⟩
 cases hz:z.2.isL with
 | true=>
  have zp:z.2.ps=[]/\z.2.sz=1:=by
   cases hz':z.2 with
   | ltr x=>exact⟨rfl,rfl⟩
   | _=>rw[hz'] at hz;cases hz
  rw[zp.1] at hsub
  refine ZC ⟨⟨_,rfl⟩,s3.trans s4,ps++[z],ws,s4 _ _ hp3,s4 _ _ hw3,gp',gw',?_,?_,?_,?_⟩
  ·rw[<- hsub]
   simp
  ·have:=zp.2
   omega
  ·rw[AR]
   show ps.length+1+(m - 1)<=63
   omega
  ·have:=zp.2
   omega
 | false=>
  refine jN ?_
  obtain⟨t,us,ev,ht,hP⟩:=iz.node hz
  have hul:=Ac hP
  have a2:=Sy.ps_le z.2
  have ht4:=(s3.trans s4) _ _ ht
  refine⟨_,rfl,.inl ⟨rfl,_,SqL.of (s4 _ _ hw3)⟩,_,by rw[ev];rfl,_,rfl,?_⟩
  refine ZR ht4 fun t5 H5 s5 ht5=>?_
  rw[jr (by simp)] at ht5
  refine⟨t5,us,rfl,SqT.of ht5,by omega,fun l6 hl6=>?_⟩
  have n6:=zd hl6 (.lst us.reverse)
  have s6:=s4.trans (s5.trans n6)
  obtain⟨y1,y2,y3⟩:=Ww hP fun a ha=>gz.part ha
  have hw6:=s6 _ _ hw3
  refine⟨wa,l6,_,_,rfl,rfl,hw6,zb,by rw[AF,BV];exact zh (by omega),⟨⟨_,rfl⟩,(s3.trans s6).put (n1.free hwa),ps++[z],ws++(us.zip z.2.ps).reverse,?_,?_,gp',fun y hy=>?_,?_,?_,?_,?_⟩⟩
  ·rw[zt pw]
   exact s6 _ _ hp3
  ·rw[zb,AU,List.map_reverse,y2]
  ·rcases Ae.mp hy with h | h
   ·exact gw' y h
   ·exact y1 y (List.mem_reverse.mp h)
  ·rw[<- hsub,List.reverse_append,List.reverse_reverse,List.flatMap_append,AU]
   have e1:((us.zip z.2.ps).flatMap fun z=>z.2.sub)=z.2.ps.flatMap Sy.sub:=by
    rw[<- y3,List.flatMap_map]
    rw[y3]
   rw[e1]
   simp
  ·have e1:((us.zip z.2.ps).map fun z=>z.2.sz)=z.2.ps.map Sy.sz:=by
    rw[<- y3,List.map_map]
    rw[y3]
    rfl
   rw[AU,Cp,List.map_reverse,List.sum_reverse,e1]
   have:=Sy.sz_ps z.2
   omega
  ·rw[AR]
   show ps.length+1+(m - 1)<=63
   omega
  ·have e1:(us.zip z.2.ps).length=z.2.ps.length:=by rw[<- AF (f:=Prod.snd),y3]
   have e2:z.2.ps.length<=(z.2.ps.map Sy.sz).sum:=yO _ fun y=>by have:=Sy.sz_ps y;omega
   have e3:ws.length<=(ws.map fun (z:V×Sy)=>z.2.sz).sum:=yO _ fun y=>by have:=Sy.sz_ps y.2;omega
   have:=Sy.sz_ps z.2
   rw[AR,BV,e1]
   omega
abbrev qT:Stmt:=top 27
theorem js:zu ["shapes", "parts", "part"] ["shapes", "parts"] (zi qT):=⟨rfl,rfl,rfl,by decide +kernel,rfl,by decide +kernel,by decide +kernel⟩
theorem ZW {P:Program} {w:World} {K:PySem.W.Frag} {mg:Str->Option Value} {base:Heap} {f:Addr} {fd:FuncData} (F:Fun K "check_names" "check_names" qT f fd) (gb:Gb mg) {c:Nat->Addr} (cl:Cl K mg c) (d_is_letter:Def P w K mg base 2 "is_letter" ["thing"] Wv) (d_init_NoName:DefI P w K mg base 2 (c 2) "name" ["self", "name"]):qA P w K mg base (CXD P w) 4 f fd ["shapes", "parts"] (wb (c 6) (c 2)):=by
 refine F.okD js (fun vs H Q E h=>?_) (fun cdv A outer s H vs Q E hr h=>?_)
 ·obtain⟨l,us,ss,rfl,_⟩:=h
  rfl
 obtain⟨l,us,ss,rfl,hl,hP,hL,q1,q0⟩:=h
 refine⟨_,(@zg _ _ _ (@jl _ _ _ _ _ _ _ _ PassesOwn.leaving rfl (@q5 _ K _ _ _ (@pw _ 1 _ _ rfl rfl) rfl) (@pgl _ 2 _ _ js.nd rfl rfl) (@zg _ _ _ (@zO _ _ _ _ _ _ _ _ (@PW.pt _ _ _ (@Qd _ _ _ _ _ _ _ (@Zv _ _ _ _ (@qk _ _ _ (@zw _ _ _ _ _ _ _ _ _ _ _ d_is_letter hr (by omega) rfl (@za _ _ _ _ _ (@pw _ 2 _ _ rfl rfl) (@zc _) rfl) (by decide) rfl rfl) (by intro _;rfl))) (@Zu _ _ _ _ (@zv _ _ _ _ _ _ _ _ (@Wt _ K _ hr rfl) (@zB _ _ _ _ _ (@za _ _ _ _ _ (@zy _ _ _ _ _ _ _ (@zj _ K rfl) (@pw _ 2 _ _ rfl rfl) (@zf _ _ _ _) (fun _ _=>rfl)) (@za _ _ _ _ _ (@zA _ _ _ _ _ _ _ _ (@wA _) (@zo _ _ _ _ _ _ _ _ _ (@qe _ K rfl) rfl gb.len jP (@za _ _ _ _ _ (@pw _ 2 _ _ rfl rfl) (@zc _) rfl) (by decide) (by decide) rfl rfl) (@zf _ _ _ _)) (@zc _) rfl) rfl)) (@pw _ 0 _ _ rfl rfl) (by with_unfolding_all rfl))))) (@zg _ _ _ (@Jl _ _ _ _ _ _ _ _ _ _ _ _ _ _ d_init_NoName rfl cl.g_NoName cl.xi_NoName hr (by omega) rfl rfl (@ZH _ _ _ _ _ _ _ _ _ _ _ _ _ _ _) (@za _ _ _ _ _ (@zy _ _ _ _ _ _ _ (@zj _ K rfl) (@pw _ 2 _ _ rfl rfl) (@zf _ _ _ _) (fun _ _=>rfl)) (@zc _) rfl) (by decide) rfl rfl)) (@zq _))) (by intro _;rfl))),?_⟩
 obtain⟨a0,a1,a2,a3,a4,a5,a6,kt,k0,k1,k2,k3,k4,k5,k6⟩:=cl.t_SHAPES
 refine⟨_,rfl,l,rfl,⟨_,SqL.of hl⟩,?_⟩
 have hlen:=Ac hP
 refine qY (xs:=us) (fun i σ H'=>(∃ x2,σ=[some (.ref (c 6)),some (.ref l),x2])/\zE H H'/\∀ (j:Nat) (y:Sy),j < i->ss[j]? = some y->KnC y) ⟨⟨_,rfl⟩,zE.refl _,(fun j y hj=>absurd hj (Bb _))⟩ (fun i σ H' _ h=>SqL.of (h.2.1 _ _ hl)) ?_ (fun σ H' h=>q1 (fun s hs=>by obtain⟨j,hj⟩:=BL.mp hs;exact h.2.2 j s (by have:=(AD.mp hj).1;omega) hj) H' h.2.1)
 rintro i x σ H1 hx ⟨⟨x2,rfl⟩,s1,kn⟩
 have hi:=(AD.mp hx).1
 have hsi:ss[i]? = some ss[i]:=AE (by omega)
 generalize ss[i]=z at hsi
 have iz:=Paired.at hP i _ _ hsi hx
 have kn1:KnC z->∀ (j:Nat) (y:Sy),j < i+1->ss[j]? = some y->KnC y:=fun h j y hj hy=>by
  rcases BR j i with e | e
  ·exact kn j y e hy
  ·have:j=i:=by omega
   rw[this,hsi] at hy
   rw[<- AO hy]
   exact h
 refine⟨_,rfl,x,z,rfl,iz.same s1,hL z (AH hsi),fun H2 s2=>⟨_,rfl,?_⟩⟩
 cases hs:z.isL with
 | true=>exact⟨⟨_,rfl⟩,s1.trans s2,kn1 (.inl hs)⟩
 | false=>
  obtain⟨t,us2,ev,ht,hP2⟩:=iz.node hs
  have hul:=Ac hP2
  have ht2:=s2 _ _ (s1 _ _ ht)
  rw[ev]
  refine⟨_,rfl,.inr (.inl ⟨t,_,_,_,rfl,rfl,SqT.of ht2,at0,_,rfl,_,_,rfl,.inr ⟨_,SqT.of ht2,rfl⟩,_,_,rfl,rfl,zh (by show 2<=1000;decide),fun t3 ht3=>?_⟩)⟩
  have el:V.int (((.str z.nm :: us2:List V).length:Int) - 1)=.int ((z.ps.length:Nat):Int):=by
   rw[Ay,<- hul]
   show V.int _=V.int _
   congr 1
   omega
  dsimp only
  rw[el]
  have n3:=zd ht3 (.tup [.str z.nm,.int ((z.ps.length:Nat):Int)])
  have S3:=s1.trans (s2.trans n3)
  refine⟨_,rfl,t3,c 6,_,_,jW,rfl,rfl,SqT.of zb,rfl,kt.sq,.cons ⟨a0,rfl,k0.sq,rfl,rfl⟩ (.cons ⟨a1,rfl,k1.sq,rfl,rfl⟩ (.cons ⟨a2,rfl,k2.sq,rfl,rfl⟩ (.cons ⟨a3,rfl,k3.sq,rfl,rfl⟩ (.cons ⟨a4,rfl,k4.sq,rfl,rfl⟩ (.cons ⟨a5,rfl,k5.sq,rfl,rfl⟩ (.cons ⟨a6,rfl,k6.sq,rfl,rfl⟩ .nil)))))),?_⟩
  by_cases hz:KnC z
  ·obtain⟨nm7,ar⟩:=hz.elim (fun e=>by rw[hs] at e;cases e) id
   rw[ar,shape_in nm7]
   exact⟨_,rfl,⟨⟨_,rfl⟩,by rw[<- ar];exact S3,kn1 hz⟩⟩
  ·have en:(jW.any fun c=>Q2 c [.str z.nm,.int ((z.ps.length:Nat):Int)])=false:=by
    cases e:jW.any fun c=>Q2 c [.str z.nm,.int ((z.ps.length:Nat):Int)] with
    | false=>rfl
    | true=>exact absurd (.inr (yR e)) hz
   rw[en]
   refine⟨_,rfl,?_⟩
   have ht4:=n3 _ _ ht2
   refine jN ⟨_,rfl,.inr (.inl ⟨t,_,_,_,rfl,rfl,SqT.of ht4,at0,.str z.nm,rfl,fun d hd=>?_⟩)⟩
   exact q0 z.nm ⟨i,z,hsi,kn,hz,rfl⟩ d _ S3 hd
abbrev qy:Stmt:=top 28
theorem qW:zu ["parts", "known", "part"] ["parts", "known"] (zi qy):=⟨rfl,rfl,rfl,by decide +kernel,rfl,by decide +kernel,by decide +kernel⟩
theorem Zb {P:Program} {w:World} {K:PySem.W.Frag} {mg:Str->Option Value} {base:Heap} {f:Addr} {fd:FuncData} (F:Fun K "check_letters" "check_letters" qy f fd) (gb:Gb mg) {c:Nat->Addr} (cl:Cl K mg c) (d_is_letter:Def P w K mg base 2 "is_letter" ["thing"] Wv) (d_init_NoLetter:DefI P w K mg base 2 (c 4) "letter" ["self", "letter"]):qA P w K mg base (CXD P w) 4 f fd ["parts", "known"] (wc K (c 4)):=by
 refine F.okD qW (fun vs H Q E h=>?_) (fun cdv A outer s H vs Q E hr h=>?_)
 ·obtain⟨l,g,us,ss,ρ,M,rfl,_⟩:=h
  rfl
 obtain⟨l,g,us,ss,ρ,M,rfl,hl,hP,hL,ig,q1,q0⟩:=h
 refine⟨_,(@zg _ _ _ (@jl _ _ _ _ _ _ _ _ PassesOwn.leaving rfl (@q5 _ K _ _ _ (@pw _ 0 _ _ rfl rfl) rfl) (@pgl _ 2 _ _ qW.nd rfl rfl) (@zg _ _ _ (@zO _ _ _ _ _ _ _ _ (@PW.pt _ _ _ (@Qd _ _ _ _ _ _ _ (@qk _ _ _ (@zw _ _ _ _ _ _ _ _ _ _ _ d_is_letter hr (by omega) rfl (@za _ _ _ _ _ (@pw _ 2 _ _ rfl rfl) (@zc _) rfl) (by decide) rfl rfl) (by intro _;rfl)) (@Zu _ _ _ _ (@zv _ _ _ _ _ _ _ _ (@yG _ _ hr) (@pw _ 2 _ _ rfl rfl) (@pw _ 1 _ _ rfl rfl) (by with_unfolding_all rfl))))) (@zg _ _ _ (@Jl _ _ _ _ _ _ _ _ _ _ _ _ _ _ d_init_NoLetter rfl cl.g_NoLetter cl.xi_NoLetter hr (by omega) rfl rfl (@ZH _ _ _ _ _ _ _ _ _ _ _ _ _ _ _) (@za _ _ _ _ _ (@pw _ 2 _ _ rfl rfl) (@zc _) rfl) (by decide) rfl rfl)) (@zq _))) (by intro _;rfl))),?_⟩
 refine⟨_,rfl,l,rfl,⟨_,SqL.of hl⟩,?_⟩
 have hlen:=Ac hP
 refine qY (xs:=us) (fun i σ H'=>(∃ x2,σ=[some (.ref l),some (.ref g),x2])/\zE H H'/\∀ (j:Nat) (y:Sy),j < i->ss[j]? = some y->KnL M y) ⟨⟨_,rfl⟩,zE.refl _,(fun j y hj=>absurd hj (Bb _))⟩ (fun i σ H' _ h=>SqL.of (h.2.1 _ _ hl)) ?_ (fun σ H' h=>q1 (fun s hs=>by obtain⟨j,hj⟩:=BL.mp hs;exact h.2.2 j s (by have:=(AD.mp hj).1;omega) hj) H' h.2.1)
 rintro i x σ H1 hx ⟨⟨x2,rfl⟩,s1,kn⟩
 have hi:=(AD.mp hx).1
 have hsi:ss[i]? = some ss[i]:=AE (by omega)
 generalize ss[i]=z at hsi
 have iz:=Paired.at hP i _ _ hsi hx
 have kn1:KnL M z->∀ (j:Nat) (y:Sy),j < i+1->ss[j]? = some y->KnL M y:=fun h j y hj hy=>by
  rcases BR j i with e | e
  ·exact kn j y e hy
  ·have:j=i:=by omega
   rw[this,hsi] at hy
   rw[<- AO hy]
   exact h
 refine⟨_,rfl,x,z,rfl,iz.same s1,hL z (AH hsi),fun H2 s2=>⟨_,rfl,?_⟩⟩
 cases hs:z.isL with
 | false=>exact⟨⟨_,rfl⟩,s1.trans s2,kn1 (fun e=>by rw[hs] at e;cases e)⟩
 | true=>
  have ev:=iz.letter hs
  rw[ev]
  have S2:=s1.trans s2
  by_cases hz:z.nm ∈ M
  ·obtain⟨kvs,hk,hv⟩:=ig.gr.dk
   obtain⟨v,e,_⟩:=hv _ hz
   refine⟨_,rfl,_,rfl,g,kvs,Sum.inr z.nm,rfl,rfl,S2 _ _ hk,?_⟩
   rw[e]
   exact⟨_,rfl,⟨⟨_,rfl⟩,S2,kn1 fun _=>hz⟩⟩
  ·obtain⟨kvs,hk,hv⟩:=ig.no
   refine⟨_,rfl,_,rfl,g,kvs,Sum.inr z.nm,rfl,rfl,S2 _ _ hk,?_⟩
   rw[hv _ hz]
   refine⟨_,rfl,?_⟩
   refine jN ⟨_,rfl,.str z.nm,rfl,fun d hd=>?_⟩
   exact q0 z.nm ⟨i,z,hsi,kn,fun h=>hz (h hs),rfl⟩ d _ S2 hd
abbrev jJ:Stmt:=top 34
theorem jt:zu ["kind", "S", "grading", "parts", "told"] ["kind", "S", "grading"] (zi jJ):=⟨rfl,rfl,rfl,by decide +kernel,rfl,by decide +kernel,by decide +kernel⟩
theorem JG {P:Program} {w:World} {K:PySem.W.Frag} {mg:Str->Option Value} {base:Heap} {f:Addr} {fd:FuncData} (F:Fun K "grade_by" "grade_by" jJ f fd) (gb:Gb mg) {c:Nat->Addr} (cl:Cl K mg c) (d_check_kindX:Jj P w K mg base 1 "check_kind" ["kind"] (yP (c 3))) (d_written_partsX:Def P w K mg base 3 "written_parts" ["S"] yQ) (d_check_namesX:Jj P w K mg base 4 "check_names" ["shapes", "parts"] (wb (c 6) (c 2))) (d_check_lettersX:Jj P w K mg base 4 "check_letters" ["parts", "known"] (wc K (c 4))) (d_graded:Def P w K mg base 12 "graded" ["kind", "S", "grading"] ((Zp K) 6)):qA P w K mg base (CXD P w) 13 f fd ["kind", "S", "grading"] (spGBX K (c 2) (c 3) (c 4)):=by
 refine F.okD jt (fun vs H Q E h=>?_) (fun cdv A outer s H vs Q E hr h=>?_)
 ·obtain⟨t,kv,v,s,g,ρ,M,rfl,_⟩:=h
  rfl
 obtain⟨t,kv,v,s,g,ρ,M,rfl,ik,ih,lt,d5,ig,hM,q3,q2,q4,q1⟩:=h
 refine⟨_,(@ze _ _ _ _ _ (@qr _ _ _ _ (@QD _ _ _ _ _ _ _ _ _ _ _ _ d_check_kindX hr (by omega) rfl (@passD _ _ _ _ _ _ _ _ _ _ _ _ _ _ _ _ (fun _ _ _ z=>z)) (@za _ _ _ _ _ (@pw _ 0 _ _ rfl rfl) (@zc _) rfl) (by decide) rfl rfl) rfl) (@ze _ _ _ _ _ (@zx _ _ 3 _ _ _ _ jt.nd rfl (Or.inl rfl) (@zw _ _ _ _ _ _ _ _ _ _ _ d_written_partsX hr (by omega) rfl (@za _ _ _ _ _ (@pw _ 1 _ _ rfl rfl) (@zc _) rfl) (by decide) rfl rfl) rfl (by walk_at "f")) (@ze _ _ _ _ _ (@qr _ _ _ _ (@QD _ _ _ _ _ _ _ _ _ _ _ _ d_check_namesX hr (by omega) rfl (@passD _ _ _ _ _ _ _ _ _ _ _ _ _ _ _ _ (fun _ _ _ z=>z)) (@za _ _ _ _ _ (@zM _ _ (.ref _) _ _ rfl cl.g_SHAPES rfl (by decide)) (@za _ _ _ _ _ (@pw _ 3 _ _ rfl rfl) (@zc _) rfl) rfl) (by decide) rfl rfl) rfl) (@ze _ _ _ _ _ (@qr _ _ _ _ (@QD _ _ _ _ _ _ _ _ _ _ _ _ d_check_lettersX hr (by omega) rfl (@passD _ _ _ _ _ _ _ _ _ _ _ _ _ _ _ _ (fun _ _ _ z=>z)) (@za _ _ _ _ _ (@pw _ 3 _ _ rfl rfl) (@za _ _ _ _ _ (@pw _ 2 _ _ rfl rfl) (@zc _) rfl) rfl) (by decide) rfl rfl) rfl) (@ze _ _ _ _ _ (@zx _ _ 4 _ _ _ _ jt.nd rfl (Or.inl rfl) (@zw _ _ _ _ _ _ _ _ _ _ _ d_graded hr (by omega) rfl (@za _ _ _ _ _ (@pw _ 0 _ _ rfl rfl) (@za _ _ _ _ _ (@pw _ 1 _ _ rfl rfl) (@za _ _ _ _ _ (@pw _ 2 _ _ rfl rfl) (@zc _) rfl) rfl) rfl) (by decide) rfl rfl) rfl (by walk_at "f")) (@zg _ _ _ (@zr _ _ _ _ (@zB _ _ _ _ _ (@za _ _ _ _ _ (@zy _ _ _ _ _ _ _ (@zj _ K rfl) (@pw _ 4 _ _ rfl rfl) (@zf _ _ _ _) (fun _ _=>rfl)) (@za _ _ _ _ _ (@zy _ _ _ _ _ _ _ (@zj _ K rfl) (@pw _ 4 _ _ rfl rfl) (@zf _ _ _ _) (fun _ _=>rfl)) (@zc _) rfl) rfl))))))))),?_⟩
 have hsz:s.sz<=63:=by
  have h1:=Sy.sz_dp s
  have h2:2 ^ (s.dp+1)<=2 ^ 6:=BO (by decide) (by omega)
  omega
 refine⟨_,rfl,t,kv,rfl,ik,fun kb=>q3 kb H (zE.refl H),fun kb=>?_⟩
 refine⟨_,rfl,v,s,rfl,ih,lt,hsz,fun l us H1 s1 hl hP=>?_⟩
 have hlt:∀ y ∈ s.sub,y.isL=true->Ltr y.nm:=fun y hy h=>(jY.sub lt hy).isl h
 refine⟨_,rfl,l,us,s.sub,rfl,hl,hP,hlt,fun kn H2 s2=>?_,fun nm hb d H' s' hd=>q2 kb nm hb d H' (s1.trans s') hd⟩
 refine⟨_,rfl,_,rfl,l,g,us,s.sub,ρ,M,rfl,s2 _ _ hl,Paired.mapP hP fun _ _ h=>h.same s2,hlt,ig.same (s1.trans s2),fun kl H3 s3=>?_,fun x hb d H' s' hd=>q4 kb kn x hb d H' (s1.trans (s2.trans s')) hd⟩
 have S3:=s1.trans (s2.trans s3)
 obtain⟨k,ek,kd⟩:∃ k,t=.str k/\Kd k:=kind_of kb
 subst ek
 cases ik
 refine⟨_,rfl,_,rfl,_,rfl,k,v,s,g,M,ρ,rfl,kd,ih.same S3,gs_of kn kl,hM,ig.gr.same S3,d5,d5,fun u H4 s4 f4=>?_⟩
 obtain⟨p,rfl,hp,sx,sy'⟩:=f4
 refine⟨_,rfl,.inr (.inl ⟨p,_,0,_,rfl,rfl,hp,rfl,_,rfl,.inr (.inl ⟨p,_,1,_,rfl,rfl,hp,rfl,zh (by show 2<=1000;decide),fun t ht=>?_⟩)⟩)⟩
 exact q1 kb kn kl t _ _ _ (S3.trans (s4.trans (zd ht _))) zb
abbrev jK:Stmt:=top 43
theorem zS:zu ["_law_cell", "_law_sizes", "_law_found", "_law_size", "_law_seed"] ["_law_cell", "_law_sizes"] (zi jK):=⟨rfl,rfl,rfl,by decide +kernel,rfl,by decide +kernel,by decide +kernel⟩
theorem JH {P:Program} {w:World} {K:PySem.W.Frag} {mg:Str->Option Value} {base:Heap} {f:Addr} {fd:FuncData} (F:Fun K "_law_parts" "_law_parts" jK f fd) (gb:Gb mg) {c:Nat->Addr} (cl:Cl K mg c):qA P w K mg base CX0 1 f fd ["_law_cell", "_law_sizes"] wd:=by
 refine F.ok zS (fun vs H Q E h=>?_) (fun cdv A outer s H vs Q E hr h=>?_)
 ·obtain⟨c,sz,ns,rfl,_⟩:=h
  rfl
 obtain⟨c,sz,ns,rfl,hs,hl,hn,q⟩:=h
 refine⟨_,(@ze _ _ _ _ _ (@zx _ _ 2 _ _ _ _ zS.nd rfl (Or.inl rfl) (@zW _ _ _ _ (@zc _)) rfl (by walk_at "f")) (@ze _ _ _ _ _ (@zO _ _ _ _ _ _ _ _ (@PW.pt _ _ _ (@pw_or _ _ _ _ _ _ _ (@zv _ _ _ _ _ _ _ _ (@op_lt _) (@pw _ 0 _ _ rfl rfl) (@zf _ _ _ _) (@zG _ _ (by decide) (by decide))) (@ww _ _ _ _ (@zv _ _ _ _ _ _ _ _ (@op_ge _) (@pw _ 0 _ _ rfl rfl) (@zA _ _ _ _ _ _ _ _ (@op_pow _) (@zf _ _ _ _) (@zf _ _ _ _)) (@zG _ _ (by decide) (by decide)))))) (@ze _ _ _ _ _ (@jl _ _ _ _ _ _ _ _ A0 rfl (@q5 _ K _ _ _ (@pw _ 1 _ _ rfl rfl) rfl) (@pgl _ 3 _ _ zS.nd rfl rfl) (@ze _ _ _ _ _ (@qr _ _ _ _ (@ZF _ K _ _ _ _ _ _ _ _ _ _ _ Ao BZ BY (@jn _) (@pw _ 2 _ _ rfl rfl) (@za _ _ _ _ _ (@zA _ _ _ _ _ _ _ _ (@qV _) (@pw _ 0 _ _ rfl rfl) (@pw _ 3 _ _ rfl rfl)) (@zc _) rfl) rfl rfl rfl rfl rfl rfl) rfl) (@zg _ _ _ (@zx _ _ 0 _ _ _ _ zS.nd rfl (Or.inl rfl) (@zA _ _ _ _ _ _ _ _ (@Qt _) (@pw _ 0 _ _ rfl rfl) (@pw _ 3 _ _ rfl rfl)) rfl (by walk_at "f")))) (by intro _;rfl)) (@zg _ _ _ (@zr _ _ _ _ (@pw _ 2 _ _ rfl rfl)))) (@zq _)) (@ze _ _ _ _ _ (@zx _ _ 4 _ _ _ _ zS.nd rfl (Or.inl rfl) (@zA _ _ _ _ _ _ _ _ (@jO _) (@zA _ _ _ _ _ _ _ _ (@qV _) (@pw _ 0 _ _ rfl rfl) (@zf _ _ _ _)) (@zf _ _ _ _)) rfl (by walk_at "f")) (@ze _ _ _ _ _ (@jl _ _ _ _ _ _ _ _ A0 rfl (@q5 _ K _ _ _ (@pw _ 1 _ _ rfl rfl) rfl) (@pgl _ 3 _ _ zS.nd rfl rfl) (@ze _ _ _ _ _ (@zx _ _ 4 _ _ _ _ zS.nd rfl (Or.inl rfl) (@zA _ _ _ _ _ _ _ _ (@qV _) (@zA _ _ _ _ _ _ _ _ (@jO _) (@zA _ _ _ _ _ _ _ _ (@WN _) (@pw _ 4 _ _ rfl rfl) (@zf _ _ _ _)) (@zf _ _ _ _)) (@zf _ _ _ _)) rfl (by walk_at "f")) (@zg _ _ _ (@qr _ _ _ _ (@ZF _ K _ _ _ _ _ _ _ _ _ _ _ Ao BZ BY (@jn _) (@pw _ 2 _ _ rfl rfl) (@za _ _ _ _ _ (@zA _ _ _ _ _ _ _ _ (@qV _) (@zA _ _ _ _ _ _ _ _ (@Qt _) (@zA _ _ _ _ _ _ _ _ (@qV _) (@zA _ _ _ _ _ _ _ _ (@WN _) (@pw _ 4 _ _ rfl rfl) (@zf _ _ _ _)) (@zf _ _ _ _)) (@zf _ _ _ _)) (@pw _ 3 _ _ rfl rfl)) (@zc _) rfl) rfl rfl rfl rfl rfl rfl) rfl))) (by intro _;rfl)) (@zg _ _ _ (@zr _ _ _ _ (@pw _ 2 _ _ rfl rfl))))))),?_⟩
 refine⟨zh (by show 0<=1000;decide),fun fd hfd=>?_⟩
 have n1:=zd hfd (.lst [])
 refine⟨_,rfl,_,_,rfl,rfl,_,rfl,W0 (fun c1=>?_) (fun c1=>?_)⟩
 ·refine⟨_,rfl,sz,rfl,⟨_,SqL.of (n1 _ _ hs)⟩,?_⟩
  refine qY (xs:=ns.map nV) (fun i σ H'=>∃ (cc:Int) (x3 x4:Option V) (fs:List Nat),σ=[some (.int cc),some (.ref sz),some (.ref fd),x3,x4]/\zE H H'/\H' fd=some (.lst (fs.map nV))/\fs.length=i/\(∀ (j n f:Nat),ns[j]? = some n->fs[j]? = some f->f < n)) ⟨c,none,none,[],rfl,n1,zb,rfl,fun j n f _ h=>by simp at h⟩ (fun i σ H' _ h=>by obtain⟨_,_,_,_,_,s1,_⟩:=h;exact SqL.of (s1 _ _ hs)) ?_ ?_
  ·rintro i x σ H1 hx ⟨cc,x3,x4,fs,rfl,s1,hf,fl,hlt⟩
   rw[An] at hx
   obtain⟨n,hni,rfl⟩:=Ar.mp hx
   have hi:=(AD.mp hni).1
   obtain⟨n1',n9⟩:=hn n (AH hni)
   have e0:=BF cc (show (n:Int) ≠ 0 by omega)
   have l0:=Bw cc (show (0:Int) < n by omega)
   refine⟨_,rfl,.inl ⟨rfl,_,SqL.of hf⟩,_,rfl,_,rfl,_,_,rfl,rfl,(by omega),fd,_,_,rfl,rfl,hf,by rw[AF];exact zK (by omega),?_⟩
   refine⟨_,rfl,_,rfl,_,_,rfl,rfl,⟨by omega,by omega⟩,cc / n,_,_,fs++[(cc % n).toNat],rfl,s1.put hfd,?_,by rw[AR,fl];rfl,we hlt (by rw[fl];exact hni) (by omega)⟩
   rw[zb,AU]
   show some (HO.lst (_++[V.int (cc % (n:Int))]))=some (.lst (_++[V.int (((cc % (n:Int)).toNat:Nat):Int)]))
   rw[Bp e0]
  ·rintro σ H1 ⟨cc,x3,x4,fs,rfl,s1,hf,fl,hlt⟩
   rw[AF] at fl
   exact⟨_,rfl,q fd fs H1 s1 hf fl hlt⟩
 ·walk_at "rd"
  refine W0 (fun c2=>?_) (fun c2=>?_)
  ·refine⟨_,rfl,sz,rfl,⟨_,SqL.of (n1 _ _ hs)⟩,?_⟩
   refine qY (xs:=ns.map nV) (fun i σ H'=>∃ (cc:Int) (x3 x4:Option V) (fs:List Nat),σ=[some (.int cc),some (.ref sz),some (.ref fd),x3,x4]/\zE H H'/\H' fd=some (.lst (fs.map nV))/\fs.length=i/\(∀ (j n f:Nat),ns[j]? = some n->fs[j]? = some f->f < n)) ⟨c,none,none,[],rfl,n1,zb,rfl,fun j n f _ h=>by simp at h⟩ (fun i σ H' _ h=>by obtain⟨_,_,_,_,_,s1,_⟩:=h;exact SqL.of (s1 _ _ hs)) ?_ ?_
   ·rintro i x σ H1 hx ⟨cc,x3,x4,fs,rfl,s1,hf,fl,hlt⟩
    rw[An] at hx
    obtain⟨n,hni,rfl⟩:=Ar.mp hx
    have hi:=(AD.mp hni).1
    obtain⟨n1',n9⟩:=hn n (AH hni)
    have e0:=BF cc (show (n:Int) ≠ 0 by omega)
    have l0:=Bw cc (show (0:Int) < n by omega)
    refine⟨_,rfl,.inl ⟨rfl,_,SqL.of hf⟩,_,rfl,_,rfl,_,_,rfl,rfl,(by omega),fd,_,_,rfl,rfl,hf,by rw[AF];exact zK (by omega),?_⟩
    refine⟨_,rfl,_,rfl,_,_,rfl,rfl,⟨by omega,by omega⟩,cc / n,_,_,fs++[(cc % n).toNat],rfl,s1.put hfd,?_,by rw[AR,fl];rfl,we hlt (by rw[fl];exact hni) (by omega)⟩
    rw[zb,AU]
    show some (HO.lst (_++[V.int (cc % (n:Int))]))=some (.lst (_++[V.int (((cc % (n:Int)).toNat:Nat):Int)]))
    rw[Bp e0]
   ·rintro σ H1 ⟨cc,x3,x4,fs,rfl,s1,hf,fl,hlt⟩
    rw[AF] at fl
    exact⟨_,rfl,q fd fs H1 s1 hf fl hlt⟩
  ·refine⟨_,rfl,_,_,rfl,rfl,(show (0:Int) < 2147483629 by decide),_,_,rfl,rfl,?_⟩
   refine⟨_,rfl,sz,rfl,⟨_,SqL.of (n1 _ _ hs)⟩,?_⟩
   refine qY (xs:=ns.map nV) (fun i σ H'=>∃ (sd:Int) (x3:Option V) (fs:List Nat),σ=[some (.int c),some (.ref sz),some (.ref fd),x3,some (.int sd)]/\0<=sd/\zE H H'/\H' fd=some (.lst (fs.map nV))/\fs.length=i/\(∀ (j n f:Nat),ns[j]? = some n->fs[j]? = some f->f < n)) ⟨_,none,[],rfl,by have:=BF c (show (2147483629:Int) ≠ 0 by decide);omega,n1,zb,rfl,fun j n f _ h=>by simp at h⟩ (fun i σ H' _ h=>by obtain⟨_,_,_,_,_,s1,_⟩:=h;exact SqL.of (s1 _ _ hs)) ?_ ?_
   ·rintro i x σ H1 hx ⟨sd,x3,fs,rfl,sd0,s1,hf,fl,hlt⟩
    rw[An] at hx
    obtain⟨n,hni,rfl⟩:=Ar.mp hx
    have hi:=(AD.mp hni).1
    obtain⟨n1',n9⟩:=hn n (AH hni)
    refine⟨_,rfl,_,_,rfl,rfl,.inr ⟨by omega,by omega⟩,_,_,rfl,rfl,_,_,rfl,rfl,(by omega),?_⟩
    dsimp only
    have e1:=BF (sd * 69069+12345) (show (2147483587:Int) ≠ 0 by decide)
    generalize (sd * 69069+12345) % 2147483587=sd2 at e1
    have e2:=BF (sd2 * 40503) (show (2147483563:Int) ≠ 0 by decide)
    refine⟨_,rfl,.inl ⟨rfl,_,SqL.of hf⟩,_,rfl,_,_,rfl,rfl,.inr ⟨by omega,by omega⟩,_,_,rfl,rfl,(by omega),_,_,rfl,rfl,⟨by omega,by omega⟩,_,rfl,_,_,rfl,rfl,(by omega),fd,_,_,rfl,rfl,hf,by rw[AF];exact zK (by omega),?_⟩
    dsimp only
    generalize sd2 * 40503 % 2147483563 / 11=sd3
    have e0:=BF sd3 (show (n:Int) ≠ 0 by omega)
    have l0:=Bw sd3 (show (0:Int) < n by omega)
    refine⟨sd2,_,fs++[(sd3 % n).toNat],rfl,e1,s1.put hfd,?_,by rw[AR,fl];rfl,we hlt (by rw[fl];exact hni) (by omega)⟩
    rw[zb,AU]
    show some (HO.lst (_++[V.int (sd3 % (n:Int))]))=some (.lst (_++[V.int (((sd3 % (n:Int)).toNat:Nat):Int)]))
    rw[Bp e0]
   ·rintro σ H1 ⟨sd,x3,fs,rfl,sd0,s1,hf,fl,hlt⟩
    rw[AF] at fl
    exact⟨_,rfl,q fd fs H1 s1 hf fl hlt⟩
abbrev qC:Stmt:=top 45
theorem zX:zu ["_law_xs", "_law_many", "_law_alphabet", "_law_found", "_law_k", "_law_rest"] ["_law_xs", "_law_many"] (zi qC):=⟨rfl,rfl,rfl,by decide +kernel,rfl,by decide +kernel,by decide +kernel⟩
theorem Qc {P:Program} {w:World} {K:PySem.W.Frag} {mg:Str->Option Value} {base:Heap} {f:Addr} {fd:FuncData} (F:Fun K "_law_letters" "_law_letters" qC f fd) (gb:Gb mg) {c:Nat->Addr} (cl:Cl K mg c):qA P w K mg base CX0 1 f fd ["_law_xs", "_law_many"] ZT:=by
 refine F.ok zX (fun vs H Q E h=>?_) (fun cdv A outer s H vs Q E hr h=>?_)
 ·obtain⟨l,fs,m,rfl,_⟩:=h
  rfl
 obtain⟨l,fs,m,rfl,hl,hm,m6,q⟩:=h
 have nd0:(["_law_sign", "_law_found"]:List Str).Nodup:=by decide +kernel
 refine⟨_,(@ze _ _ _ _ _ (@zx _ _ 2 _ _ _ _ zX.nd rfl (Or.inl rfl) (@zm _ _ _ _) rfl (by walk_at "f")) (@ze _ _ _ _ _ (@zx _ _ 3 _ _ _ _ zX.nd rfl (Or.inr rfl) (@zW _ _ _ _ (@zc _)) rfl (by walk_at "f")) (@ze _ _ _ _ _ (@jl _ _ _ _ _ _ _ _ A0 rfl (@Zw _ _ _ _ _ _ rfl gb.range (@za _ _ _ _ _ (@pw _ 1 _ _ rfl rfl) (@zc _) rfl) rfl) (@pgl _ 4 _ _ zX.nd rfl rfl) (@ze _ _ _ _ _ (@Wh _ ["_law_sign", "_law_found"] [none,some 3] _ 5 _ _ _ _ _ _ _ _ _ _ _ _ (by exact (show qH ["_law_xs", "_law_many", "_law_alphabet", "_law_found", "_law_k", "_law_rest"] (zi qC) ["_law_sign", "_law_found"] [none,some 3] _ from⟨rfl,by decide +kernel,by decide +kernel,by decide +kernel,by decide +kernel,rfl,by decide +kernel⟩)) rfl (@pi_str _ _ _ _ (@pw _ 2 _ _ rfl rfl)) (fun _ _ _ _=>(@pgl _ 0 _ _ nd0 rfl rfl)) (fun _ _ _ _=>(@pf_one _ _ _ (@zv _ _ _ _ _ _ _ _ (@jQ _ K rfl) (@pw _ 0 _ _ rfl rfl) (@pw _ 1 _ _ rfl rfl) (by with_unfolding_all rfl)))) (fun _ _ _ _=>(@pw _ 0 _ _ rfl rfl)) zX.nd rfl rfl rfl (by intro _;rfl)) (@zg _ _ _ (@qr _ _ _ _ (@ZF _ K _ _ _ _ _ _ _ _ _ _ _ Ao BZ BY (@jn _) (@pw _ 3 _ _ rfl rfl) (@za _ _ _ _ _ (@zy _ _ _ _ _ _ _ (@zj _ K rfl) (@pw _ 5 _ _ rfl rfl) (@zA _ _ _ _ _ _ _ _ (@qV _) (@zy _ _ _ _ _ _ _ (@zj _ K rfl) (@pw _ 0 _ _ rfl rfl) (@pw _ 4 _ _ rfl rfl) (fun _ _=>rfl)) (@zo _ _ _ _ _ _ _ _ _ (@qe _ K rfl) rfl gb.len jP (@za _ _ _ _ _ (@pw _ 5 _ _ rfl rfl) (@zc _) rfl) (by decide) (by decide) rfl rfl)) (fun _ _=>rfl)) (@zc _) rfl) rfl rfl rfl rfl rfl rfl) rfl))) (by intro _;rfl)) (@zg _ _ _ (@zr _ _ _ _ (@pw _ 3 _ _ rfl rfl)))))),?_⟩
 refine⟨zh (by show 0<=1000;decide),fun fd hfd=>?_⟩
 have n1:=zd hfd (.lst [])
 refine⟨_,rfl,(m:Int),rfl,by omega,by omega,?_⟩
 rw[B1]
 refine Zx (fun i σ H'=>∃ (x4 x5:Option V) (cs:List Nat),σ=[some (.ref l),some (nV m),some (.str yV),some (.ref fd),x4,x5]/\zE H H'/\H' fd=some (.lst (cs.map fun c=>V.str (sgn c)))/\cs.length=i/\∀ c ∈ cs,Lcod c) ⟨none,none,[],rfl,n1,zb,rfl,fun c h=>by cases h⟩ ?_ ?_
 ·rintro i σ H1 hi ⟨x4,x5,cs,rfl,s1,hf,cl',hc⟩
  refine⟨_,rfl,yV,rfl,fun D hD=>?_⟩
  refine wH (fun j ys H'=>zE H1 H'/\ys=((AL.take j).filter fun c=>!decide (c ∈ cs)).map (fun c=>V.str (sgn c))/\ys.length<=j) ⟨zd hD _,rfl,AG _⟩ ?_ ?_
  ·rintro j ys H2 c hc2 ⟨s2,rfl,yl⟩ hD2
   have hcA:AL[j]? = some c:=by
    rw[<- wf]
    simpa using hc2
   have hj:j < yV.cps.size:=(Cv.mp hc2).1
   have j26:j < 26:=hj
   refine⟨_,rfl,_,rfl,fd,_,rfl,.inl (SqL.of (s2 _ _ hf)),rfl,flat_sgn cs,_,rfl,?_⟩
   dsimp only
   rw[if_pos rfl]
   rw[show inV (V.str (Str.mk #[c])) (cs.map fun c=>V.str (sgn c))=decide (c ∈ cs) from in_sgn c cs]
   by_cases hm:c ∈ cs
   ·rw[AS hm]
    refine ZC (cno hj Wi hD2 ⟨s2,?_,by omega⟩)
    rw[take_snoc hcA,List.filter_append,AU]
    simp[hm]
   ·rw[AQ hm]
    refine jN ⟨_,rfl,cyes hj Wi hD2 (zK (by omega)) ⟨s2.put hD,?_,by rw[AR];exact Ck yl⟩⟩
    rw[take_snoc hcA,List.filter_append,AU]
    simp[hm]
    rfl
  ·rintro ys H2 ⟨s2,rfl,yl⟩ hD2
   rw[show AL.take yV.cps.size=AL from rfl] at hD2 yl
   generalize hR:AL.filter (fun c=>!decide (c ∈ cs))=R at hD2 yl
   rw[AF] at yl
   have rp:0 < R.length:=by
    obtain⟨c,h1,h2⟩:=wg (cs:=cs) (by omega)
    rw[<- hR]
    exact List.length_pos_of_mem (BK.mpr ⟨h1,by rw[AQ h2];rfl⟩)
   have rc:∀ c ∈ R,Lcod c:=fun c h=>by
    rw[<- hR] at h
    obtain⟨k,hk,rfl⟩:=BS.mp (BK.mp h).1
    have:=Bf.mp hk
    exact⟨by omega,by omega⟩
   have hlt:=CF (fs.getD i 0) rp
   have hx:R[fs.getD i 0 % R.length]? = some R[fs.getD i 0 % R.length]:=AE hlt
   have hxc:=rc _ (AH hx)
   generalize R[fs.getD i 0 % R.length]=cx at hx hxc
   have ef:atI (fs.map nV) (0+(i:Int))=some (nV (fs.getD i 0)):=by rw[Int.zero_add];exact yU (by omega)
   have er:atI (R.map fun c=>V.str (sgn c)) (((fs.getD i 0:Nat):Int) % ((R.map fun c=>V.str (sgn c)).length:Int))=some (.str (sgn cx)):=by
    rw[AF,<- BU]
    exact QT hx
   have hf2:=s2 _ _ hf
   refine⟨_,rfl,.inl ⟨rfl,_,SqL.of hf2⟩,_,rfl,_,rfl,_,rfl,.inl ⟨l,_,_,_,rfl,rfl,SqL.of (s2 _ _ (s1 _ _ hl)),ef,?_⟩⟩
   refine⟨_,rfl,_,_,rfl,.inl ⟨_,SqL.of hD2,rfl⟩,_,_,rfl,rfl,(by rw[AF];omega),.inl ⟨D,_,_,_,rfl,rfl,SqL.of hD2,er,?_⟩⟩
   refine⟨fd,_,_,rfl,rfl,hf2,by rw[AF];exact zK (by omega),_,_,cs++[cx],rfl,(s1.trans s2).put hfd,by rw[zb,AU];rfl,by rw[AR,cl'];rfl,fun c h=>?_⟩
   rcases Ae.mp h with h | h
   ·exact hc c h
   ·rw[AJ.mp h]
    exact hxc
 ·rintro σ H1 ⟨x4,x5,cs,rfl,s1,hf,cl',hc⟩
  exact⟨_,rfl,q fd cs H1 s1 hf cl' hc⟩
abbrev qO:Stmt:=top 44
theorem qF:zu ["_law_xs", "_law_at", "_law_deep", "_law_letters_here", "_law_names", "_law_name", "_law_places"] ["_law_xs", "_law_at", "_law_deep", "_law_letters_here"] (zi qO):=⟨rfl,rfl,rfl,by decide +kernel,rfl,by decide +kernel,by decide +kernel⟩
theorem QY {P:Program} {w:World} {K:PySem.W.Frag} {mg:Str->Option Value} {base:Heap} {f:Addr} {fd:FuncData} (F:Fun K "_law_saying" "_law_saying" qO f fd) (gb:Gb mg) {c:Nat->Addr} (cl:Cl K mg c) (j:Nat) (d_law_saying:Def P w K mg base (1+j) "_law_saying" ["_law_xs", "_law_at", "_law_deep", "_law_letters_here"] (Zq j)):qA P w K mg base CX0 (1+j+1) f fd ["_law_xs", "_law_at", "_law_deep", "_law_letters_here"] (Zq (j+1)):=by
 refine F.ok qF (fun vs H Q E h=>?_) (fun cdv A outer s H vs Q E hr h=>?_)
 ·obtain⟨l,lt,fs,a,dd,L,rfl,_⟩:=h
  rfl
 obtain⟨l,lt,fs,a,dd,L,rfl,hl,hlt,l1,l6,hj,d4,a9,hb,q⟩:=h
 have nd0:(["_law_k", "_law_xs", "_law_at", "_law_deep", "_law_letters_here"]:List Str).Nodup:=by decide +kernel
 refine⟨_,(@ze _ _ _ _ _ (@zx _ _ 4 _ _ _ _ qF.nd rfl (Or.inl rfl) (@zW _ _ _ _ (@za _ _ _ _ _ (@zB _ _ _ _ _ (@za _ _ _ _ _ (@zm _ _ _ _) (@za _ _ _ _ _ (@zf _ _ _ _) (@zc _) rfl) rfl)) (@za _ _ _ _ _ (@zB _ _ _ _ _ (@za _ _ _ _ _ (@zm _ _ _ _) (@za _ _ _ _ _ (@zf _ _ _ _) (@zc _) rfl) rfl)) (@za _ _ _ _ _ (@zB _ _ _ _ _ (@za _ _ _ _ _ (@zm _ _ _ _) (@za _ _ _ _ _ (@zf _ _ _ _) (@zc _) rfl) rfl)) (@za _ _ _ _ _ (@zB _ _ _ _ _ (@za _ _ _ _ _ (@zm _ _ _ _) (@za _ _ _ _ _ (@zf _ _ _ _) (@zc _) rfl) rfl)) (@za _ _ _ _ _ (@zB _ _ _ _ _ (@za _ _ _ _ _ (@zm _ _ _ _) (@za _ _ _ _ _ (@zf _ _ _ _) (@zc _) rfl) rfl)) (@za _ _ _ _ _ (@zB _ _ _ _ _ (@za _ _ _ _ _ (@zm _ _ _ _) (@za _ _ _ _ _ (@zf _ _ _ _) (@zc _) rfl) rfl)) (@za _ _ _ _ _ (@zB _ _ _ _ _ (@za _ _ _ _ _ (@zm _ _ _ _) (@za _ _ _ _ _ (@zf _ _ _ _) (@zc _) rfl) rfl)) (@za _ _ _ _ _ (@zB _ _ _ _ _ (@za _ _ _ _ _ (@zm _ _ _ _) (@za _ _ _ _ _ (@zf _ _ _ _) (@zc _) rfl) rfl)) (@zc _) rfl) rfl) rfl) rfl) rfl) rfl) rfl) rfl)) rfl (by walk_at "f")) (@ze _ _ _ _ _ (@zO _ _ _ _ _ _ _ _ (@PW.pt _ _ _ (@pw_or _ _ _ _ _ _ _ (@zv _ _ _ _ _ _ _ _ (@jm _) (@pw _ 2 _ _ rfl rfl) (@zf _ _ _ _) (@zG _ _ (by decide) (by decide))) (@ww _ _ _ _ (@zv _ _ _ _ _ _ _ _ (@jm _) (@zA _ _ _ _ _ _ _ _ (@qV _) (@zy _ _ _ _ _ _ _ (@zj _ K rfl) (@pw _ 0 _ _ rfl rfl) (@pw _ 1 _ _ rfl rfl) (fun _ _=>rfl)) (@zf _ _ _ _)) (@zf _ _ _ _) (@zG _ _ (by decide) (by decide)))))) (@zg _ _ _ (@zr _ _ _ _ (@zy _ _ _ _ _ _ _ (@zj _ K rfl) (@pw _ 3 _ _ rfl rfl) (@zA _ _ _ _ _ _ _ _ (@qV _) (@zA _ _ _ _ _ _ _ _ (@Qt _) (@zy _ _ _ _ _ _ _ (@zj _ K rfl) (@pw _ 0 _ _ rfl rfl) (@pw _ 1 _ _ rfl rfl) (fun _ _=>rfl)) (@zf _ _ _ _)) (@zo _ _ _ _ _ _ _ _ _ (@qe _ K rfl) rfl gb.len jP (@za _ _ _ _ _ (@pw _ 3 _ _ rfl rfl) (@zc _) rfl) (by decide) (by decide) rfl rfl)) (fun _ _=>rfl)))) (@zq _)) (@ze _ _ _ _ _ (@ps_asg _ _ _ _ _ _ (@zy _ _ _ _ _ _ _ (@zj _ K rfl) (@pw _ 4 _ _ rfl rfl) (@zA _ _ _ _ _ _ _ _ (@qV _) (@zA _ _ _ _ _ _ _ _ (@Qt _) (@zy _ _ _ _ _ _ _ (@zj _ K rfl) (@pw _ 0 _ _ rfl rfl) (@pw _ 1 _ _ rfl rfl) (fun _ _=>rfl)) (@zf _ _ _ _)) (@zf _ _ _ _)) (fun _ _=>rfl)) (@kpg_tup _ K _ _ _ _ 2 rfl (@wx _ _ _ _ _ (@pgl _ 5 _ _ qF.nd rfl rfl) (@wx _ _ _ _ _ (@pgl _ 6 _ _ qF.nd rfl rfl) (@pgs_nil _) rfl) rfl) rfl rfl rfl) rfl rfl rfl) (@zg _ _ _ (@zr _ _ _ _ (@zA _ _ _ _ _ _ _ _ (@QH _ K rfl) (@zB _ _ _ _ _ (@za _ _ _ _ _ (@pw _ 5 _ _ rfl rfl) (@zc _) rfl)) (@Zz _ _ _ _ _ _ _ _ _ (@ZZ _ K rfl) rfl gb.tuple wF (@za _ _ _ _ _ (@Qx _ ["_law_k", "_law_xs", "_law_at", "_law_deep", "_law_letters_here"] [none,some 0,some 1,some 2,some 3] _ _ _ _ _ _ _ _ _ _ (by exact (show qH ["_law_xs", "_law_at", "_law_deep", "_law_letters_here", "_law_names", "_law_name", "_law_places"] (zi qO) ["_law_k", "_law_xs", "_law_at", "_law_deep", "_law_letters_here"] [none,some 0,some 1,some 2,some 3] _ from⟨rfl,by decide +kernel,by decide +kernel,by decide +kernel,by decide +kernel,rfl,by decide +kernel⟩)) rfl (@Zw _ _ _ _ _ _ rfl gb.range (@za _ _ _ _ _ (@pw _ 6 _ _ rfl rfl) (@zc _) rfl) rfl) (fun _ _ _ _=>(@pgl _ 0 _ _ nd0 rfl rfl)) (fun _ _ _ _=>(@wE _)) (fun _ _ _ _=>(@zw _ _ _ _ _ _ _ _ _ _ _ d_law_saying hr (by omega) rfl (@za _ _ _ _ _ (@pw _ 1 _ _ rfl rfl) (@za _ _ _ _ _ (@zA _ _ _ _ _ _ _ _ (@jO _) (@zA _ _ _ _ _ _ _ _ (@jO _) (@zA _ _ _ _ _ _ _ _ (@WN _) (@zf _ _ _ _) (@pw _ 2 _ _ rfl rfl)) (@zf _ _ _ _)) (@pw _ 0 _ _ rfl rfl)) (@za _ _ _ _ _ (@zA _ _ _ _ _ _ _ _ (@wA _) (@pw _ 3 _ _ rfl rfl) (@zf _ _ _ _)) (@za _ _ _ _ _ (@pw _ 4 _ _ rfl rfl) (@zc _) rfl) rfl) rfl) rfl) (by decide) rfl rfl)) (by intro _;rfl)) (@zc _) rfl) (by decide) (by decide) rfl rfl))))))),?_⟩
 refine⟨zh (by show 2<=1000;decide),fun t0 ht0=>?_⟩
 have m0:=zd ht0 (.tup [.str "and",.int 2])
 refine⟨zh (by show 2<=1000;decide),fun t1 ht1=>?_⟩
 have m1:=zd ht1 (.tup [.str "or",.int 2])
 refine⟨zh (by show 2<=1000;decide),fun t2 ht2=>?_⟩
 have m2:=zd ht2 (.tup [.str "then",.int 2])
 refine⟨zh (by show 2<=1000;decide),fun t3 ht3=>?_⟩
 have m3:=zd ht3 (.tup [.str "with",.int 2])
 refine⟨zh (by show 2<=1000;decide),fun t4 ht4=>?_⟩
 have m4:=zd ht4 (.tup [.str "not",.int 1])
 refine⟨zh (by show 2<=1000;decide),fun t5 ht5=>?_⟩
 have m5:=zd ht5 (.tup [.str "false",.int 0])
 refine⟨zh (by show 2<=1000;decide),fun t6 ht6=>?_⟩
 have m6:=zd ht6 (.tup [.str "true",.int 0])
 refine⟨zh (by show 2<=1000;decide),fun t7 ht7=>?_⟩
 have m7:=zd ht7 (.tup [.str "then",.int 2])
 refine⟨zh (by show 8<=1000;decide),fun nl hnl=>?_⟩
 have m8:=zd hnl (.lst [.ref t0,.ref t1,.ref t2,.ref t3,.ref t4,.ref t5,.ref t6,.ref t7])
 have S8:=m0.trans (m1.trans (m2.trans (m3.trans (m4.trans (m5.trans (m6.trans (m7.trans m8)))))))
 have f0:=(m1.trans (m2.trans (m3.trans (m4.trans (m5.trans (m6.trans (m7.trans m8))))))) _ _ zb
 have f1:=(m2.trans (m3.trans (m4.trans (m5.trans (m6.trans (m7.trans m8)))))) _ _ zb
 have f2:=(m3.trans (m4.trans (m5.trans (m6.trans (m7.trans m8))))) _ _ zb
 have f3:=(m4.trans (m5.trans (m6.trans (m7.trans m8)))) _ _ zb
 have f4:=(m5.trans (m6.trans (m7.trans m8))) _ _ zb
 have f5:=(m6.trans (m7.trans m8)) _ _ zb
 have f6:=(m7.trans m8) _ _ zb
 have f7:=m8 _ _ zb
 have ha:a < fs.length:=by
  have h1:(a+2) * 1<=(a+2) * 2 ^ dd:=Nat.mul_le_mul_left _ (Nat.pow_pos (by decide))
  omega
 have hl8:=S8 _ _ hl
 have hlt8:=S8 _ _ hlt
 have hN:∀ i,i < 8->∃ t nm k,yS[i]? = some (nm,k)/\([.ref t0,.ref t1,.ref t2,.ref t3,.ref t4,.ref t5,.ref t6,.ref t7]:List V)[i]? = some (.ref t)/\(upd (upd (upd (upd (upd (upd (upd (upd (upd H t0 (.tup [.str "and",.int 2])) t1 (.tup [.str "or",.int 2])) t2 (.tup [.str "then",.int 2])) t3 (.tup [.str "with",.int 2])) t4 (.tup [.str "not",.int 1])) t5 (.tup [.str "false",.int 0])) t6 (.tup [.str "true",.int 0])) t7 (.tup [.str "then",.int 2])) nl (.lst [.ref t0,.ref t1,.ref t2,.ref t3,.ref t4,.ref t5,.ref t6,.ref t7])) t=some (.tup [.str nm,nV k]):=fun i hi=>by
  match i,hi with
  | 0,_=>exact⟨t0, "and",2,rfl,rfl,f0⟩
  | 1,_=>exact⟨t1, "or",2,rfl,rfl,f1⟩
  | 2,_=>exact⟨t2, "then",2,rfl,rfl,f2⟩
  | 3,_=>exact⟨t3, "with",2,rfl,rfl,f3⟩
  | 4,_=>exact⟨t4, "not",1,rfl,rfl,f4⟩
  | 5,_=>exact⟨t5, "false",0,rfl,rfl,f5⟩
  | 6,_=>exact⟨t6, "true",0,rfl,rfl,f6⟩
  | 7,_=>exact⟨t7, "then",2,rfl,rfl,f7⟩
 have hnl8:(upd (upd (upd (upd (upd (upd (upd (upd (upd H t0 (.tup [.str "and",.int 2])) t1 (.tup [.str "or",.int 2])) t2 (.tup [.str "then",.int 2])) t3 (.tup [.str "with",.int 2])) t4 (.tup [.str "not",.int 1])) t5 (.tup [.str "false",.int 0])) t6 (.tup [.str "true",.int 0])) t7 (.tup [.str "then",.int 2])) nl (.lst [.ref t0,.ref t1,.ref t2,.ref t3,.ref t4,.ref t5,.ref t6,.ref t7])) nl=some (.lst [.ref t0,.ref t1,.ref t2,.ref t3,.ref t4,.ref t5,.ref t6,.ref t7]):=zb
 clear f0 f1 f2 f3 f4 f5 f6 f7 m0 m1 m2 m3 m4 m5 m6 m7 m8
 generalize upd (upd (upd (upd (upd (upd (upd (upd (upd H t0 (.tup [.str "and",.int 2])) t1 (.tup [.str "or",.int 2])) t2 (.tup [.str "then",.int 2])) t3 (.tup [.str "with",.int 2])) t4 (.tup [.str "not",.int 1])) t5 (.tup [.str "false",.int 0])) t6 (.tup [.str "true",.int 0])) t7 (.tup [.str "then",.int 2])) nl (.lst [.ref t0,.ref t1,.ref t2,.ref t3,.ref t4,.ref t5,.ref t6,.ref t7])=HN at *
 have ef:atI (fs.map nV) (a:Int)=some (nV (fs.getD a 0)):=yU ha
 generalize fs.getD a 0=fa at ef
 obtain⟨xl,el,hxl⟩:∃ x,atI (L.map V.str) (((fa:Int) / 4) % ((L.map V.str).length:Int))=some (.str x)/\x ∈ L:=by
  have hlt':=CF (fa / 4) (show 0 < L.length by omega)
  have hx:L[fa / 4 % L.length]? = some L[fa / 4 % L.length]:=AE hlt'
  refine⟨_,?_,AH hx⟩
  rw[AF,show (fa:Int) / 4=((fa / 4:Nat):Int) by rw[Int.natCast_ediv];rfl,<- BU]
  exact QT hx
 refine⟨_,rfl,rfl,_,rfl,?_⟩
 cases dd with
 | zero=>
  refine Z3 rfl ?_
  refine⟨_,rfl,_,rfl,_,rfl,.inl ⟨l,_,_,_,rfl,rfl,SqL.of hl8,ef,_,_,rfl,rfl,⟨by decide,by decide⟩,_,rfl,_,_,rfl,.inl ⟨_,SqL.of hlt8,rfl⟩,_,_,rfl,rfl,(by rw[AF];omega),.inl ⟨lt,_,_,_,rfl,rfl,SqL.of hlt8,el,?_⟩⟩⟩
  exact q _ (.ltr xl) HN S8 rfl hxl (Ax _)
 | succ dd=>
  refine J1 (AQ fun z=>by have:=V.int.inj z;omega) ?_
  refine⟨_,rfl,_,rfl,.inl ⟨l,_,_,_,rfl,rfl,SqL.of hl8,ef,_,_,rfl,rfl,(show (0:Int) < 4 by decide),rfl,_,rfl,W0 (fun c1=>?_) (fun c1=>?_)⟩⟩
  ·refine⟨_,rfl,_,rfl,_,rfl,.inl ⟨l,_,_,_,rfl,rfl,SqL.of hl8,ef,_,_,rfl,rfl,⟨by decide,by decide⟩,_,rfl,_,_,rfl,.inl ⟨_,SqL.of hlt8,rfl⟩,_,_,rfl,rfl,(by rw[AF];omega),.inl ⟨lt,_,_,_,rfl,rfl,SqL.of hlt8,el,?_⟩⟩⟩
   exact q _ (.ltr xl) HN S8 rfl hxl (Ax _)
  ·obtain⟨t,nm,k,hnm,hti,ht⟩:=hN (fa / 4 % 8) (CF _ (by decide))
   obtain⟨nm7,ar⟩:=yT hnm
   have k2:k<=2:=by
    have h5:=arity2 nm
    have ar':qS nm=k:=ar
    omega
   have en:atI ([.ref t0,.ref t1,.ref t2,.ref t3,.ref t4,.ref t5,.ref t6,.ref t7]:List V) (((fa:Int) / 4) % 8)=some (.ref t):=by
    rw[show ((fa:Int) / 4) % 8=((fa / 4 % 8:Nat):Int) by rw[BU,Int.natCast_ediv];rfl]
    exact qZ hti
   refine⟨_,rfl,_,rfl,_,rfl,.inl ⟨l,_,_,_,rfl,rfl,SqL.of hl8,ef,_,_,rfl,rfl,⟨by decide,by decide⟩,_,_,rfl,rfl,(show (0:Int) < 8 by decide),.inl ⟨nl,_,_,_,rfl,rfl,SqL.of hnl8,en,?_⟩⟩⟩
   refine⟨t,_,rfl,SqT.of ht,rfl,_,_,rfl,_,_,rfl,rfl,?_⟩
   refine⟨_,rfl,zh (by show 1<=1000;decide),fun tn htn=>?_⟩
   have n9:=zd htn (.tup [.str nm])
   refine⟨_,rfl,(k:Int),rfl,by omega,by omega,fun D hD=>?_⟩
   rw[B1]
   refine Wj (fun i ys H'=>zE (upd HN tn (.tup [.str nm])) H'/\∃ ss,Paired (ql H') ss ys/\ss.length=i/\∀ s ∈ ss,GS L s/\s.dp<=dd) ⟨zd hD _,[],.nil,rfl,fun s h=>by cases h⟩ ?_ ?_
   ·rintro i ys H1 hi ⟨s1,ss,hP,sl,hss⟩ hD1
    have S1:=n9.trans s1
    have ea:V.int (2 * (a:Int)+1+(0+(i:Int)))=nV (2 * a+1+i):=by
     show V.int _=V.int _
     congr 1
     omega
    have ed:V.int (((dd+1:Nat):Int) - 1)=nV dd:=by
     show V.int _=V.int _
     congr 1
     omega
    have hbb:(2 * a+1+i+2) * 2 ^ dd<=fs.length+1:=by
     have h1:(2 * a+1+i+2) * 2 ^ dd<=(2 * a+4) * 2 ^ dd:=Nat.mul_le_mul_right _ (by omega)
     have h2:(2 * a+4) * 2 ^ dd=(a+2) * 2 ^ (dd+1):=by rw[CD];rw[show 2 * a+4=(a+2) * 2 by omega,Nat.mul_assoc,Nat.mul_comm 2]
     omega
    match j,hj,d_law_saying with
    | 0,hj,_=>exact absurd hj (by omega)
    | j+1,hj,_=>
    refine yes ⟨_,rfl,_,rfl,_,_,rfl,rfl,.inl ⟨by decide,by decide⟩,_,_,rfl,rfl,_,rfl,_,_,rfl,rfl,_,rfl,_,_,rfl,rfl,_,rfl,l,lt,fs,2 * a+1+i,dd,L,by (show [V.ref l,V.int (2 * (a:Int)+1+(0+(i:Int))),V.int (((dd+1:Nat):Int) - 1),V.ref lt]=_;rw[ea,ed]),S1 _ _ hl8,S1 _ _ hlt8,l1,l6,by omega,by omega,a9,hbb,fun v s H2 s2 iv gv dv=>?_⟩
    have hyl:=Ac hP
    have hD2:=s2 _ _ hD1
    refine cyes hi Wi hD2 (zK (by omega)) ⟨(s1.trans s2).put hD,ss++[s],?_,by rw[AR,sl];rfl,fun s' hs'=>?_⟩
    ·exact J8 (Tk.put hD2) (yN (J8 (Tk.of s2) hP) iv)
    ·rcases Ae.mp hs' with h | h
     ·exact hss s' h
     ·rw[AJ.mp h]
      exact⟨gv,dv⟩
   ·rintro ys H1 ⟨s1,ss,hP,sl,hss⟩ hD1
    refine⟨D,_,rfl,.inl ⟨SqL.of hD1,fun ty hty=>?_⟩⟩
    have n10:=zd hty (.tup ys)
    have hyl:=Ac hP
    refine QS ((s1.trans n10) _ _ zb) zb (by show 1+ys.length<=1000;omega) fun t H2 s2 ht2=>?_
    have S2:=n10.trans s2
    refine q _ (Sy.mk nm ss) H2 (S8.trans (n9.trans (s1.trans S2))) (ql.of ht2 (J8 (Tk.of S2) hP) (by omega)) (GS.of nm7 (by rw[sl];exact ar.symm) (fun s' hs'=>(hss s' hs').1) (by omega)) (dp_mk fun s' hs'=>(hss s' hs').2)
abbrev jf:Stmt:=top 46
theorem ju:zu ["_law_saying_here", "_law_found", "_law_k"] ["_law_saying_here"] (zi jf):=⟨rfl,rfl,rfl,by decide +kernel,rfl,by decide +kernel,by decide +kernel⟩
theorem JI {P:Program} {w:World} {K:PySem.W.Frag} {mg:Str->Option Value} {base:Heap} {f:Addr} {fd:FuncData} (F:Fun K "_law_spots" "_law_spots" jf f fd) (gb:Gb mg) {c:Nat->Addr} (cl:Cl K mg c) (j:Nat) (d_law_spots:Def P w K mg base (1+j) "_law_spots" ["_law_saying_here"] (QV j)):qA P w K mg base CX0 (1+j+1) f fd ["_law_saying_here"] (QV (j+1)):=by
 refine F.ok ju (fun vs H Q E h=>?_) (fun cdv A outer s H vs Q E hr h=>?_)
 ·obtain⟨v,s,rfl,_⟩:=h
  rfl
 obtain⟨v,s,rfl,ih,hj,d5,q⟩:=h
 have nd0:(["_law_spot", "_law_k"]:List Str).Nodup:=by decide +kernel
 refine⟨_,(@ze _ _ _ _ _ (@zO _ _ _ _ _ _ _ _ (@qk _ _ _ (@zo _ _ _ _ _ _ _ _ _ (@zZ _ K rfl) rfl gb.isinstance zn (@za _ _ _ _ _ (@pw _ 0 _ _ rfl rfl) (@za _ _ _ _ _ (@qX _ _ (.ty "str") _ _ rfl gb.str Jg rfl (by decide) (by decide)) (@zc _) rfl) rfl) (by decide) (by decide) rfl rfl) (by intro _;rfl)) (@zg _ _ _ (@zr _ _ _ _ (@zW _ _ _ _ (@za _ _ _ _ _ (@zB _ _ _ _ _ (@zc _)) (@zc _) rfl)))) (@zq _)) (@ze _ _ _ _ _ (@zx _ _ 1 _ _ _ _ ju.nd rfl (Or.inl rfl) (@zW _ _ _ _ (@za _ _ _ _ _ (@zB _ _ _ _ _ (@zc _)) (@zc _) rfl)) rfl (by walk_at "f")) (@ze _ _ _ _ _ (@jl _ _ _ _ _ _ _ _ A0 rfl (@WK _ _ _ _ _ _ _ rfl gb.range (@za _ _ _ _ _ (@zf _ _ _ _) (@za _ _ _ _ _ (@zo _ _ _ _ _ _ _ _ _ (@qe _ K rfl) rfl gb.len jP (@za _ _ _ _ _ (@pw _ 0 _ _ rfl rfl) (@zc _) rfl) (by decide) (by decide) rfl rfl) (@zc _) rfl) rfl) rfl rfl) (@WH _ _ 2 _ ju.nd rfl (Or.inr rfl) (by walk_at "f")) (@zg _ _ _ (@qr _ _ _ _ (@ZF _ K _ _ _ _ _ _ _ _ _ _ _ Ao PySem.F.slot_list_extend PySem.F.type_list_extend (@Je _) (@pw _ 1 _ _ rfl rfl) (@za _ _ _ _ _ (@Qx _ ["_law_spot", "_law_k"] [none,some 2] _ _ _ _ _ _ _ _ _ _ (by exact (show qH ["_law_saying_here", "_law_found", "_law_k"] (zi jf) ["_law_spot", "_law_k"] [none,some 2] _ from⟨rfl,by decide +kernel,by decide +kernel,by decide +kernel,by decide +kernel,rfl,by decide +kernel⟩)) rfl (@q5 _ K _ _ _ (@zw _ _ _ _ _ _ _ _ _ _ _ d_law_spots hr (by omega) rfl (@za _ _ _ _ _ (@zy _ _ _ _ _ _ _ (@zj _ K rfl) (@pw _ 0 _ _ rfl rfl) (@pw _ 2 _ _ rfl rfl) (fun _ _=>rfl)) (@zc _) rfl) (by decide) rfl rfl) rfl) (fun _ _ _ _=>(@pgl _ 0 _ _ nd0 rfl rfl)) (fun _ _ _ _=>(@wE _)) (fun _ _ _ _=>(@zA _ _ _ _ _ _ _ _ (@QH _ K rfl) (@zB _ _ _ _ _ (@za _ _ _ _ _ (@pw _ 1 _ _ rfl rfl) (@zc _) rfl)) (@pw _ 0 _ _ rfl rfl))) (by intro _;rfl)) (@zc _) rfl) rfl rfl rfl rfl rfl rfl) rfl)) (by intro _;rfl)) (@zg _ _ _ (@zr _ _ _ _ (@pw _ 1 _ _ rfl rfl)))))),?_⟩
 cases hs:s.isL with
 | true=>
  obtain rfl:=ih.letter hs
  refine⟨_,rfl,_,_,_,true,rfl,.str _,qN "str",true,rfl,jN ?_⟩
  refine⟨zh (by show 0<=1000;decide),fun t0 ht0=>⟨zh (by show 1<=1000;decide),fun l0 hl0=>?_⟩⟩
  exact q l0 [.ref t0] [[]] _ ((zd ht0 _).trans (zd hl0 _)) zb (.cons ⟨t0,rfl,zd hl0 _ _ _ zb⟩ .nil) (fun p hp=>by rw[AJ.mp hp];exact True.intro) (AG _) (by have:=Sy.sz_ps s;show 1<=s.sz;omega)
 | false=>
  obtain⟨t,us,rfl,ht,hP⟩:=ih.node hs
  refine⟨_,rfl,_,_,_,false,rfl,.tup ht,ZM (K:=K) (.tup []),false,rfl,ZC ?_⟩
  have hul:=Ac hP
  refine⟨zh (by show 0<=1000;decide),fun t0 ht0=>⟨zh (by show 1<=1000;decide),fun l0 hl0=>?_⟩⟩
  have n1:zE H _:=(zd ht0 (.tup [])).trans (zd hl0 (.lst [.ref t0]))
  have e0:=@zb (upd H t0 (.tup [])) l0 (.lst [.ref t0])
  have p0:Wy (upd (upd H t0 (.tup [])) l0 (.lst [.ref t0])) [] (.ref t0):=⟨t0,rfl,zd hl0 _ _ _ zb⟩
  have f0:H l0=none:=(zd ht0 (.tup [])).free hl0
  generalize upd (upd H t0 (.tup [])) l0 (.lst [.ref t0])=H1 at *
  have el:(((.str s.nm :: us:List V).length:Nat):Int)=((s.ps.length+1:Nat):Int):=by
   rw[Ay,<- hul]
  refine⟨_,rfl,_,_,rfl,.inr ⟨_,SqT.of (n1 _ _ ht),rfl⟩,1,_,rfl,⟨by decide,by decide,by rw[el];omega,by rw[el];have:=wW hs;omega⟩,?_⟩
  rw[el,show (((s.ps.length+1:Nat):Int) - 1).toNat=s.ps.length by omega]
  have szs:=Sy.sz_ps s
  have s63:s.sz<=63:=by
   have h1:=Sy.sz_dp s
   have h2:2 ^ (s.dp+1)<=2 ^ 6:=BO (by decide) (by omega)
   omega
  refine Zx (fun i σ H'=>(∃ x2,σ=[some (.ref t),some (.ref l0),x2])/\zE H H'/\∃ ws pp,H' l0=some (.lst ws)/\Paired (Wy H') pp ws/\(∀ p ∈ pp,okP s p)/\1<=pp.length/\pp.length<=1+((s.ps.take i).map Sy.sz).sum) ⟨⟨_,rfl⟩,n1,[.ref t0],[[]],e0,.cons p0 .nil,(fun p hp=>by rw[AJ.mp hp];exact True.intro),AG _,by simp⟩ ?_ ?_
  ·rintro i σ H2 hi ⟨⟨x2,rfl⟩,s2,ws,pp,hw,hpp,hok,h1,hle⟩
   have hz:s.ps[i]? = some s.ps[i]:=AE hi
   generalize s.ps[i]=z at hz
   obtain⟨uz,huz⟩:∃ u,us[i]? = some u:=⟨us[i],AE (by omega)⟩
   have iz:=Paired.at hP i _ _ hz huz
   have dz:=Sy.dp_lt (AH hz)
   have ek:atI (.str s.nm :: us) (1+(i:Int))=some uz:=by
    rw[show (1+(i:Int))=((i+1:Nat):Int) by omega]
    exact qZ (by rw[List.getElem?_cons_succ];exact huz)
   have sz1:((s.ps.take (i+1)).map Sy.sz).sum=((s.ps.take i).map Sy.sz).sum+z.sz:=by rw[take_snoc hz,AU,Cp];simp
   have szt:((s.ps.take (i+1)).map Sy.sz).sum<=(s.ps.map Sy.sz).sum:=by
    have e:=BB (fun l=>(l.map Sy.sz).sum) (List.take_append_drop (i+1) s.ps)
    simp only[List.map_append,List.sum_append] at e
    omega
   match j,hj,d_law_spots with
   | 0,hj,_=>exact absurd hj (by omega)
   | j+1,hj,_=>
   refine⟨_,rfl,.inl ⟨rfl,_,SqL.of hw⟩,_,rfl,_,rfl,.inr (.inl ⟨t,_,_,_,rfl,rfl,SqT.of (s2 _ _ ht),ek,uz,z,rfl,iz.same s2,by omega,by omega,fun l us' pq H3 s3 hl hq okq l1 l2=>⟨l,rfl,⟨_,SqL.of hl⟩,fun D hD=>?_⟩⟩)⟩
   have hql:=Ac hq
   refine yf (K:=K) (xs:=us') (fun m ys H'=>zE H3 H'/\Paired (Wy H') ((pq.take m).map ((i+1) :: ·)) ys) ⟨zd hD _,.nil⟩ (fun m ys H' h _=>SqL.of (h.1 _ _ hl)) ?_ ?_
   ·rintro m ys H4 x hx ⟨s4,hy⟩ hD4
    have hm:=(AD.mp hx).1
    have hpm:pq[m]? = some pq[m]:=AE (by omega)
    generalize pq[m]=pm at hpm
    obtain⟨tx,rfl,htx⟩:=Paired.at hq m _ _ hpm hx
    have pl:pm.length<=5:=by
     have:=wl (okq pm (AH hpm))
     omega
    refine yes ⟨_,rfl,zh (by show 1<=1000;decide),fun ty hty=>⟨_,rfl,?_⟩⟩
    have n5:=zd hty (.tup [.int (1+(i:Int))])
    refine QS zb ((s4.trans n5) _ _ htx) (by rw[AF];show 1+_<=1000;omega) fun tz H6 s6 htz=>?_
    have S6:=n5.trans s6
    have hD6:=S6 _ _ hD4
    have hyl:=Ac hy
    rw[AF,Al] at hyl
    refine cyes hm Wi hD6 (zK (by omega)) ⟨(s4.trans S6).put hD,?_⟩
    have hy6:=wV (Tk.put hD6 (o:=.lst (ys++[.ref tz]))) (wV (Tk.of S6) hy)
    rw[take_snoc hpm,AU]
    refine yX hy6 (.cons ⟨tz,rfl,?_⟩ .nil)
    rw[zt (JO htz hD6 (by intro z;cases z)),htz]
    rw[show (V.int (1+(i:Int)))=nV (i+1) by show V.int _=V.int _;congr 1;omega]
    rfl
   ·rintro ys H4 ⟨s4,hy⟩ hD4
    have hyl:=Ac hy
    rw[Ah (by omega)] at hy
    rw[AF,Al] at hyl
    have hpl:=Ac hpp
    have S4:=s3.trans s4
    have hw4:=S4 _ _ hw
    refine⟨l0,D,_,_,rfl,rfl,hw4,hD4,zh (by omega),⟨_,rfl⟩,(s2.trans S4).put f0,ws++ys,pp++pq.map ((i+1) :: ·),zb,wV (Tk.put hw4) (yX (wV (Tk.of S4) hpp) hy),fun p hp=>?_,by rw[AR];omega,by rw[AR,AF];omega⟩
    rcases Ae.mp hp with h | h
    ·exact hok p h
    ·obtain⟨p',hp',rfl⟩:=BS.mp h
     exact⟨i,z,rfl,hz,okq p' hp'⟩
  ·rintro σ H2 ⟨⟨x2,rfl⟩,s2,ws,pp,hw,hpp,hok,h1,hle⟩
   rw[Ah (AG _)] at hle
   exact⟨_,rfl,q l0 ws pp H2 s2 hw hpp hok h1 (by omega)⟩
abbrev ZX:Stmt:=top 47
theorem Qq:zu ["_law_saying_here", "_law_spot", "_law_other", "_law_k"] ["_law_saying_here", "_law_spot", "_law_other"] (zi ZX):=⟨rfl,rfl,rfl,by decide +kernel,rfl,by decide +kernel,by decide +kernel⟩
theorem WB {P:Program} {w:World} {K:PySem.W.Frag} {mg:Str->Option Value} {base:Heap} {f:Addr} {fd:FuncData} (F:Fun K "_law_put" "_law_put" ZX f fd) (gb:Gb mg) {c:Nat->Addr} (cl:Cl K mg c) (j:Nat) (d_law_put:Def P w K mg base (1+j) "_law_put" ["_law_saying_here", "_law_spot", "_law_other"] (spPut j)):qA P w K mg base CX0 (1+j+1) f fd ["_law_saying_here", "_law_spot", "_law_other"] (spPut (j+1)):=by
 refine F.ok Qq (fun vs H Q E h=>?_) (fun cdv A outer s H vs Q E hr h=>?_)
 ·obtain⟨v,xv,ov,s,o,p,rfl,_⟩:=h
  rfl
 obtain⟨v,xv,ov,s,o,p,rfl,ih,ip,hp,io,hj,p5,q⟩:=h
 refine⟨_,(@ze _ _ _ _ _ (@zO _ _ _ _ _ _ _ _ (@zv _ _ _ _ _ _ _ _ (@yK _ K _ hr rfl) (@pw _ 1 _ _ rfl rfl) (@zB _ _ _ _ _ (@zc _)) (@zG _ _ (by decide) (by decide))) (@zg _ _ _ (@zr _ _ _ _ (@pw _ 2 _ _ rfl rfl))) (@zq _)) (@ze _ _ _ _ _ (@zx _ _ 3 _ _ _ _ Qq.nd rfl (Or.inl rfl) (@zy _ _ _ _ _ _ _ (@zj _ K rfl) (@pw _ 1 _ _ rfl rfl) (@zf _ _ _ _) (fun _ _=>rfl)) rfl (by walk_at "f")) (@zg _ _ _ (@zr _ _ _ _ (@zA _ _ _ _ _ _ _ _ (@QH _ K rfl) (@zA _ _ _ _ _ _ _ _ (@QH _ K rfl) (@qm _ _ _ _ _ _ _ _ _ _ (@kslT _ K rfl) (@pw _ 0 _ _ rfl rfl) (@qP _) (@qQ _ _ _ (@pw _ 3 _ _ rfl rfl))) (@zB _ _ _ _ _ (@za _ _ _ _ _ (@zw _ _ _ _ _ _ _ _ _ _ _ d_law_put hr (by omega) rfl (@za _ _ _ _ _ (@zy _ _ _ _ _ _ _ (@zj _ K rfl) (@pw _ 0 _ _ rfl rfl) (@pw _ 3 _ _ rfl rfl) (fun _ _=>rfl)) (@za _ _ _ _ _ (@qm _ _ _ _ _ _ _ _ _ _ (@kslT _ K rfl) (@pw _ 1 _ _ rfl rfl) (@qQ _ _ _ (@zf _ _ _ _)) (@qP _)) (@za _ _ _ _ _ (@pw _ 2 _ _ rfl rfl) (@zc _) rfl) rfl) rfl) (by decide) rfl rfl) (@zc _) rfl))) (@qm _ _ _ _ _ _ _ _ _ _ (@kslT _ K rfl) (@pw _ 0 _ _ rfl rfl) (@qQ _ _ _ (@zA _ _ _ _ _ _ _ _ (@jO _) (@pw _ 3 _ _ rfl rfl) (@zf _ _ _ _))) (@qP _))))))),?_⟩
 obtain⟨tp,rfl,hp0⟩:=ip
 refine⟨_,rfl,zh (by show 0<=1000;decide),fun t0 ht0=>?_⟩
 have n0:=zd ht0 (.tup [])
 refine⟨tp,t0,_,rfl,rfl,SqT.of (n0 _ _ hp0),SqT.of zb,flat_nV p,?_⟩
 cases p with
 | nil=>
  refine⟨_,rfl,jN ?_⟩
  exact⟨_,rfl,q ov _ n0 (io.same n0)⟩
 | cons k p=>
  refine⟨_,rfl,ZC ?_⟩
  obtain⟨i,z,rfl,hz,hp⟩:=hp
  have hs:s.isL=false:=by
   cases s with
   | ltr x=>simp[Sy.ps] at hz
   | _=>rfl
  obtain⟨t,us,rfl,ht,hP⟩:=ih.node hs
  have hul:=Ac hP
  have hi:=(AD.mp hz).1
  have h2:=wW hs
  obtain⟨uz,huz⟩:∃ u,us[i]? = some u:=⟨us[i],AE (by omega)⟩
  have iz:=Paired.at hP i _ _ hz huz
  have ek:atI (.str s.nm :: us) ((i+1:Nat):Int)=some uz:=qZ (by rw[List.getElem?_cons_succ];exact huz)
  have hpl:((i+1) :: p).length=p.length+1:=rfl
  have ht0':=n0 _ _ ht
  have hp0':=n0 _ _ hp0
  generalize upd H t0 (.tup [])=H0 at *
  refine⟨_,rfl,.inr (.inl ⟨tp,_,_,_,rfl,rfl,SqT.of hp0',at0,?_⟩)⟩
  match j,hj,d_law_put with
  | 0,hj,_=>exact absurd hj (by omega)
  | j+1,hj,_=>
  refine⟨_,rfl,_,rfl,_,rfl,ZR ht0' fun ta Ha sa hta=>?_⟩
  rw[cut_to] at hta
  refine⟨_,rfl,_,rfl,.inr (.inl ⟨t,_,_,_,rfl,rfl,SqT.of (sa _ _ ht0'),ek,_,rfl,_,rfl,ZR (sa _ _ hp0') fun tb Hb sb htb=>?_⟩)⟩
  rw[jr (by simp)] at htb
  have Sb:=n0.trans (sa.trans sb)
  refine⟨_,rfl,uz,.ref tb,ov,z,o,p,rfl,iz.same Sb,⟨tb,rfl,htb⟩,hp,io.same Sb,by omega,by omega,fun u Hc sc iu=>⟨zh (by show 1<=1000;decide),fun td htd=>?_⟩⟩
  have n4:=zd htd (.tup [u])
  have tl:(List.take (i+1) (V.str s.nm :: us)).length=i+1:=by rw[Al,Ay];omega
  refine QS ((sb.trans (sc.trans n4)) _ _ hta) zb (by rw[tl];show i+1+1<=1000;omega) fun te He se hte=>?_
  have Se:=n4.trans se
  have Sa:=sa.trans (sb.trans (sc.trans Se))
  refine⟨_,rfl,_,rfl,_,_,rfl,rfl,_,rfl,ZR (Sa _ _ ht0') fun tf Hf sf htf=>?_⟩
  rw[show (((i+1:Nat):Int)+1)=((i+2:Nat):Int) by omega,cut_fr] at htf
  refine QS (sf _ _ hte) htf (by simp only[List.length_append,List.length_take,List.length_drop,List.length_cons,List.length_nil];omega) fun tg Hg sg htg=>?_
  have Sf:=sf.trans sg
  have St:=n0.trans (Sa.trans Sf)
  refine q (.ref tg) Hg St ?_
  rw[wk hz]
  have hset:List.take (i+1) (V.str s.nm :: us)++[u]++List.drop (i+2) (V.str s.nm :: us)=.str s.nm :: us.set i u:=by
   rw[List.take_succ_cons,List.drop_succ_cons,List.set_eq_take_append_cons_drop,if_pos (by omega)]
   simp
  rw[hset] at htg
  exact ql.of htg (sy_set (Paired.mapP hP fun _ _ h=>h.same St) (iu.same (Se.trans Sf)) i) (by rw[List.length_set];exact h2)
abbrev jL:Stmt:=top 48
theorem jv:zu ["_law_xs", "_law_letter", "_law_some"] ["_law_xs", "_law_letter"] (zi jL):=⟨rfl,rfl,rfl,by decide +kernel,rfl,by decide +kernel,by decide +kernel⟩
theorem JJ {P:Program} {w:World} {K:PySem.W.Frag} {mg:Str->Option Value} {base:Heap} {f:Addr} {fd:FuncData} (F:Fun K "_law_wrong" "_law_wrong" jL f fd) (gb:Gb mg) {c:Nat->Addr} (cl:Cl K mg c):qA P w K mg base CX0 1 f fd ["_law_xs", "_law_letter"] wm:=by
 refine F.ok jv (fun vs H Q E h=>?_) (fun cdv A outer s H vs Q E hr h=>?_)
 ·obtain⟨x,l,rfl,_⟩:=h
  rfl
 obtain⟨x,l,rfl,hl,q⟩:=h
 refine⟨_,(@ze _ _ _ _ _ (@zx _ _ 2 _ _ _ _ jv.nd rfl (Or.inl rfl) (@zW _ _ _ _ (@za _ _ _ _ _ (@zB _ _ _ _ _ (@za _ _ _ _ _ (@zm _ _ _ _) (@za _ _ _ _ _ (@pw _ 1 _ _ rfl rfl) (@za _ _ _ _ _ (@pw _ 1 _ _ rfl rfl) (@zc _) rfl) rfl) rfl)) (@za _ _ _ _ _ (@zB _ _ _ _ _ (@za _ _ _ _ _ (@zm _ _ _ _) (@za _ _ _ _ _ (@pw _ 1 _ _ rfl rfl) (@zc _) rfl) rfl)) (@za _ _ _ _ _ (@zB _ _ _ _ _ (@za _ _ _ _ _ (@zm _ _ _ _) (@za _ _ _ _ _ (@pw _ 1 _ _ rfl rfl) (@za _ _ _ _ _ (@pw _ 1 _ _ rfl rfl) (@zc _) rfl) rfl) rfl)) (@za _ _ _ _ _ (@zB _ _ _ _ _ (@za _ _ _ _ _ (@zm _ _ _ _) (@zc _) rfl)) (@za _ _ _ _ _ (@zB _ _ _ _ _ (@za _ _ _ _ _ (@zm _ _ _ _) (@zc _) rfl)) (@za _ _ _ _ _ (@zB _ _ _ _ _ (@za _ _ _ _ _ (@zm _ _ _ _) (@za _ _ _ _ _ (@pw _ 1 _ _ rfl rfl) (@zc _) rfl) rfl)) (@zc _) rfl) rfl) rfl) rfl) rfl) rfl)) rfl (by walk_at "f")) (@ze _ _ _ _ _ (@zx _ _ 2 _ _ _ _ jv.nd rfl (Or.inl rfl) (@zA _ _ _ _ _ _ _ _ (@ZB _) (@pw _ 2 _ _ rfl rfl) (@zW _ _ _ _ (@za _ _ _ _ _ (@zB _ _ _ _ _ (@za _ _ _ _ _ (@zm _ _ _ _) (@za _ _ _ _ _ (@pw _ 1 _ _ rfl rfl) (@za _ _ _ _ _ (@pw _ 1 _ _ rfl rfl) (@zc _) rfl) rfl) rfl)) (@za _ _ _ _ _ (@zB _ _ _ _ _ (@za _ _ _ _ _ (@zm _ _ _ _) (@za _ _ _ _ _ (@pw _ 1 _ _ rfl rfl) (@zc _) rfl) rfl)) (@za _ _ _ _ _ (@zB _ _ _ _ _ (@za _ _ _ _ _ (@zm _ _ _ _) (@zc _) rfl)) (@za _ _ _ _ _ (@zB _ _ _ _ _ (@za _ _ _ _ _ (@zm _ _ _ _) (@za _ _ _ _ _ (@pw _ 1 _ _ rfl rfl) (@zc _) rfl) rfl)) (@za _ _ _ _ _ (@zB _ _ _ _ _ (@za _ _ _ _ _ (@zm _ _ _ _) (@za _ _ _ _ _ (@pw _ 1 _ _ rfl rfl) (@za _ _ _ _ _ (@pw _ 1 _ _ rfl rfl) (@zc _) rfl) rfl) rfl)) (@zc _) rfl) rfl) rfl) rfl) rfl))) rfl (by walk_at "f")) (@zg _ _ _ (@zr _ _ _ _ (@zy _ _ _ _ _ _ _ (@zj _ K rfl) (@zA _ _ _ _ _ _ _ _ (@ZB _) (@pw _ 2 _ _ rfl rfl) (@zW _ _ _ _ (@za _ _ _ _ _ (@zB _ _ _ _ _ (@za _ _ _ _ _ (@zm _ _ _ _) (@zc _) rfl)) (@za _ _ _ _ _ (@zB _ _ _ _ _ (@za _ _ _ _ _ (@zm _ _ _ _) (@za _ _ _ _ _ (@pw _ 1 _ _ rfl rfl) (@zc _) rfl) rfl)) (@za _ _ _ _ _ (@zB _ _ _ _ _ (@za _ _ _ _ _ (@zm _ _ _ _) (@za _ _ _ _ _ (@pw _ 1 _ _ rfl rfl) (@za _ _ _ _ _ (@pw _ 1 _ _ rfl rfl) (@zc _) rfl) rfl) rfl)) (@za _ _ _ _ _ (@zB _ _ _ _ _ (@za _ _ _ _ _ (@zm _ _ _ _) (@zc _) rfl)) (@za _ _ _ _ _ (@zB _ _ _ _ _ (@za _ _ _ _ _ (@zm _ _ _ _) (@za _ _ _ _ _ (@pw _ 1 _ _ rfl rfl) (@za _ _ _ _ _ (@pw _ 1 _ _ rfl rfl) (@zc _) rfl) rfl) rfl)) (@zc _) rfl) rfl) rfl) rfl) rfl))) (@zA _ _ _ _ _ _ _ _ (@qV _) (@pw _ 0 _ _ rfl rfl) (@zf _ _ _ _)) (fun _ _=>rfl)))))),?_⟩
 have S:zE H H:=zE.refl H
 have W:WR H []:=⟨[],.nil,fun o h=>by cases h⟩
 refine⟨_,rfl,_,rfl,zh (by show 3<=1000;decide),fun t1 ht1=>?_⟩
 have m1:=zd ht1 (.tup [.str "ands",.str l,.str l])
 have W1:WR (upd H t1 (.tup [.str "ands",.str l,.str l])) _:=W.step hl ht1 "ands" 2 (by decide)
 replace W:=W1
 clear W1
 replace S:=S.trans m1
 clear m1
 generalize upd H t1 (.tup [.str "ands",.str l,.str l])=G1 at *
 refine⟨_,rfl,zh (by show 2<=1000;decide),fun t2 ht2=>?_⟩
 have m2:=zd ht2 (.tup [.str "an",.str l])
 have W2:WR (upd G1 t2 (.tup [.str "an",.str l])) _:=W.step hl ht2 "an" 1 (by decide)
 replace W:=W2
 clear W2
 replace S:=S.trans m2
 clear m2
 generalize upd G1 t2 (.tup [.str "an",.str l])=G2 at *
 refine⟨_,rfl,_,rfl,zh (by show 3<=1000;decide),fun t3 ht3=>?_⟩
 have m3:=zd ht3 (.tup [.str "nor",.str l,.str l])
 have W3:WR (upd G2 t3 (.tup [.str "nor",.str l,.str l])) _:=W.step hl ht3 "nor" 2 (by decide)
 replace W:=W3
 clear W3
 replace S:=S.trans m3
 clear m3
 generalize upd G2 t3 (.tup [.str "nor",.str l,.str l])=G3 at *
 refine⟨zh (by show 1<=1000;decide),fun t4 ht4=>?_⟩
 have m4:=zd ht4 (.tup [.str "falsely"])
 have W4:WR (upd G3 t4 (.tup [.str "falsely"])) _:=W.step hl ht4 "falsely" 0 (by decide)
 replace W:=W4
 clear W4
 replace S:=S.trans m4
 clear m4
 generalize upd G3 t4 (.tup [.str "falsely"])=G4 at *
 refine⟨zh (by show 1<=1000;decide),fun t5 ht5=>?_⟩
 have m5:=zd ht5 (.tup [.str "not"])
 have W5:WR (upd G4 t5 (.tup [.str "not"])) _:=W.step hl ht5 "not" 0 (by decide)
 replace W:=W5
 clear W5
 replace S:=S.trans m5
 clear m5
 generalize upd G4 t5 (.tup [.str "not"])=G5 at *
 refine⟨_,rfl,zh (by show 2<=1000;decide),fun t6 ht6=>?_⟩
 have m6:=zd ht6 (.tup [.str "and",.str l])
 have W6:WR (upd G5 t6 (.tup [.str "and",.str l])) _:=W.step hl ht6 "and" 1 (by decide)
 replace W:=W6
 clear W6
 replace S:=S.trans m6
 clear m6
 generalize upd G5 t6 (.tup [.str "and",.str l])=G6 at *
 refine⟨zh (by show 6<=1000;decide),fun la hla=>?_⟩
 have mla:=zd hla (.lst [.ref t1,.ref t2,.ref t3,.ref t4,.ref t5,.ref t6])
 have ela:upd G6 la (.lst [.ref t1,.ref t2,.ref t3,.ref t4,.ref t5,.ref t6]) la=some (.lst [.ref t1,.ref t2,.ref t3,.ref t4,.ref t5,.ref t6]):=zb
 replace W:=W.same mla
 replace S:=S.trans mla
 generalize upd G6 la (.lst [.ref t1,.ref t2,.ref t3,.ref t4,.ref t5,.ref t6])=Gla at *
 have K1:=ela
 refine⟨_,rfl,_,rfl,_,rfl,zh (by show 3<=1000;decide),fun t7 ht7=>?_⟩
 have m7:=zd ht7 (.tup [.str "not",.str l,.str l])
 have W7:WR (upd Gla t7 (.tup [.str "not",.str l,.str l])) _:=W.step hl ht7 "not" 2 (by decide)
 replace W:=W7
 clear W7
 replace S:=S.trans m7
 replace K1:=m7 _ _ K1
 clear m7
 generalize upd Gla t7 (.tup [.str "not",.str l,.str l])=G7 at *
 refine⟨_,rfl,zh (by show 2<=1000;decide),fun t8 ht8=>?_⟩
 have m8:=zd ht8 (.tup [.str "true",.str l])
 have W8:WR (upd G7 t8 (.tup [.str "true",.str l])) _:=W.step hl ht8 "true" 1 (by decide)
 replace W:=W8
 clear W8
 replace S:=S.trans m8
 replace K1:=m8 _ _ K1
 clear m8
 generalize upd G7 t8 (.tup [.str "true",.str l])=G8 at *
 refine⟨zh (by show 1<=1000;decide),fun t9 ht9=>?_⟩
 have m9:=zd ht9 (.tup [.str "or"])
 have W9:WR (upd G8 t9 (.tup [.str "or"])) _:=W.step hl ht9 "or" 0 (by decide)
 replace W:=W9
 clear W9
 replace S:=S.trans m9
 replace K1:=m9 _ _ K1
 clear m9
 generalize upd G8 t9 (.tup [.str "or"])=G9 at *
 refine⟨_,rfl,zh (by show 2<=1000;decide),fun t10 ht10=>?_⟩
 have m10:=zd ht10 (.tup [.str "then",.str l])
 have W10:WR (upd G9 t10 (.tup [.str "then",.str l])) _:=W.step hl ht10 "then" 1 (by decide)
 replace W:=W10
 clear W10
 replace S:=S.trans m10
 replace K1:=m10 _ _ K1
 clear m10
 generalize upd G9 t10 (.tup [.str "then",.str l])=G10 at *
 refine⟨_,rfl,_,rfl,zh (by show 3<=1000;decide),fun t11 ht11=>?_⟩
 have m11:=zd ht11 (.tup [.str "false",.str l,.str l])
 have W11:WR (upd G10 t11 (.tup [.str "false",.str l,.str l])) _:=W.step hl ht11 "false" 2 (by decide)
 replace W:=W11
 clear W11
 replace S:=S.trans m11
 replace K1:=m11 _ _ K1
 clear m11
 generalize upd G10 t11 (.tup [.str "false",.str l,.str l])=G11 at *
 refine⟨zh (by show 5<=1000;decide),fun lb hlb=>?_⟩
 have mlb:=zd hlb (.lst [.ref t7,.ref t8,.ref t9,.ref t10,.ref t11])
 have elb:upd G11 lb (.lst [.ref t7,.ref t8,.ref t9,.ref t10,.ref t11]) lb=some (.lst [.ref t7,.ref t8,.ref t9,.ref t10,.ref t11]):=zb
 replace W:=W.same mlb
 replace S:=S.trans mlb
 replace K1:=mlb _ _ K1
 generalize upd G11 lb (.lst [.ref t7,.ref t8,.ref t9,.ref t10,.ref t11])=Glb at *
 refine⟨la,lb,_,_,rfl,rfl,K1,elb,zh (by show 6+5<=1000;decide),fun lc hlc=>?_⟩
 have mlc:=zd hlc (.lst ([V.ref t1,V.ref t2,V.ref t3,V.ref t4,V.ref t5,V.ref t6]++[V.ref t7,V.ref t8,V.ref t9,V.ref t10,V.ref t11]))
 have K2:upd Glb lc (.lst ([V.ref t1,V.ref t2,V.ref t3,V.ref t4,V.ref t5,V.ref t6]++[V.ref t7,V.ref t8,V.ref t9,V.ref t10,V.ref t11])) lc=some (.lst [V.ref t1,V.ref t2,V.ref t3,V.ref t4,V.ref t5,V.ref t6,V.ref t7,V.ref t8,V.ref t9,V.ref t10,V.ref t11]):=zb
 replace W:=W.same mlc
 replace S:=S.trans mlc
 replace K1:=K2
 clear K2
 generalize upd Glb lc (.lst ([V.ref t1,V.ref t2,V.ref t3,V.ref t4,V.ref t5,V.ref t6]++[V.ref t7,V.ref t8,V.ref t9,V.ref t10,V.ref t11]))=Glc at *
 refine⟨_,rfl,zh (by show 1<=1000;decide),fun t12 ht12=>?_⟩
 have m12:=zd ht12 (.tup [.str "with"])
 have W12:WR (upd Glc t12 (.tup [.str "with"])) _:=W.step hl ht12 "with" 0 (by decide)
 replace W:=W12
 clear W12
 replace S:=S.trans m12
 replace K1:=m12 _ _ K1
 clear m12
 generalize upd Glc t12 (.tup [.str "with"])=G12 at *
 refine⟨_,rfl,zh (by show 2<=1000;decide),fun t13 ht13=>?_⟩
 have m13:=zd ht13 (.tup [.str "least",.str l])
 have W13:WR (upd G12 t13 (.tup [.str "least",.str l])) _:=W.step hl ht13 "least" 1 (by decide)
 replace W:=W13
 clear W13
 replace S:=S.trans m13
 replace K1:=m13 _ _ K1
 clear m13
 generalize upd G12 t13 (.tup [.str "least",.str l])=G13 at *
 refine⟨_,rfl,_,rfl,zh (by show 3<=1000;decide),fun t14 ht14=>?_⟩
 have m14:=zd ht14 (.tup [.str "cut",.str l,.str l])
 have W14:WR (upd G13 t14 (.tup [.str "cut",.str l,.str l])) _:=W.step hl ht14 "cut" 2 (by decide)
 replace W:=W14
 clear W14
 replace S:=S.trans m14
 replace K1:=m14 _ _ K1
 clear m14
 generalize upd G13 t14 (.tup [.str "cut",.str l,.str l])=G14 at *
 refine⟨zh (by show 1<=1000;decide),fun t15 ht15=>?_⟩
 have m15:=zd ht15 (.tup [.str "tr"])
 have W15:WR (upd G14 t15 (.tup [.str "tr"])) _:=W.step hl ht15 "tr" 0 (by decide)
 replace W:=W15
 clear W15
 replace S:=S.trans m15
 replace K1:=m15 _ _ K1
 clear m15
 generalize upd G14 t15 (.tup [.str "tr"])=G15 at *
 refine⟨_,rfl,_,rfl,zh (by show 3<=1000;decide),fun t16 ht16=>?_⟩
 have m16:=zd ht16 (.tup [.str "thens",.str l,.str l])
 have W16:WR (upd G15 t16 (.tup [.str "thens",.str l,.str l])) _:=W.step hl ht16 "thens" 2 (by decide)
 replace W:=W16
 clear W16
 replace S:=S.trans m16
 replace K1:=m16 _ _ K1
 clear m16
 generalize upd G15 t16 (.tup [.str "thens",.str l,.str l])=G16 at *
 refine⟨zh (by show 5<=1000;decide),fun ld hld=>?_⟩
 have mld:=zd hld (.lst [.ref t12,.ref t13,.ref t14,.ref t15,.ref t16])
 have eld:upd G16 ld (.lst [.ref t12,.ref t13,.ref t14,.ref t15,.ref t16]) ld=some (.lst [.ref t12,.ref t13,.ref t14,.ref t15,.ref t16]):=zb
 replace W:=W.same mld
 replace S:=S.trans mld
 replace K1:=mld _ _ K1
 generalize upd G16 ld (.lst [.ref t12,.ref t13,.ref t14,.ref t15,.ref t16])=Gld at *
 refine⟨lc,ld,_,_,rfl,rfl,K1,eld,zh (by show 11+5<=1000;decide),fun le hle=>?_⟩
 have mle:=zd hle (.lst ([V.ref t1,V.ref t2,V.ref t3,V.ref t4,V.ref t5,V.ref t6,V.ref t7,V.ref t8,V.ref t9,V.ref t10,V.ref t11]++[V.ref t12,V.ref t13,V.ref t14,V.ref t15,V.ref t16]))
 have K2:upd Gld le (.lst ([V.ref t1,V.ref t2,V.ref t3,V.ref t4,V.ref t5,V.ref t6,V.ref t7,V.ref t8,V.ref t9,V.ref t10,V.ref t11]++[V.ref t12,V.ref t13,V.ref t14,V.ref t15,V.ref t16])) le=some (.lst [V.ref t1,V.ref t2,V.ref t3,V.ref t4,V.ref t5,V.ref t6,V.ref t7,V.ref t8,V.ref t9,V.ref t10,V.ref t11,V.ref t12,V.ref t13,V.ref t14,V.ref t15,V.ref t16]):=zb
 replace W:=W.same mle
 replace S:=S.trans mle
 replace K1:=K2
 clear K2
 generalize upd Gld le (.lst ([V.ref t1,V.ref t2,V.ref t3,V.ref t4,V.ref t5,V.ref t6,V.ref t7,V.ref t8,V.ref t9,V.ref t10,V.ref t11]++[V.ref t12,V.ref t13,V.ref t14,V.ref t15,V.ref t16]))=Gle at *
 obtain⟨u,so,hu,iu,lu,du⟩:=W.at (i:=x % 16) (CF _ (by decide))
 have eu:atI ([V.ref t1,V.ref t2,V.ref t3,V.ref t4,V.ref t5,V.ref t6,V.ref t7,V.ref t8,V.ref t9,V.ref t10,V.ref t11,V.ref t12,V.ref t13,V.ref t14,V.ref t15,V.ref t16]:List V) ((x:Int) % 16)=some u:=by
  rw[show (x:Int) % 16=((x % 16:Nat):Int) by rw[BU];rfl]
  exact qZ hu
 refine⟨_,rfl,_,_,rfl,rfl,(show (0:Int) < 16 by decide),.inl ⟨le,_,_,_,rfl,rfl,SqL.of K1,eu,?_⟩⟩
 exact q u so _ S iu lu du
abbrev qz:Stmt:=top 49
theorem zU:zu ["_law_saying_here", "_law_places", "_law_part", "_law_found"] ["_law_saying_here"] (zi qz):=⟨rfl,rfl,rfl,by decide +kernel,rfl,by decide +kernel,by decide +kernel⟩
theorem Zc {P:Program} {w:World} {K:PySem.W.Frag} {mg:Str->Option Value} {base:Heap} {f:Addr} {fd:FuncData} (F:Fun K "_law_first_name" "_law_first_name" qz f fd) (gb:Gb mg) {c:Nat->Addr} (cl:Cl K mg c) (j:Nat) (d_law_first_name:Def P w K mg base (1+j) "_law_first_name" ["_law_saying_here"] (wX j)):qA P w K mg base CX0 (1+j+1) f fd ["_law_saying_here"] (wX (j+1)):=by
 refine F.ok zU (fun vs H Q E h=>?_) (fun cdv A outer s H vs Q E hr h=>?_)
 ·obtain⟨v,s,rfl,_⟩:=h
  rfl
 obtain⟨v,s,rfl,ih,hj,d5,q⟩:=h
 refine⟨_,(@ze _ _ _ _ _ (@zx _ _ 1 _ _ _ _ zU.nd rfl (Or.inl rfl) (@pe_disp _ _ _ _ _ (@jc _ _ _ _ _ _ _ _ _ (@zm _ _ _ _) (@zf _ _ _ _) (@jc _ _ _ _ _ _ _ _ _ (@zm _ _ _ _) (@zf _ _ _ _) (@jc _ _ _ _ _ _ _ _ _ (@zm _ _ _ _) (@zf _ _ _ _) (@jc _ _ _ _ _ _ _ _ _ (@zm _ _ _ _) (@zf _ _ _ _) (@jc _ _ _ _ _ _ _ _ _ (@zm _ _ _ _) (@zf _ _ _ _) (@jc _ _ _ _ _ _ _ _ _ (@zm _ _ _ _) (@zf _ _ _ _) (@jc _ _ _ _ _ _ _ _ _ (@zm _ _ _ _) (@zf _ _ _ _) (@pps_nil _ _)))))))) rfl rfl (by simp) (by show 7<=15;decide)) rfl (by walk_at "f")) (@ze _ _ _ _ _ (@zO _ _ _ _ _ _ _ _ (@qk _ _ _ (@zo _ _ _ _ _ _ _ _ _ (@zZ _ K rfl) rfl gb.isinstance zn (@za _ _ _ _ _ (@pw _ 0 _ _ rfl rfl) (@za _ _ _ _ _ (@qX _ _ (.ty "str") _ _ rfl gb.str Jg rfl (by decide) (by decide)) (@zc _) rfl) rfl) (by decide) (by decide) rfl rfl) (by intro _;rfl)) (@zg _ _ _ (@zr _ _ _ _ (@jg _ _ _))) (@zq _)) (@ze _ _ _ _ _ (@zO _ _ _ _ _ _ _ _ (@zv _ _ _ _ _ _ _ _ (@op_ne _) (@pe_dget2 _ _ _ _ _ _ _ _ _ (@hu1 _ _ hr) (@pw _ 1 _ _ rfl rfl) (@zy _ _ _ _ _ _ _ (@zj _ K rfl) (@pw _ 0 _ _ rfl rfl) (@zf _ _ _ _) (fun _ _=>rfl)) (@jg _ _ _) ⟨rfl,rfl,rfl,rfl⟩) (@zA _ _ _ _ _ _ _ _ (@wA _) (@zo _ _ _ _ _ _ _ _ _ (@qe _ K rfl) rfl gb.len jP (@za _ _ _ _ _ (@pw _ 0 _ _ rfl rfl) (@zc _) rfl) (by decide) (by decide) rfl rfl) (@zf _ _ _ _)) (@zG _ _ (by decide) (by decide))) (@zg _ _ _ (@zr _ _ _ _ (@zy _ _ _ _ _ _ _ (@zj _ K rfl) (@pw _ 0 _ _ rfl rfl) (@zf _ _ _ _) (fun _ _=>rfl)))) (@zq _)) (@ze _ _ _ _ _ (@jl _ _ _ _ _ _ _ _ A0 rfl (@JV _ K _ _ _ (@qm _ _ _ _ _ _ _ _ _ _ (@kslT _ K rfl) (@pw _ 0 _ _ rfl rfl) (@qQ _ _ _ (@zf _ _ _ _)) (@qP _)) rfl) (@pgl _ 2 _ _ zU.nd rfl rfl) (@ze _ _ _ _ _ (@zx _ _ 3 _ _ _ _ zU.nd rfl (Or.inl rfl) (@zw _ _ _ _ _ _ _ _ _ _ _ d_law_first_name hr (by omega) rfl (@za _ _ _ _ _ (@pw _ 2 _ _ rfl rfl) (@zc _) rfl) (by decide) rfl rfl) rfl (by walk_at "f")) (@zg _ _ _ (@zO _ _ _ _ _ _ _ _ (@zv _ _ _ _ _ _ _ _ (@Zy _) (@pw _ 3 _ _ rfl rfl) (@jg _ _ _) (@zG _ _ (by decide) (by decide))) (@zg _ _ _ (@zr _ _ _ _ (@pw _ 3 _ _ rfl rfl))) (@zq _)))) (by intro _;rfl)) (@zg _ _ _ (@zr _ _ _ _ (@jg _ _ _))))))),?_⟩
 refine fun D hD=>⟨zb,qJ,rfl,by decide,?_⟩
 have n1:zE H (upd (upd H D (.dK [])) D (.dK (qI [] qJ))):=(zd hD _).put hD
 have hD1:upd (upd H D (.dK [])) D (.dK (qI [] qJ)) D=some (.dK (qI [] qJ)):=zb
 generalize upd (upd H D (.dK [])) D (.dK (qI [] qJ))=H1 at *
 cases hs:s.isL with
 | true=>
  obtain rfl:=ih.letter hs
  refine⟨_,rfl,_,_,_,true,rfl,.str _,qN "str",true,rfl,jN ?_⟩
  exact q none H1 n1 (Zr (.inl hs) (by cases s with | ltr x=>exact fun z hz=>by cases hz | _=>cases hs))
 | false=>
  obtain⟨t,us,rfl,ht,hP⟩:=ih.node hs
  refine⟨_,rfl,_,_,_,false,rfl,.tup (n1 _ _ ht),ZM (K:=K) (.tup []),false,rfl,ZC ?_⟩
  have hul:=Ac hP
  have ht1:=n1 _ _ ht
  have sc:=y4 (s:=s) (n:=((.str s.nm :: us:List V).length:Int) - 1) (by rw[Ay,<- hul];omega) hs
  refine⟨_,rfl,D,rfl,.inl ⟨_,Rd.of hD1⟩,_,rfl,.inr (.inl ⟨t,_,_,_,rfl,rfl,SqT.of ht1,at0,_,.inl ⟨_,Sum.inr s.nm,Rd.of hD1,rfl,rfl⟩,_,rfl,_,_,rfl,.inr ⟨_,SqT.of ht1,rfl⟩,_,_,rfl,rfl,sc.1,_,rfl,?_⟩)⟩
  by_cases kn:KnC s
  case neg=>
   rw[sc.2.2 kn]
   refine jN ⟨_,rfl,.inr (.inl ⟨t,_,_,_,rfl,rfl,SqT.of ht1,at0,q (some s.nm) H1 n1 ?_⟩)⟩
   show Jx KnC s.nm s.sub
   rw[Sy.sub_ps]
   exact Jy kn
  rw[sc.2.1 kn]
  refine ZC ?_
  refine⟨_,rfl,_,rfl,ZR ht1 fun t2 H2 s2 ht2=>⟨t2,rfl,⟨_,SqT.of ht2⟩,?_⟩⟩
  rw[jr (by simp)] at ht2
  replace ht2:H2 t2=some (.tup us):=ht2
  refine WM (xs:=us) (fun i σ H'=>(∃ x2 x3,σ=[some (.ref t),some (.ref D),x2,x3])/\zE H2 H'/\∀ (j:Nat) (z:Sy),j < i->s.ps[j]? = some z->∀ y ∈ z.sub,KnC y) ⟨⟨_,_,rfl⟩,zE.refl _,fun j z h=>absurd h (Bb _)⟩ (fun i σ H' _ h=>SqT.of (h.2.1 _ _ ht2)) ?_ ?_
  ·rintro i x σ H3 hx ⟨⟨x2,x3,rfl⟩,s3,hall⟩
   have hi:=(AD.mp hx).1
   have hz:s.ps[i]? = some s.ps[i]:=AE (by omega)
   generalize s.ps[i]=z at hz
   have iz:=Paired.at hP i _ _ hz hx
   have dz:=Sy.dp_lt (AH hz)
   have S3:=(n1.trans s2).trans s3
   match j,hj,d_law_first_name with
   | 0,hj,_=>exact absurd hj (by omega)
   | j+1,hj,_=>
   refine⟨_,rfl,x,z,rfl,iz.same S3,by omega,by omega,fun o H4 s4 fo=>?_⟩
   refine⟨_,rfl,rfl,_,rfl,?_⟩
   cases o with
   | none=>
    rw[AS (show oV none=V.non from rfl)]
    refine ZC ⟨⟨_,_,rfl⟩,s3.trans s4,fun j' w hj' hw=>?_⟩
    rcases BR j' i with e | e
    ·exact hall j' w e hw
    ·have e2:j'=i:=by omega
     rw[e2,hz] at hw
     rw[<- AO hw]
     exact fo
   | some nm=>
    rw[AQ (show ¬ oV (some nm)=V.non from fun z=>nomatch z)]
    exact jN ⟨_,rfl,q (some nm) H4 (S3.trans s4) (JA kn hall hz fo)⟩
  ·rintro σ H3 ⟨⟨x2,x3,rfl⟩,s3,hall⟩
   refine q none H3 ((n1.trans s2).trans s3) (Zr kn fun z hz=>?_)
   obtain⟨j',hj'⟩:=BL.mp hz
   exact hall j' z (by have:=(AD.mp hj').1;omega) hj'
abbrev qj:Stmt:=top 50
theorem zY:zu ["_law_saying_here", "_law_grading", "_law_part", "_law_found"] ["_law_saying_here", "_law_grading"] (zi qj):=⟨rfl,rfl,rfl,by decide +kernel,rfl,by decide +kernel,by decide +kernel⟩
theorem jM {P:Program} {w:World} {K:PySem.W.Frag} {mg:Str->Option Value} {base:Heap} {f:Addr} {fd:FuncData} (F:Fun K "_law_first_letter" "_law_first_letter" qj f fd) (gb:Gb mg) {c:Nat->Addr} (cl:Cl K mg c) (j:Nat) (d_law_first_letter:Def P w K mg base (1+j) "_law_first_letter" ["_law_saying_here", "_law_grading"] ((wY K) j)):qA P w K mg base CX0 (1+j+1) f fd ["_law_saying_here", "_law_grading"] ((wY K) (j+1)):=by
 refine F.ok zY (fun vs H Q E h=>?_) (fun cdv A outer s H vs Q E hr h=>?_)
 ·obtain⟨v,s,g,ρ,M,rfl,_⟩:=h
  rfl
 obtain⟨v,s,g,ρ,M,rfl,ih,ig,hj,d5,q⟩:=h
 refine⟨_,(@ze _ _ _ _ _ (@zO _ _ _ _ _ _ _ _ (@qk _ _ _ (@zo _ _ _ _ _ _ _ _ _ (@zZ _ K rfl) rfl gb.isinstance zn (@za _ _ _ _ _ (@pw _ 0 _ _ rfl rfl) (@za _ _ _ _ _ (@qX _ _ (.ty "str") _ _ rfl gb.str Jg rfl (by decide) (by decide)) (@zc _) rfl) rfl) (by decide) (by decide) rfl rfl) (by intro _;rfl)) (@zg _ _ _ (@zr _ _ _ _ (@zy _ _ _ _ _ _ _ (@zj _ K rfl) (@zW _ _ _ _ (@za _ _ _ _ _ (@pw _ 0 _ _ rfl rfl) (@za _ _ _ _ _ (@jg _ _ _) (@zc _) rfl) rfl)) (@Zz _ _ _ _ _ _ _ _ _ (@WS _) rfl gb.int bt_int (@za _ _ _ _ _ (@JP _ _ _ _ _ _ _ _ (@op_kIn _ _ hr) (@pw _ 0 _ _ rfl rfl) (@pw _ 1 _ _ rfl rfl) (by with_unfolding_all rfl)) (@zc _) rfl) (by decide) (by decide) rfl rfl) (fun _ _=>rfl)))) (@zq _)) (@ze _ _ _ _ _ (@jl _ _ _ _ _ _ _ _ A0 rfl (@JV _ K _ _ _ (@qm _ _ _ _ _ _ _ _ _ _ (@kslT _ K rfl) (@pw _ 0 _ _ rfl rfl) (@qQ _ _ _ (@zf _ _ _ _)) (@qP _)) rfl) (@pgl _ 2 _ _ zY.nd rfl rfl) (@ze _ _ _ _ _ (@zx _ _ 3 _ _ _ _ zY.nd rfl (Or.inl rfl) (@zw _ _ _ _ _ _ _ _ _ _ _ d_law_first_letter hr (by omega) rfl (@za _ _ _ _ _ (@pw _ 2 _ _ rfl rfl) (@za _ _ _ _ _ (@pw _ 1 _ _ rfl rfl) (@zc _) rfl) rfl) (by decide) rfl rfl) rfl (by walk_at "f")) (@zg _ _ _ (@zO _ _ _ _ _ _ _ _ (@zv _ _ _ _ _ _ _ _ (@Zy _) (@pw _ 3 _ _ rfl rfl) (@jg _ _ _) (@zG _ _ (by decide) (by decide))) (@zg _ _ _ (@zr _ _ _ _ (@pw _ 3 _ _ rfl rfl))) (@zq _)))) (by intro _;rfl)) (@zg _ _ _ (@zr _ _ _ _ (@jg _ _ _))))),?_⟩
 cases hs:s.isL with
 | true=>
  obtain rfl:=ih.letter hs
  refine⟨_,rfl,_,_,_,true,rfl,.str _,qN "str",true,rfl,jN ?_⟩
  have np:∀ z ∈ s.ps,∀ y ∈ z.sub,KnL M y:=by
   cases s with
   | ltr x=>exact fun z hz=>by cases hz
   | _=>cases hs
  refine⟨_,rfl,zh (by show 2<=1000;decide),fun l hl=>?_⟩
  have n1:=zd hl (.lst [.str s.nm,.non])
  by_cases hm:s.nm ∈ M
  ·obtain⟨kvs,hk,hv⟩:=ig.gr.dk
   obtain⟨v,e,_⟩:=hv _ hm
   refine⟨_,rfl,_,rfl,g,kvs,Sum.inr s.nm,rfl,rfl,n1 _ _ hk,?_⟩
   rw[e]
   refine .inr ⟨_,rfl,.inl ⟨l,_,1,.non,rfl,rfl,SqL.of zb,rfl,?_⟩⟩
   exact q none _ n1 (Zr (fun _=>hm) np)
  ·obtain⟨kvs,hk,hv⟩:=ig.no
   refine⟨_,rfl,_,rfl,g,kvs,Sum.inr s.nm,rfl,rfl,n1 _ _ hk,?_⟩
   rw[hv _ hm]
   refine .inr ⟨_,rfl,.inl ⟨l,_,0,.str s.nm,rfl,rfl,SqL.of zb,rfl,?_⟩⟩
   refine q (some s.nm) _ n1 ?_
   show Jx (KnL M) s.nm s.sub
   rw[Sy.sub_ps]
   exact Jy (fun k=>hm (k hs))
 | false=>
  obtain⟨t,us,rfl,ht,hP⟩:=ih.node hs
  refine⟨_,rfl,_,_,_,false,rfl,.tup ht,ZM (K:=K) (.tup []),false,rfl,ZC ?_⟩
  have hul:=Ac hP
  have kn:KnL M s:=fun e=>by rw[hs] at e;cases e
  refine⟨_,rfl,_,rfl,ZR ht fun t2 H2 s2 ht2=>⟨t2,rfl,⟨_,SqT.of ht2⟩,?_⟩⟩
  rw[jr (by simp)] at ht2
  replace ht2:H2 t2=some (.tup us):=ht2
  refine WM (xs:=us) (fun i σ H'=>(∃ x2 x3,σ=[some (.ref t),some (.ref g),x2,x3])/\zE H2 H'/\∀ (j:Nat) (z:Sy),j < i->s.ps[j]? = some z->∀ y ∈ z.sub,(KnL M) y) ⟨⟨_,_,rfl⟩,zE.refl _,fun j z h=>absurd h (Bb _)⟩ (fun i σ H' _ h=>SqT.of (h.2.1 _ _ ht2)) ?_ ?_
  ·rintro i x σ H3 hx ⟨⟨x2,x3,rfl⟩,s3,hall⟩
   have hi:=(AD.mp hx).1
   have hz:s.ps[i]? = some s.ps[i]:=AE (by omega)
   generalize s.ps[i]=z at hz
   have iz:=Paired.at hP i _ _ hz hx
   have dz:=Sy.dp_lt (AH hz)
   have S3:=s2.trans s3
   match j,hj,d_law_first_letter with
   | 0,hj,_=>exact absurd hj (by omega)
   | j+1,hj,_=>
   refine⟨_,rfl,_,rfl,x,z,g,ρ,M,rfl,iz.same S3,ig.same S3,by omega,by omega,fun o H4 s4 fo=>?_⟩
   refine⟨_,rfl,rfl,_,rfl,?_⟩
   cases o with
   | none=>
    rw[AS (show oV none=V.non from rfl)]
    refine ZC ⟨⟨_,_,rfl⟩,s3.trans s4,fun j' w hj' hw=>?_⟩
    rcases BR j' i with e | e
    ·exact hall j' w e hw
    ·have e2:j'=i:=by omega
     rw[e2,hz] at hw
     rw[<- AO hw]
     exact fo
   | some nm=>
    rw[AQ (show ¬ oV (some nm)=V.non from fun z=>nomatch z)]
    exact jN ⟨_,rfl,q (some nm) H4 (S3.trans s4) (JA kn hall hz fo)⟩
  ·rintro σ H3 ⟨⟨x2,x3,rfl⟩,s3,hall⟩
   refine q none H3 (s2.trans s3) (Zr kn fun z hz=>?_)
   obtain⟨j',hj'⟩:=BL.mp hz
   exact hall j' z (by have:=(AD.mp hj').1;omega) hj'
abbrev Zd:Stmt:=top 51
theorem zH:zu ["_law_kind", "_law_saying_here", "_law_grading", "_law_seen_here", "_law_found", "e", "_law_others", "_law_kinds"] ["_law_kind", "_law_saying_here", "_law_grading"] (zi Zd):=⟨rfl,rfl,rfl,by decide +kernel,rfl,by decide +kernel,by decide +kernel⟩
theorem wv {P:Program} {w:World} {K:PySem.W.Frag} {mg:Str->Option Value} {base:Heap} {f:Addr} {fd:FuncData} (F:Fun K "_law_seen" "_law_seen" Zd f fd) (gb:Gb mg) {c:Nat->Addr} (cl:Cl K mg c) (d_grade_byX:Jj P w K mg base 13 "grade_by" ["kind", "S", "grading"] (spGBX K (c 2) (c 3) (c 4))):qA P w K mg base CX0 14 f fd ["_law_kind", "_law_saying_here", "_law_grading"] (y6 K):=by
 refine F.ok zH (fun vs H Q E h=>?_) (fun cdv A outer s H vs Q E hr h=>?_)
 ·obtain⟨t,kv,v,s,g,ρ,M,n,l,rfl,_⟩:=h
  rfl
 obtain⟨t,kv,v,s,g,ρ,M,n,l,rfl,ik,ih,lt,d5,ig,hM,hn,hl,q⟩:=h
 refine⟨_,(@ze _ _ _ _ _ (@zx _ _ 3 _ _ _ _ zH.nd rfl (Or.inl rfl) (@jg _ _ _) rfl (by walk_at "f")) (@ze _ _ _ _ _ (ps_tryD2 (i:=5) rfl rfl rfl zH.nd rfl rfl rfl cl.g_GradeError (@psd_set _ 4 _ _ _ _ _ zH.nd rfl (Or.inl rfl) (@ped_def _ _ _ _ _ _ _ _ _ _ _ d_grade_byX hr (by omega) rfl (@za _ _ _ _ _ (@pw _ 0 _ _ rfl rfl) (@za _ _ _ _ _ (@pw _ 1 _ _ rfl rfl) (@za _ _ _ _ _ (@pw _ 2 _ _ rfl rfl) (@zc _) rfl) rfl) rfl) (by decide) rfl rfl) rfl (by walk_at "f")) (@zg _ _ _ (@zO _ _ _ _ _ _ _ _ (@PW.pt _ _ _ (@Qd _ _ _ _ _ _ _ (@qk _ _ _ (@zo _ _ _ _ _ _ _ _ _ (@zZ _ K rfl) rfl gb.isinstance zn (@za _ _ _ _ _ (@pw _ 4 _ _ rfl rfl) (@za _ _ _ _ _ (@qX _ _ (.ty "tuple") _ _ rfl gb.tuple wF rfl (by decide) (by decide)) (@zc _) rfl) rfl) (by decide) (by decide) rfl rfl) (by intro _;rfl)) (@Zu _ _ _ _ (@zv _ _ _ _ _ _ _ _ (@jm _) (@zo _ _ _ _ _ _ _ _ _ (@qe _ K rfl) rfl gb.len jP (@za _ _ _ _ _ (@pw _ 4 _ _ rfl rfl) (@zc _) rfl) (by decide) (by decide) rfl rfl) (@zf _ _ _ _) (@zG _ _ (by decide) (by decide)))))) (@zg _ _ _ (@zx _ _ 3 _ _ _ _ zH.nd rfl (Or.inl rfl) (@zm _ _ _ _) rfl (by walk_at "f"))) (@zq _))) (fun _=>(@ze _ _ _ _ _ (@zx _ _ 3 _ _ _ _ zH.nd rfl (Or.inl rfl) (@zm _ _ _ _) rfl (by walk_at "f")) (@ze _ _ _ _ _ (@zx _ _ 6 _ _ _ _ zH.nd rfl (Or.inl rfl) (@zW _ _ _ _ (@za _ _ _ _ _ (@zo _ _ _ _ _ _ _ _ _ (@zC _ _ _ _ (@zk _ K _ cl.h_NoKind rfl) (@zC _ _ _ _ (@zk _ K _ cl.h_NoName rfl) (@zk _ K _ cl.h_NoLetter rfl))) rfl gb.isinstance zn (@za _ _ _ _ _ (@pw _ 5 _ _ rfl rfl) (@za _ _ _ _ _ (@zM _ _ (.ref _) _ _ rfl cl.g_NoCount rfl (by decide)) (@zc _) rfl) rfl) (by decide) (by decide) rfl rfl) (@za _ _ _ _ _ (@zo _ _ _ _ _ _ _ _ _ (@zC _ _ _ _ (@zk _ K _ cl.h_NoKind rfl) (@zC _ _ _ _ (@zk _ K _ cl.h_NoName rfl) (@zk _ K _ cl.h_NoLetter rfl))) rfl gb.isinstance zn (@za _ _ _ _ _ (@pw _ 5 _ _ rfl rfl) (@za _ _ _ _ _ (@zM _ _ (.ref _) _ _ rfl cl.g_NoFraction rfl (by decide)) (@zc _) rfl) rfl) (by decide) (by decide) rfl rfl) (@za _ _ _ _ _ (@zo _ _ _ _ _ _ _ _ _ (@zC _ _ _ _ (@zk _ K _ cl.h_NoKind rfl) (@zC _ _ _ _ (@zk _ K _ cl.h_NoName rfl) (@zk _ K _ cl.h_NoLetter rfl))) rfl gb.isinstance zn (@za _ _ _ _ _ (@pw _ 5 _ _ rfl rfl) (@za _ _ _ _ _ (@zM _ _ (.ref _) _ _ rfl cl.g_NoKept rfl (by decide)) (@zc _) rfl) rfl) (by decide) (by decide) rfl rfl) (@za _ _ _ _ _ (@zo _ _ _ _ _ _ _ _ _ (@zC _ _ _ _ (@zk _ K _ cl.h_NoKind rfl) (@zC _ _ _ _ (@zk _ K _ cl.h_NoName rfl) (@zk _ K _ cl.h_NoLetter rfl))) rfl gb.isinstance zn (@za _ _ _ _ _ (@pw _ 5 _ _ rfl rfl) (@za _ _ _ _ _ (@zM _ _ (.ref _) _ _ rfl cl.g_NoRow rfl (by decide)) (@zc _) rfl) rfl) (by decide) (by decide) rfl rfl) (@zc _) rfl) rfl) rfl) rfl)) rfl (by walk_at "f")) (@ze _ _ _ _ _ (@zx _ _ 6 _ _ _ _ zH.nd rfl (Or.inl rfl) (@zA _ _ _ _ _ _ _ _ (@ZB _) (@pw _ 6 _ _ rfl rfl) (@zW _ _ _ _ (@za _ _ _ _ _ (@zo _ _ _ _ _ _ _ _ _ (@zC _ _ _ _ (@zk _ K _ cl.h_NoKind rfl) (@zC _ _ _ _ (@zk _ K _ cl.h_NoName rfl) (@zk _ K _ cl.h_NoLetter rfl))) rfl gb.isinstance zn (@za _ _ _ _ _ (@pw _ 5 _ _ rfl rfl) (@za _ _ _ _ _ (@zM _ _ (.ref _) _ _ rfl cl.g_NoSaying rfl (by decide)) (@zc _) rfl) rfl) (by decide) (by decide) rfl rfl) (@za _ _ _ _ _ (@zo _ _ _ _ _ _ _ _ _ (@zC _ _ _ _ (@zk _ K _ cl.h_NoKind rfl) (@zC _ _ _ _ (@zk _ K _ cl.h_NoName rfl) (@zk _ K _ cl.h_NoLetter rfl))) rfl gb.isinstance zn (@za _ _ _ _ _ (@pw _ 5 _ _ rfl rfl) (@za _ _ _ _ _ (@zM _ _ (.ref _) _ _ rfl cl.g_NoTable rfl (by decide)) (@zc _) rfl) rfl) (by decide) (by decide) rfl rfl) (@za _ _ _ _ _ (@zo _ _ _ _ _ _ _ _ _ (@zC _ _ _ _ (@zk _ K _ cl.h_NoKind rfl) (@zC _ _ _ _ (@zk _ K _ cl.h_NoName rfl) (@zk _ K _ cl.h_NoLetter rfl))) rfl gb.isinstance zn (@za _ _ _ _ _ (@pw _ 5 _ _ rfl rfl) (@za _ _ _ _ _ (@zM _ _ (.ref _) _ _ rfl cl.g_TooMany rfl (by decide)) (@zc _) rfl) rfl) (by decide) (by decide) rfl rfl) (@zc _) rfl) rfl) rfl))) rfl (by walk_at "f")) (@ze _ _ _ _ _ (@zx _ _ 7 _ _ _ _ zH.nd rfl (Or.inl rfl) (@zW _ _ _ _ (@za _ _ _ _ _ (@zo _ _ _ _ _ _ _ _ _ (@zC _ _ _ _ (@zk _ K _ cl.h_NoKind rfl) (@zC _ _ _ _ (@zk _ K _ cl.h_NoName rfl) (@zk _ K _ cl.h_NoLetter rfl))) rfl gb.isinstance zn (@za _ _ _ _ _ (@pw _ 5 _ _ rfl rfl) (@za _ _ _ _ _ (@zM _ _ (.ref _) _ _ rfl cl.g_NoKind rfl (by decide)) (@zc _) rfl) rfl) (by decide) (by decide) rfl rfl) (@za _ _ _ _ _ (@zo _ _ _ _ _ _ _ _ _ (@zC _ _ _ _ (@zk _ K _ cl.h_NoKind rfl) (@zC _ _ _ _ (@zk _ K _ cl.h_NoName rfl) (@zk _ K _ cl.h_NoLetter rfl))) rfl gb.isinstance zn (@za _ _ _ _ _ (@pw _ 5 _ _ rfl rfl) (@za _ _ _ _ _ (@zM _ _ (.ref _) _ _ rfl cl.g_NoName rfl (by decide)) (@zc _) rfl) rfl) (by decide) (by decide) rfl rfl) (@za _ _ _ _ _ (@zo _ _ _ _ _ _ _ _ _ (@zC _ _ _ _ (@zk _ K _ cl.h_NoKind rfl) (@zC _ _ _ _ (@zk _ K _ cl.h_NoName rfl) (@zk _ K _ cl.h_NoLetter rfl))) rfl gb.isinstance zn (@za _ _ _ _ _ (@pw _ 5 _ _ rfl rfl) (@za _ _ _ _ _ (@zM _ _ (.ref _) _ _ rfl cl.g_NoLetter rfl (by decide)) (@zc _) rfl) rfl) (by decide) (by decide) rfl rfl) (@zc _) rfl) rfl) rfl)) rfl (by walk_at "f")) (@zg _ _ _ (@zO _ _ _ _ _ _ _ _ (@PW.pt _ _ _ (@Qd _ _ _ _ _ _ _ (@qk _ _ _ (@zo _ _ _ _ _ _ _ _ _ (@zC _ _ _ _ (@jC _ K _ cl.h_NoKind rfl) (@zC _ _ _ _ (@jC _ K _ cl.h_NoName rfl) (@jC _ K _ cl.h_NoLetter rfl))) rfl gb.isinstance zn (@za _ _ _ _ _ (@pw _ 5 _ _ rfl rfl) (@za _ _ _ _ _ (@qX _ _ (.ty "ValueError") _ _ rfl gb.ValueError QF rfl (by decide) (by decide)) (@zc _) rfl) rfl) (by decide) (by decide) rfl rfl) (by intro _;rfl)) (@Qd _ _ _ _ _ _ _ (@Zv _ _ _ _ (@qk _ _ _ (@zo _ _ _ _ _ _ _ _ _ (@Wu _ K _ (Jw _ _) rfl) rfl gb.any bt_any (@za _ _ _ _ _ (@pw _ 6 _ _ rfl rfl) (@zc _) rfl) (by decide) (by decide) rfl rfl) (by intro _;rfl))) (@Zu _ _ _ _ (@zv _ _ _ _ _ _ _ _ (@jm _) (@ZF _ K _ _ _ _ _ _ _ _ _ _ _ Ao PySem.F.slot_list_count PySem.F.type_list_count (@yJ _) (@pw _ 7 _ _ rfl rfl) (@za _ _ _ _ _ (@pe_bl _ _ _ _) (@zc _) rfl) rfl rfl rfl rfl rfl rfl) (@zf _ _ _ _) (@zG _ _ (by decide) (by decide))))))) (@ze _ _ _ _ _ (@zx _ _ 3 _ _ _ _ zH.nd rfl (Or.inl rfl) (@zm _ _ _ _) rfl (by walk_at "f")) (@ze _ _ _ _ _ (@zO _ _ _ _ _ _ _ _ (@qk _ _ _ (@zy _ _ _ _ _ _ _ (@zj _ K rfl) (@pw _ 7 _ _ rfl rfl) (@zf _ _ _ _) (fun _ _=>rfl)) (by intro _;rfl)) (@zg _ _ _ (@zx _ _ 3 _ _ _ _ zH.nd rfl (Or.inl rfl) (@zB _ _ _ _ _ (@za _ _ _ _ _ (@zm _ _ _ _) (@za _ _ _ _ _ (@yr _ _ _ _ _ (@pw _ 5 _ _ rfl rfl) rfl) (@zc _) rfl) rfl)) rfl (by walk_at "f"))) (@zq _)) (@zg _ _ _ (@zO _ _ _ _ _ _ _ _ (@qk _ _ _ (@zy _ _ _ _ _ _ _ (@zj _ K rfl) (@pw _ 7 _ _ rfl rfl) (@zf _ _ _ _) (fun _ _=>rfl)) (by intro _;rfl)) (@zg _ _ _ (@zx _ _ 3 _ _ _ _ zH.nd rfl (Or.inl rfl) (@zB _ _ _ _ _ (@za _ _ _ _ _ (@zm _ _ _ _) (@za _ _ _ _ _ (@yr _ _ _ _ _ (@pw _ 5 _ _ rfl rfl) rfl) (@zc _) rfl) rfl)) rfl (by walk_at "f"))) (@zq _))))) (@zq _))))))))) (@zg _ _ _ (@zr _ _ _ _ (@pw _ 3 _ _ rfl rfl))))),?_⟩
 refine⟨_,rfl,_,rfl,_,rfl,t,kv,v,s,g,ρ,M,rfl,ik,ih,lt,d5,ig,hM,fun kb H1 s1=>⟨cl.m_NoKind,fun ea hea=>?_⟩,fun kb nm hb d H1 s1 hd=>⟨cl.m_NoName,fun ea hea=>?_⟩,fun kb kn x hb d H1 s1 hd=>⟨cl.m_NoLetter,fun ea hea=>?_⟩,fun kb kn kl p a b H1 s1 hp=>?_⟩
 ·have n1:=zd hea (Z1 ea (.ref (c 3)) none)
  have he1:=@zb H1 ea (Z1 ea (.ref (c 3)) none)
  replace n1:=s1.trans n1
  generalize upd H1 ea (Z1 ea (.ref (c 3)) none)=G at *
  refine⟨_,rfl,.inl ⟨ea,_,_,_,rfl,he1,cl.k_NoKind_NoCount,_,rfl,.inl ⟨ea,_,_,_,rfl,he1,cl.k_NoKind_NoFraction,_,rfl,.inl ⟨ea,_,_,_,rfl,he1,cl.k_NoKind_NoKept,_,rfl,.inl ⟨ea,_,_,_,rfl,he1,cl.k_NoKind_NoRow,zh (by show 4<=1000;decide),fun l1 h1=>?_⟩⟩⟩⟩⟩
  have m1:=zd h1 (.lst [.bl false,.bl false,.bl false,.bl false])
  have he2:=m1 _ _ he1
  have E1:=@zb G l1 (.lst [.bl false,.bl false,.bl false,.bl false])
  generalize upd G l1 (.lst [.bl false,.bl false,.bl false,.bl false])=G1 at *
  refine⟨_,rfl,_,rfl,.inl ⟨ea,_,_,_,rfl,he2,cl.k_NoKind_NoSaying,_,rfl,.inl ⟨ea,_,_,_,rfl,he2,cl.k_NoKind_NoTable,_,rfl,.inl ⟨ea,_,_,_,rfl,he2,cl.k_NoKind_TooMany,zh (by show 3<=1000;decide),fun l2 h2=>?_⟩⟩⟩⟩
  have m2:=zd h2 (.lst [.bl false,.bl false,.bl false])
  have he3:=m2 _ _ he2
  replace E1:=m2 _ _ E1
  have E2:=@zb G1 l2 (.lst [.bl false,.bl false,.bl false])
  generalize upd G1 l2 (.lst [.bl false,.bl false,.bl false])=G2 at *
  refine⟨l1,l2,_,_,rfl,rfl,E1,E2,zh (by show 4+3<=1000;decide),fun l3 h3=>?_⟩
  have m3:=zd h3 (.lst ([.bl false,.bl false,.bl false,.bl false]++[.bl false,.bl false,.bl false]))
  have he4:=m3 _ _ he3
  have E3:=@zb G2 l3 (.lst ([.bl false,.bl false,.bl false,.bl false]++[.bl false,.bl false,.bl false]))
  generalize upd G2 l3 (.lst ([.bl false,.bl false,.bl false,.bl false]++[.bl false,.bl false,.bl false]))=G3 at *
  refine⟨_,rfl,.inl ⟨ea,_,_,_,rfl,he4,cl.k_NoKind_NoKind,_,rfl,.inl ⟨ea,_,_,_,rfl,he4,cl.k_NoKind_NoName,_,rfl,.inl ⟨ea,_,_,_,rfl,he4,cl.k_NoKind_NoLetter,zh (by show 3<=1000;decide),fun l4 h4=>?_⟩⟩⟩⟩
  have m4:=zd h4 (.lst [.bl true,.bl false,.bl false])
  have he5:=m4 _ _ he4
  replace E3:=m4 _ _ E3
  have E4:=@zb G3 l4 (.lst [.bl true,.bl false,.bl false])
  generalize upd G3 l4 (.lst [.bl true,.bl false,.bl false])=G4 at *
  refine⟨_,rfl,.inl ⟨ea,_,_,_,rfl,he5,cl.v_NoKind,true,rfl,jN ?_⟩⟩
  refine⟨_,rfl,l3,[false,false,false,false,false,false,false],_,_,rfl,SqL.of E3,he5,_,rfl,jN ?_⟩
  refine⟨_,rfl,.inl ⟨rfl,_,SqL.of E4⟩,l4,_,_,rfl,rfl,E4,rfl,rfl,rfl,_,rfl,Z3 (by decide +kernel) ?_⟩
  have S4:=n1.trans (m1.trans (m2.trans (m3.trans m4)))
  refine⟨_,rfl,.inl ⟨l4,_,1,_,rfl,rfl,SqL.of E4,rfl,_,rfl,ZC ?_⟩⟩
  refine⟨_,rfl,.inl ⟨l4,_,2,_,rfl,rfl,SqL.of E4,rfl,_,rfl,ZC ?_⟩⟩
  refine⟨_,rfl,q _ G4 S4 ?_⟩
  rw[kb]
  exact rfl
 ·have de:d ≠ ea:=zF zb hea
  have n1:zE H (upd (upd H1 d (.xd [("name",.str nm)])) ea (Z1 ea (.ref (c 2)) (some d))):=s1.trans ((zd hd _).trans (zd hea _))
  have hd1:upd (upd H1 d (.xd [("name",.str nm)])) ea (Z1 ea (.ref (c 2)) (some d)) d=some (.xd [("name",.str nm)]):=by rw[zt de,zb]
  have he1:upd (upd H1 d (.xd [("name",.str nm)])) ea (Z1 ea (.ref (c 2)) (some d)) ea=some (Z1 ea (.ref (c 2)) (some d)):=zb
  generalize upd (upd H1 d (.xd [("name",.str nm)])) ea (Z1 ea (.ref (c 2)) (some d))=G at *
  refine⟨_,rfl,.inr (.inl ⟨ea,_,_,_,rfl,he1,cl.k_NoName_NoCount,_,rfl,.inr (.inl ⟨ea,_,_,_,rfl,he1,cl.k_NoName_NoFraction,_,rfl,.inr (.inl ⟨ea,_,_,_,rfl,he1,cl.k_NoName_NoKept,_,rfl,.inr (.inl ⟨ea,_,_,_,rfl,he1,cl.k_NoName_NoRow,zh (by show 4<=1000;decide),fun l1 h1=>?_⟩)⟩)⟩)⟩)⟩
  have m1:=zd h1 (.lst [.bl false,.bl false,.bl false,.bl false])
  have he2:=m1 _ _ he1
  have E1:=@zb G l1 (.lst [.bl false,.bl false,.bl false,.bl false])
  generalize upd G l1 (.lst [.bl false,.bl false,.bl false,.bl false])=G1 at *
  refine⟨_,rfl,_,rfl,.inr (.inl ⟨ea,_,_,_,rfl,he2,cl.k_NoName_NoSaying,_,rfl,.inr (.inl ⟨ea,_,_,_,rfl,he2,cl.k_NoName_NoTable,_,rfl,.inr (.inl ⟨ea,_,_,_,rfl,he2,cl.k_NoName_TooMany,zh (by show 3<=1000;decide),fun l2 h2=>?_⟩)⟩)⟩)⟩
  have m2:=zd h2 (.lst [.bl false,.bl false,.bl false])
  have he3:=m2 _ _ he2
  replace E1:=m2 _ _ E1
  have E2:=@zb G1 l2 (.lst [.bl false,.bl false,.bl false])
  generalize upd G1 l2 (.lst [.bl false,.bl false,.bl false])=G2 at *
  refine⟨l1,l2,_,_,rfl,rfl,E1,E2,zh (by show 4+3<=1000;decide),fun l3 h3=>?_⟩
  have m3:=zd h3 (.lst ([.bl false,.bl false,.bl false,.bl false]++[.bl false,.bl false,.bl false]))
  have he4:=m3 _ _ he3
  have E3:=@zb G2 l3 (.lst ([.bl false,.bl false,.bl false,.bl false]++[.bl false,.bl false,.bl false]))
  generalize upd G2 l3 (.lst ([.bl false,.bl false,.bl false,.bl false]++[.bl false,.bl false,.bl false]))=G3 at *
  refine⟨_,rfl,.inr (.inl ⟨ea,_,_,_,rfl,he4,cl.k_NoName_NoKind,_,rfl,.inr (.inl ⟨ea,_,_,_,rfl,he4,cl.k_NoName_NoName,_,rfl,.inr (.inl ⟨ea,_,_,_,rfl,he4,cl.k_NoName_NoLetter,zh (by show 3<=1000;decide),fun l4 h4=>?_⟩)⟩)⟩)⟩
  have m4:=zd h4 (.lst [.bl false,.bl true,.bl false])
  have he5:=m4 _ _ he4
  replace E3:=m4 _ _ E3
  have E4:=@zb G3 l4 (.lst [.bl false,.bl true,.bl false])
  generalize upd G3 l4 (.lst [.bl false,.bl true,.bl false])=G4 at *
  refine⟨_,rfl,.inr (.inl ⟨ea,_,_,_,rfl,he5,cl.v_NoName,true,rfl,jN ?_⟩)⟩
  refine⟨_,rfl,l3,[false,false,false,false,false,false,false],_,_,rfl,SqL.of E3,he5,_,rfl,jN ?_⟩
  refine⟨_,rfl,.inl ⟨rfl,_,SqL.of E4⟩,l4,_,_,rfl,rfl,E4,rfl,rfl,rfl,_,rfl,Z3 (by decide +kernel) ?_⟩
  have S4:=n1.trans (m1.trans (m2.trans (m3.trans m4)))
  have hd5:=(m1.trans (m2.trans (m3.trans m4))) _ _ hd1
  refine⟨_,rfl,.inl ⟨l4,_,1,_,rfl,rfl,SqL.of E4,rfl,_,rfl,jN ⟨_,rfl,ea,_,d,_,_,rfl,he5,hd5,rfl,cl.xi_NoName,zh (by show 2<=1000;decide),fun t5 ht5=>?_⟩⟩⟩
  have m5:=zd ht5 (.tup [.str "name",.str nm])
  have e5:=@zb G4 t5 (.tup [.str "name",.str nm])
  replace E4:=m5 _ _ E4
  generalize upd G4 t5 (.tup [.str "name",.str nm])=G5 at *
  refine⟨_,rfl,.inl ⟨l4,_,2,_,rfl,rfl,SqL.of E4,rfl,_,rfl,ZC ?_⟩⟩
  refine⟨_,rfl,q _ G5 (S4.trans m5) ?_⟩
  rw[kb]
  cases n with
  | none=>exact (jG hb hn).elim
  | some nm'=>
   rw[ZS hn hb]
   exact⟨t5,rfl,e5⟩
 ·have de:d ≠ ea:=zF zb hea
  have n1:zE H (upd (upd H1 d (.xd [("letter",.str x)])) ea (Z1 ea (.ref (c 4)) (some d))):=s1.trans ((zd hd _).trans (zd hea _))
  have hd1:upd (upd H1 d (.xd [("letter",.str x)])) ea (Z1 ea (.ref (c 4)) (some d)) d=some (.xd [("letter",.str x)]):=by rw[zt de,zb]
  have he1:upd (upd H1 d (.xd [("letter",.str x)])) ea (Z1 ea (.ref (c 4)) (some d)) ea=some (Z1 ea (.ref (c 4)) (some d)):=zb
  generalize upd (upd H1 d (.xd [("letter",.str x)])) ea (Z1 ea (.ref (c 4)) (some d))=G at *
  refine⟨_,rfl,.inr (.inr ⟨ea,_,_,_,rfl,he1,cl.k_NoLetter_NoCount,_,rfl,.inr (.inr ⟨ea,_,_,_,rfl,he1,cl.k_NoLetter_NoFraction,_,rfl,.inr (.inr ⟨ea,_,_,_,rfl,he1,cl.k_NoLetter_NoKept,_,rfl,.inr (.inr ⟨ea,_,_,_,rfl,he1,cl.k_NoLetter_NoRow,zh (by show 4<=1000;decide),fun l1 h1=>?_⟩)⟩)⟩)⟩)⟩
  have m1:=zd h1 (.lst [.bl false,.bl false,.bl false,.bl false])
  have he2:=m1 _ _ he1
  have E1:=@zb G l1 (.lst [.bl false,.bl false,.bl false,.bl false])
  generalize upd G l1 (.lst [.bl false,.bl false,.bl false,.bl false])=G1 at *
  refine⟨_,rfl,_,rfl,.inr (.inr ⟨ea,_,_,_,rfl,he2,cl.k_NoLetter_NoSaying,_,rfl,.inr (.inr ⟨ea,_,_,_,rfl,he2,cl.k_NoLetter_NoTable,_,rfl,.inr (.inr ⟨ea,_,_,_,rfl,he2,cl.k_NoLetter_TooMany,zh (by show 3<=1000;decide),fun l2 h2=>?_⟩)⟩)⟩)⟩
  have m2:=zd h2 (.lst [.bl false,.bl false,.bl false])
  have he3:=m2 _ _ he2
  replace E1:=m2 _ _ E1
  have E2:=@zb G1 l2 (.lst [.bl false,.bl false,.bl false])
  generalize upd G1 l2 (.lst [.bl false,.bl false,.bl false])=G2 at *
  refine⟨l1,l2,_,_,rfl,rfl,E1,E2,zh (by show 4+3<=1000;decide),fun l3 h3=>?_⟩
  have m3:=zd h3 (.lst ([.bl false,.bl false,.bl false,.bl false]++[.bl false,.bl false,.bl false]))
  have he4:=m3 _ _ he3
  have E3:=@zb G2 l3 (.lst ([.bl false,.bl false,.bl false,.bl false]++[.bl false,.bl false,.bl false]))
  generalize upd G2 l3 (.lst ([.bl false,.bl false,.bl false,.bl false]++[.bl false,.bl false,.bl false]))=G3 at *
  refine⟨_,rfl,.inr (.inr ⟨ea,_,_,_,rfl,he4,cl.k_NoLetter_NoKind,_,rfl,.inr (.inr ⟨ea,_,_,_,rfl,he4,cl.k_NoLetter_NoName,_,rfl,.inr (.inr ⟨ea,_,_,_,rfl,he4,cl.k_NoLetter_NoLetter,zh (by show 3<=1000;decide),fun l4 h4=>?_⟩)⟩)⟩)⟩
  have m4:=zd h4 (.lst [.bl false,.bl false,.bl true])
  have he5:=m4 _ _ he4
  replace E3:=m4 _ _ E3
  have E4:=@zb G3 l4 (.lst [.bl false,.bl false,.bl true])
  generalize upd G3 l4 (.lst [.bl false,.bl false,.bl true])=G4 at *
  refine⟨_,rfl,.inr (.inr ⟨ea,_,_,_,rfl,he5,cl.v_NoLetter,true,rfl,jN ?_⟩)⟩
  refine⟨_,rfl,l3,[false,false,false,false,false,false,false],_,_,rfl,SqL.of E3,he5,_,rfl,jN ?_⟩
  refine⟨_,rfl,.inl ⟨rfl,_,SqL.of E4⟩,l4,_,_,rfl,rfl,E4,rfl,rfl,rfl,_,rfl,Z3 (by decide +kernel) ?_⟩
  have S4:=n1.trans (m1.trans (m2.trans (m3.trans m4)))
  refine⟨_,rfl,.inl ⟨l4,_,1,_,rfl,rfl,SqL.of E4,rfl,_,rfl,ZC ?_⟩⟩
  have hd5:=(m1.trans (m2.trans (m3.trans m4))) _ _ hd1
  refine⟨_,rfl,.inl ⟨l4,_,2,_,rfl,rfl,SqL.of E4,rfl,_,rfl,jN ⟨_,rfl,ea,_,d,_,_,rfl,he5,hd5,rfl,cl.xi_NoLetter,zh (by show 2<=1000;decide),fun t5 ht5=>?_⟩⟩⟩
  have m5:=zd ht5 (.tup [.str "letter",.str x])
  have e5:=@zb G4 t5 (.tup [.str "letter",.str x])
  replace E4:=m5 _ _ E4
  generalize upd G4 t5 (.tup [.str "letter",.str x])=G5 at *
  refine⟨_,rfl,q _ G5 (S4.trans m5) ?_⟩
  rw[kb]
  cases n with
  | some nm'=>exact (jG hn kn).elim
  | none=>
   cases l with
   | none=>exact (jG hb hl).elim
   | some x'=>
    rw[ZS hl hb]
    exact⟨t5,rfl,e5⟩
 ·refine⟨_,rfl,_,_,_,true,rfl,.tup hp,qN "tuple",true,rfl,jN ⟨_,rfl,_,_,rfl,.inr ⟨_,SqT.of hp,rfl⟩,rfl,_,rfl,jN ?_⟩⟩
  refine⟨_,rfl,q _ H1 s1 ?_⟩
  cases n with
  | some nm=>exact (jG hn kn).elim
  | none=>
   cases l with
   | some x=>exact (jG hl kl).elim
   | none=>
    rw[kb]
    exact rfl
abbrev QZ:Stmt:=top 52
theorem qp:zu ["_law_script", "_law_cell", "_law_xs", "_law_some", "_law_saying_here", "_law_k", "_law_spots_here", "_law_grading", "_law_letter", "_law_odd", "_law_kind", "_law_due", "_law_kept"] ["_law_script"] (zi QZ):=⟨rfl,rfl,rfl,by decide +kernel,rfl,by decide +kernel,by decide +kernel⟩
theorem ok_law {P:Program} {w:World} {K:PySem.W.Frag} {mg:Str->Option Value} {base:Heap} {f:Addr} {fd:FuncData} (F:Fun K "law" "law" QZ f fd) (gb:Gb mg) {c:Nat->Addr} (cl:Cl K mg c) (d_law_parts:Def P w K mg base 1 "_law_parts" ["_law_cell", "_law_sizes"] wd) (d_law_letters:Def P w K mg base 1 "_law_letters" ["_law_xs", "_law_many"] ZT) (d_law_wrong:Def P w K mg base 1 "_law_wrong" ["_law_xs", "_law_letter"] wm) (d_law_seen:Def P w K mg base 14 "_law_seen" ["_law_kind", "_law_saying_here", "_law_grading"] (y6 K)) (d_law_saying:Def P w K mg base 6 "_law_saying" ["_law_xs", "_law_at", "_law_deep", "_law_letters_here"] (Zq 5)) (d_law_spots:Def P w K mg base 7 "_law_spots" ["_law_saying_here"] (QV 6)) (d_law_put:Def P w K mg base 7 "_law_put" ["_law_saying_here", "_law_spot", "_law_other"] (spPut 6)) (d_law_first_name:Def P w K mg base 7 "_law_first_name" ["_law_saying_here"] (wX 6)) (d_law_first_letter:Def P w K mg base 7 "_law_first_letter" ["_law_saying_here", "_law_grading"] ((wY K) 6)):qA P w K mg base CX0 15 f fd ["_law_script"] (spLaw K):=by
 refine F.ok qp (fun vs H Q E h=>?_) (fun cdv A outer s H vs Q E hr h=>?_)
 ·obtain⟨a,ns,rfl,_⟩:=h
  rfl
 obtain⟨a,ns,rfl,hS,hn,q⟩:=h
 refine⟨_,(@ze _ _ _ _ _ (@jl _ _ _ _ _ _ _ _ A0 rfl (@q5 _ K _ _ _ (@zA _ _ _ _ _ _ _ _ (@ZB _) (@Zz _ _ _ _ _ _ _ _ _ (@Qy _ K rfl) rfl gb.list yc (@za _ _ _ _ _ (@qm _ _ _ _ _ _ _ _ _ _ (@JU _ K rfl) (@pw _ 0 _ _ rfl rfl) (@qP _) (@qQ _ _ _ (@zf _ _ _ _))) (@zc _) rfl) (by decide) (by decide) rfl rfl) (@zW _ _ _ _ (@za _ _ _ _ _ (@zf _ _ _ _) (@zc _) rfl))) rfl) (@pgl _ 1 _ _ qp.nd rfl rfl) (@ze _ _ _ _ _ (@zx _ _ 2 _ _ _ _ qp.nd rfl (Or.inl rfl) (@zw _ _ _ _ _ _ _ _ _ _ _ d_law_parts hr (by omega) rfl (@za _ _ _ _ _ (@pw _ 1 _ _ rfl rfl) (@za _ _ _ _ _ (@zA _ _ _ _ _ _ _ _ (@ZB _) (@zA _ _ _ _ _ _ _ _ (@ZB _) (@zA _ _ _ _ _ _ _ _ (@yD _ K) (@zW _ _ _ _ (@za _ _ _ _ _ (@zf _ _ _ _) (@zc _) rfl)) (@zf _ _ _ _)) (@zA _ _ _ _ _ _ _ _ (@yD _ K) (@zW _ _ _ _ (@za _ _ _ _ _ (@zf _ _ _ _) (@zc _) rfl)) (@zf _ _ _ _))) (@zW _ _ _ _ (@za _ _ _ _ _ (@zf _ _ _ _) (@za _ _ _ _ _ (@zf _ _ _ _) (@za _ _ _ _ _ (@zf _ _ _ _) (@za _ _ _ _ _ (@zf _ _ _ _) (@za _ _ _ _ _ (@zf _ _ _ _) (@za _ _ _ _ _ (@zf _ _ _ _) (@za _ _ _ _ _ (@zf _ _ _ _) (@za _ _ _ _ _ (@zf _ _ _ _) (@zc _) rfl) rfl) rfl) rfl) rfl) rfl) rfl) rfl))) (@zc _) rfl) rfl) (by decide) rfl rfl) rfl (by walk_at "f")) (@ze _ _ _ _ _ (@zx _ _ 3 _ _ _ _ qp.nd rfl (Or.inl rfl) (@zw _ _ _ _ _ _ _ _ _ _ _ d_law_letters hr (by omega) rfl (@za _ _ _ _ _ (@qm _ _ _ _ _ _ _ _ _ _ (@JU _ K rfl) (@pw _ 2 _ _ rfl rfl) (@qQ _ _ _ (@zf _ _ _ _)) (@qP _)) (@za _ _ _ _ _ (@zf _ _ _ _) (@zc _) rfl) rfl) (by decide) rfl rfl) rfl (by walk_at "f")) (@ze _ _ _ _ _ (@zx _ _ 4 _ _ _ _ qp.nd rfl (Or.inl rfl) (@zw _ _ _ _ _ _ _ _ _ _ _ d_law_saying hr (by omega) rfl (@za _ _ _ _ _ (@pw _ 2 _ _ rfl rfl) (@za _ _ _ _ _ (@zf _ _ _ _) (@za _ _ _ _ _ (@zf _ _ _ _) (@za _ _ _ _ _ (@qm _ _ _ _ _ _ _ _ _ _ (@JU _ K rfl) (@pw _ 3 _ _ rfl rfl) (@qP _) (@qQ _ _ _ (@zA _ _ _ _ _ _ _ _ (@jO _) (@zf _ _ _ _) (@zy _ _ _ _ _ _ _ (@zj _ K rfl) (@pw _ 2 _ _ rfl rfl) (@zf _ _ _ _) (fun _ _=>rfl))))) (@zc _) rfl) rfl) rfl) rfl) (by decide) rfl rfl) rfl (by walk_at "f")) (@ze _ _ _ _ _ (@jl _ _ _ _ _ _ _ _ A0 rfl (@Zw _ _ _ _ _ _ rfl gb.range (@za _ _ _ _ _ (@zy _ _ _ _ _ _ _ (@zj _ K rfl) (@pw _ 2 _ _ rfl rfl) (@zf _ _ _ _) (fun _ _=>rfl)) (@zc _) rfl) rfl) (@pgl _ 5 _ _ qp.nd rfl rfl) (@ze _ _ _ _ _ (@zx _ _ 6 _ _ _ _ qp.nd rfl (Or.inl rfl) (@zw _ _ _ _ _ _ _ _ _ _ _ d_law_spots hr (by omega) rfl (@za _ _ _ _ _ (@pw _ 4 _ _ rfl rfl) (@zc _) rfl) (by decide) rfl rfl) rfl (by walk_at "f")) (@zg _ _ _ (@zx _ _ 4 _ _ _ _ qp.nd rfl (Or.inl rfl) (@zw _ _ _ _ _ _ _ _ _ _ _ d_law_put hr (by omega) rfl (@za _ _ _ _ _ (@pw _ 4 _ _ rfl rfl) (@za _ _ _ _ _ (@zy _ _ _ _ _ _ _ (@zj _ K rfl) (@pw _ 6 _ _ rfl rfl) (@zA _ _ _ _ _ _ _ _ (@qV _) (@zy _ _ _ _ _ _ _ (@zj _ K rfl) (@pw _ 2 _ _ rfl rfl) (@zA _ _ _ _ _ _ _ _ (@jO _) (@zf _ _ _ _) (@pw _ 5 _ _ rfl rfl)) (fun _ _=>rfl)) (@zo _ _ _ _ _ _ _ _ _ (@qe _ K rfl) rfl gb.len jP (@za _ _ _ _ _ (@pw _ 6 _ _ rfl rfl) (@zc _) rfl) (by decide) (by decide) rfl rfl)) (fun _ _=>rfl)) (@za _ _ _ _ _ (@zw _ _ _ _ _ _ _ _ _ _ _ d_law_wrong hr (by omega) rfl (@za _ _ _ _ _ (@zy _ _ _ _ _ _ _ (@zj _ K rfl) (@pw _ 2 _ _ rfl rfl) (@zA _ _ _ _ _ _ _ _ (@jO _) (@zf _ _ _ _) (@pw _ 5 _ _ rfl rfl)) (fun _ _=>rfl)) (@za _ _ _ _ _ (@zy _ _ _ _ _ _ _ (@zj _ K rfl) (@pw _ 3 _ _ rfl rfl) (@pw _ 5 _ _ rfl rfl) (fun _ _=>rfl)) (@zc _) rfl) rfl) (by decide) rfl rfl) (@zc _) rfl) rfl) rfl) (by decide) rfl rfl) rfl (by walk_at "f")))) (by intro _;rfl)) (@ze _ _ _ _ _ (@zx _ _ 7 _ _ _ _ qp.nd rfl (Or.inl rfl) (@pe_dnewK _ _) rfl (by walk_at "f")) (@ze _ _ _ _ _ (@jl _ _ _ _ _ _ _ _ A0 rfl (@q5 _ K _ _ _ (@pw _ 3 _ _ rfl rfl) rfl) (@pgl _ 8 _ _ qp.nd rfl rfl) (@zg _ _ _ (@ps_kput _ _ _ _ _ _ _ _ _ _ hr (@pw _ 7 _ _ rfl rfl) (@pw _ 8 _ _ rfl rfl) (@zB _ _ _ _ _ (@za _ _ _ _ _ (@zf _ _ _ _) (@za _ _ _ _ _ (@zf _ _ _ _) (@zc _) rfl) rfl)) rfl)) (by intro _;rfl)) (@ze _ _ _ _ _ (@zO _ _ _ _ _ _ _ _ (@zv _ _ _ _ _ _ _ _ (@jm _) (@zy _ _ _ _ _ _ _ (@zj _ K rfl) (@pw _ 2 _ _ rfl rfl) (@zf _ _ _ _) (fun _ _=>rfl)) (@zf _ _ _ _) (@zG _ _ (by decide) (by decide))) (@zg _ _ _ (@qr _ _ _ _ (pe_dpop1 (@pw _ 7 _ _ rfl rfl) (@zy _ _ _ _ _ _ _ (@zj _ K rfl) (@pw _ 3 _ _ rfl rfl) (@zA _ _ _ _ _ _ _ _ (@qV _) (@zy _ _ _ _ _ _ _ (@zj _ K rfl) (@pw _ 2 _ _ rfl rfl) (@zf _ _ _ _) (fun _ _=>rfl)) (@zf _ _ _ _)) (fun _ _=>rfl)) ⟨rfl,rfl,rfl,rfl⟩) rfl)) (@zq _)) (@ze _ _ _ _ _ (@zx _ _ 9 _ _ _ _ qp.nd rfl (Or.inl rfl) (@zW _ _ _ _ (@za _ _ _ _ _ (@zm _ _ _ _) (@za _ _ _ _ _ (@zm _ _ _ _) (@za _ _ _ _ _ (@zm _ _ _ _) (@za _ _ _ _ _ (@zm _ _ _ _) (@za _ _ _ _ _ (@zm _ _ _ _) (@za _ _ _ _ _ (@zm _ _ _ _) (@za _ _ _ _ _ (@zf _ _ _ _) (@za _ _ _ _ _ (@jg _ _ _) (@za _ _ _ _ _ (@zW _ _ _ _ (@za _ _ _ _ _ (@zm _ _ _ _) (@zc _) rfl)) (@za _ _ _ _ _ (@zB _ _ _ _ _ (@za _ _ _ _ _ (@zm _ _ _ _) (@zc _) rfl)) (@zc _) rfl) rfl) rfl) rfl) rfl) rfl) rfl) rfl) rfl) rfl)) rfl (by walk_at "f")) (@ze _ _ _ _ _ (@zx _ _ 10 _ _ _ _ qp.nd rfl (Or.inl rfl) (@zy _ _ _ _ _ _ _ (@zj _ K rfl) (@zA _ _ _ _ _ _ _ _ (@ZB _) (@pw _ 9 _ _ rfl rfl) (@zW _ _ _ _ (@za _ _ _ _ _ (@zm _ _ _ _) (@za _ _ _ _ _ (@zm _ _ _ _) (@zc _) rfl) rfl))) (@zy _ _ _ _ _ _ _ (@zj _ K rfl) (@pw _ 2 _ _ rfl rfl) (@zf _ _ _ _) (fun _ _=>rfl)) (fun _ _=>rfl)) rfl (by walk_at "f")) (@ze _ _ _ _ _ (@zx _ _ 11 _ _ _ _ qp.nd rfl (Or.inl rfl) (@zm _ _ _ _) rfl (by walk_at "f")) (@ze _ _ _ _ _ (@zO _ _ _ _ _ _ _ _ (@zv _ _ _ _ _ _ _ _ (@Zy _) (@zw _ _ _ _ _ _ _ _ _ _ _ d_law_first_letter hr (by omega) rfl (@za _ _ _ _ _ (@pw _ 4 _ _ rfl rfl) (@za _ _ _ _ _ (@pw _ 7 _ _ rfl rfl) (@zc _) rfl) rfl) (by decide) rfl rfl) (@jg _ _ _) (@zG _ _ (by decide) (by decide))) (@zg _ _ _ (@zx _ _ 11 _ _ _ _ qp.nd rfl (Or.inl rfl) (@zB _ _ _ _ _ (@za _ _ _ _ _ (@zm _ _ _ _) (@za _ _ _ _ _ (@zw _ _ _ _ _ _ _ _ _ _ _ d_law_first_letter hr (by omega) rfl (@za _ _ _ _ _ (@pw _ 4 _ _ rfl rfl) (@za _ _ _ _ _ (@pw _ 7 _ _ rfl rfl) (@zc _) rfl) rfl) (by decide) rfl rfl) (@zc _) rfl) rfl)) rfl (by walk_at "f"))) (@zq _)) (@ze _ _ _ _ _ (@zO _ _ _ _ _ _ _ _ (@zv _ _ _ _ _ _ _ _ (@Zy _) (@zw _ _ _ _ _ _ _ _ _ _ _ d_law_first_name hr (by omega) rfl (@za _ _ _ _ _ (@pw _ 4 _ _ rfl rfl) (@zc _) rfl) (by decide) rfl rfl) (@jg _ _ _) (@zG _ _ (by decide) (by decide))) (@zg _ _ _ (@zx _ _ 11 _ _ _ _ qp.nd rfl (Or.inl rfl) (@zB _ _ _ _ _ (@za _ _ _ _ _ (@zm _ _ _ _) (@za _ _ _ _ _ (@zw _ _ _ _ _ _ _ _ _ _ _ d_law_first_name hr (by omega) rfl (@za _ _ _ _ _ (@pw _ 4 _ _ rfl rfl) (@zc _) rfl) (by decide) rfl rfl) (@zc _) rfl) rfl)) rfl (by walk_at "f"))) (@zq _)) (@ze _ _ _ _ _ (@zO _ _ _ _ _ _ _ _ (@zv _ _ _ _ _ _ _ _ (@op_lt _) (@zy _ _ _ _ _ _ _ (@zj _ K rfl) (@pw _ 2 _ _ rfl rfl) (@zf _ _ _ _) (fun _ _=>rfl)) (@zf _ _ _ _) (@zG _ _ (by decide) (by decide))) (@zg _ _ _ (@zx _ _ 11 _ _ _ _ qp.nd rfl (Or.inl rfl) (@zm _ _ _ _) rfl (by walk_at "f"))) (@zq _)) (@ze _ _ _ _ _ (@zO _ _ _ _ _ _ _ _ (@zv _ _ _ _ _ _ _ _ (@opOr _ _ _ _ (@op_ne _) (@op_neT _ K _ hr rfl)) (@zw _ _ _ _ _ _ _ _ _ _ _ d_law_seen hr (by omega) rfl (@za _ _ _ _ _ (@pw _ 10 _ _ rfl rfl) (@za _ _ _ _ _ (@pw _ 4 _ _ rfl rfl) (@za _ _ _ _ _ (@pw _ 7 _ _ rfl rfl) (@zc _) rfl) rfl) rfl) (by decide) rfl rfl) (@pw _ 11 _ _ rfl rfl) (@zG _ _ (by decide) (by decide))) (@zg _ _ _ (@zr _ _ _ _ (@pe_bl _ _ _ _))) (@zq _)) (@zg _ _ _ (@zO _ _ _ _ _ _ _ _ (@zv _ _ _ _ _ _ _ _ (@op_lt _) (@zy _ _ _ _ _ _ _ (@zj _ K rfl) (@pw _ 2 _ _ rfl rfl) (@zf _ _ _ _) (fun _ _=>rfl)) (@zf _ _ _ _) (@zG _ _ (by decide) (by decide))) (@ze _ _ _ _ _ (@zx _ _ 12 _ _ _ _ qp.nd rfl (Or.inl rfl) (@zw _ _ _ _ _ _ _ _ _ _ _ d_law_seen hr (by omega) rfl (@za _ _ _ _ _ (@zm _ _ _ _) (@za _ _ _ _ _ (@pw _ 4 _ _ rfl rfl) (@za _ _ _ _ _ (@pw _ 7 _ _ rfl rfl) (@zc _) rfl) rfl) rfl) (by decide) rfl rfl) rfl (by walk_at "f")) (@zg _ _ _ (@zO _ _ _ _ _ _ _ _ (@PW.pt _ _ _ (@Qd _ _ _ _ _ _ _ (@zv _ _ _ _ _ _ _ _ (@Zy _) (@zw _ _ _ _ _ _ _ _ _ _ _ d_law_first_name hr (by omega) rfl (@za _ _ _ _ _ (@pw _ 4 _ _ rfl rfl) (@zc _) rfl) (by decide) rfl rfl) (@jg _ _ _) (@zG _ _ (by decide) (by decide))) (@Zu _ _ _ _ (@zv _ _ _ _ _ _ _ _ (@opOr _ _ _ _ (@op_ne _) (@op_neT _ K _ hr rfl)) (@pw _ 12 _ _ rfl rfl) (@zB _ _ _ _ _ (@za _ _ _ _ _ (@zm _ _ _ _) (@za _ _ _ _ _ (@zw _ _ _ _ _ _ _ _ _ _ _ d_law_first_name hr (by omega) rfl (@za _ _ _ _ _ (@pw _ 4 _ _ rfl rfl) (@zc _) rfl) (by decide) rfl rfl) (@zc _) rfl) rfl)) (@zG _ _ (by decide) (by decide)))))) (@zg _ _ _ (@zr _ _ _ _ (@pe_bl _ _ _ _))) (@zq _)))) (@zq _))))))))))))))))) (by intro _;rfl)) (@zg _ _ _ (@zr _ _ _ _ (@pe_bl _ _ _ _)))),?_⟩
 obtain⟨cs,ec,hc⟩:=cut_ints (f:=V.int) ns none (some 15)
 refine⟨_,rfl,_,rfl,.inl ⟨a,_,rfl,hS,fun p0 hp0=>?_⟩⟩
 rw[ec]
 have m0:=zd hp0 (.lst (cs.map V.int))
 refine⟨p0,_,rfl,.inl (SqL.of zb),fun p1 hp1=>?_⟩
 have m1:=zd hp1 (.lst (cs.map V.int))
 refine⟨zh (by show 1<=1000;decide),fun p2 hp2=>?_⟩
 have m2:=zd hp2 (.lst [V.int 0])
 refine⟨p1,p2,_,_,rfl,rfl,m2 _ _ zb,zb,by rw[AF];exact zh (by show _+1<=1000;omega),fun p3 hp3=>?_⟩
 have m3:=zd hp3 (.lst (cs.map V.int++[V.int 0]))
 have hl3:(upd (upd (upd (upd H p0 (.lst (cs.map V.int))) p1 (.lst (cs.map V.int))) p2 (.lst [V.int 0])) p3 (.lst (cs.map V.int++[V.int 0]))) p3=some (.lst ((cs++[0]).map V.int)):=by rw[zb,AU];rfl
 generalize upd (upd (upd (upd H p0 (.lst (cs.map V.int))) p1 (.lst (cs.map V.int))) p2 (.lst [V.int 0])) p3 (.lst (cs.map V.int++[V.int 0]))=H3 at hl3 ⊢
 refine⟨p3,rfl,⟨_,SqL.of hl3⟩,?_⟩
 refine qY (xs:=(cs++[0]).map V.int) (fun i σ H'=>(∃ x1 x2 x3 x4 x5 x6 x7 x8 x9 x10 x11 x12,σ=[some (.ref a),x1,x2,x3,x4,x5,x6,x7,x8,x9,x10,x11,x12])/\zE H3 H') ⟨⟨_,_,_,_,_,_,_,_,_,_,_,_,rfl⟩,zE.refl _⟩ (fun i σ H' _ h=>SqL.of (h.2 _ _ hl3)) ?_ (fun σ H' h=>q H')
 rintro i x σ H4 hx ⟨⟨x1,x2,x3,x4,x5,x6,x7,x8,x9,x10,x11,x12,rfl⟩,S4⟩
 rw[An] at hx
 obtain⟨ci,hci,rfl⟩:=Ar.mp hx
 refine⟨_,rfl,zh (by show 1<=1000;decide),fun a0 ha0=>?_⟩
 refine⟨a0,_,15,rfl,rfl,zb,by decide,by decide,by decide,fun b0 hb0=>?_⟩
 have k0:=(zd ha0 (.lst [V.int 720720])).trans (zd hb0 (.lst (List.replicate (15:Int).toNat [V.int 720720]).flatten))
 have e0:(upd (upd H4 a0 (.lst [V.int 720720])) b0 (.lst (List.replicate (15:Int).toNat [V.int 720720]).flatten)) b0=some (.lst ((List.replicate 15 720720).map nV)):=by rw[zb];exact BB (fun z=>some (HO.lst z)) (rep_nV 15 720720)
 generalize upd (upd H4 a0 (.lst [V.int 720720])) b0 (.lst (List.replicate (15:Int).toNat [V.int 720720]).flatten)=HZ0 at *
 refine⟨zh (by show 1<=1000;decide),fun a1 ha1=>?_⟩
 refine⟨a1,_,6,rfl,rfl,zb,by decide,by decide,by decide,fun b1 hb1=>?_⟩
 have k1:=(zd ha1 (.lst [V.int 26])).trans (zd hb1 (.lst (List.replicate (6:Int).toNat [V.int 26]).flatten))
 have e1:(upd (upd HZ0 a1 (.lst [V.int 26])) b1 (.lst (List.replicate (6:Int).toNat [V.int 26]).flatten)) b1=some (.lst ((List.replicate 6 26).map nV)):=by rw[zb];exact BB (fun z=>some (HO.lst z)) (rep_nV 6 26)
 replace e0:=k1 _ _ e0
 generalize upd (upd HZ0 a1 (.lst [V.int 26])) b1 (.lst (List.replicate (6:Int).toNat [V.int 26]).flatten)=HZ1 at *
 refine⟨b0,b1,_,_,rfl,rfl,e0,e1,by simp only[List.length_map,List.length_append,List.length_replicate];exact zh (by decide),fun c1 hc1=>?_⟩
 have kk1:=zd hc1 (.lst ((List.replicate 15 720720).map nV++(List.replicate 6 26:List Nat).map nV))
 have ee1:(upd HZ1 c1 (.lst ((List.replicate 15 720720).map nV++(List.replicate 6 26:List Nat).map nV))) c1=some (.lst ((List.replicate 15 720720++List.replicate 6 26).map nV)):=by rw[zb,AU (l₁:=List.replicate 15 720720)]
 generalize upd HZ1 c1 (.lst ((List.replicate 15 720720).map nV++(List.replicate 6 26:List Nat).map nV))=HY1 at *
 refine⟨zh (by show 8<=1000;decide),fun b2 hb2=>?_⟩
 have k2:=zd hb2 (.lst [V.int 4,V.int 3,V.int 720720,V.int 720720,V.int 16,V.int 16,V.int 3,V.int 12])
 have e2:(upd HY1 b2 (.lst [V.int 4,V.int 3,V.int 720720,V.int 720720,V.int 16,V.int 16,V.int 3,V.int 12])) b2=some (.lst (([4,3,720720,720720,16,16,3,12]:List Nat).map nV)):=zb
 replace ee1:=k2 _ _ ee1
 generalize upd HY1 b2 (.lst [V.int 4,V.int 3,V.int 720720,V.int 720720,V.int 16,V.int 16,V.int 3,V.int 12])=HZ2 at *
 refine⟨c1,b2,_,_,rfl,rfl,ee1,e2,by simp only[List.length_map,List.length_append,List.length_replicate];exact zh (by decide),fun c2 hc2=>?_⟩
 have kk2:=zd hc2 (.lst ((List.replicate 15 720720++List.replicate 6 26).map nV++([4,3,720720,720720,16,16,3,12]:List Nat).map nV))
 have ee2:(upd HZ2 c2 (.lst ((List.replicate 15 720720++List.replicate 6 26).map nV++([4,3,720720,720720,16,16,3,12]:List Nat).map nV))) c2=some (.lst ((List.replicate 15 720720++List.replicate 6 26++[4,3,720720,720720,16,16,3,12]).map nV)):=by rw[zb,AU (l₁:=List.replicate 15 720720++List.replicate 6 26)]
 generalize upd HZ2 c2 (.lst ((List.replicate 15 720720++List.replicate 6 26).map nV++([4,3,720720,720720,16,16,3,12]:List Nat).map nV))=HY2 at *
 have S9:zE H3 HY2:=S4.trans (k0.trans (k1.trans (kk1.trans (k2.trans (kk2)))))
 clear S4 k0 k1 kk1 k2 kk2
 have NSb:∀ n ∈ List.replicate 15 720720++List.replicate 6 26++[4,3,720720,720720,16,16,3,12],1<=n/\n<=10000000:=by decide +kernel
 refine⟨ci,c2,List.replicate 15 720720++List.replicate 6 26++[4,3,720720,720720,16,16,3,12],rfl,ee2,by decide,NSb,fun xs fs HA SA hxs fl flt=>?_⟩
 replace fl:fs.length=29:=fl
 have f7:∀ f ∈ fs,f<=10000000:=fun f hf=>by
  obtain⟨j,hj,e⟩:=List.getElem_of_mem hf
  have hj2:j < (List.replicate 15 720720++List.replicate 6 26++[4,3,720720,720720,16,16,3,12]).length:=by
   show j < 29
   omega
  have hn:=AE hj2
  have h2:=flt j _ f hn (by rw[AE hj,e])
  have h3:=(NSb _ (AH hn)).2
  omega
 clear NSb
 have SA3:=S9.trans SA
 -- the numbers drawn
 have gN:∀ (j n:Nat),(List.replicate 15 720720++List.replicate 6 26++[4,3,720720,720720,16,16,3,12])[j]? = some n->atI (fs.map nV) (j:Int)=some (nV (fs.getD j 0))/\fs.getD j 0 < n:=fun j n hn=>by
  have hj:j < fs.length:=by
   have:=(AD.mp hn).1
   simp at this
   omega
  refine⟨yU hj,flt j n _ hn ?_⟩
  rw[BC,AE hj]
  rfl
 obtain⟨e21,b21⟩:=gN 21 4 rfl
 obtain⟨e22,b22⟩:=gN 22 3 rfl
 obtain⟨e23,b23⟩:=gN 23 720720 rfl
 obtain⟨e24,b24⟩:=gN 24 720720 rfl
 obtain⟨e25,b25⟩:=gN 25 16 rfl
 obtain⟨e26,b26⟩:=gN 26 16 rfl
 obtain⟨e27,b27⟩:=gN 27 3 rfl
 obtain⟨e28,b28⟩:=gN 28 12 rfl
 clear gN
 -- the letters
 refine⟨_,rfl,_,rfl,.inl ⟨xs,_,rfl,SqL.of hxs,fun xd hxd=>?_⟩⟩
 rw[show Qe (fs.map nV) (some 15) none=(fs.drop 15).map nV from cut_from (k:=15) (by omega)]
 have nd:=zd hxd (.lst ((fs.drop 15).map nV))
 refine⟨xd,fs.drop 15,6,rfl,zb,by rw[BH];omega,by decide,fun lt ls HB SB hlt ll lc=>?_⟩
 have SB3:=SA3.trans (nd.trans SB)
 have hxsB:=(nd.trans SB) _ _ hxs
 have hltB:HB lt=some (.lst ((ls.map sgn).map V.str)):=by rw[List.map_map];exact hlt
 have hL:Ls (ls.map sgn):=fun x hx=>by
  obtain⟨c,hc,rfl⟩:=BS.mp hx
  exact sgn_ltr (lc c hc)
 have hLl:(ls.map sgn).length=6:=by rw[AF];exact ll
 clear hlt
 generalize ls.map sgn=L at hltB hL hLl
 -- the saying
 refine⟨_,rfl,_,rfl,_,rfl,.inl ⟨xs,_,_,_,rfl,rfl,SqL.of hxsB,e21,_,_,rfl,rfl,_,rfl,.inl ⟨lt,_,rfl,SqL.of hltB,fun lz hlz=>?_⟩⟩⟩
 generalize fs.getD 21 0=y21 at *
 generalize fs.getD 22 0=y22 at *
 generalize fs.getD 27 0=y27 at *
 generalize fs.getD 28 0=y28 at *
 have ez:Qe (L.map V.str) none (some (1+(y21:Int)))=(L.take (1+y21)).map V.str:=by
  rw[show (1+(y21:Int))=((1+y21:Nat):Int) by omega,cut_to,List.map_take]
 dsimp only
 rw[ez]
 have nz:=zd hlz (.lst ((L.take (1+y21)).map V.str))
 refine⟨xs,lz,fs,0,3,L.take (1+y21),rfl,nz _ _ hxsB,zb,by rw[Al];omega,by rw[Al];omega,by decide,by decide,by omega,by omega,fun v0 s0 HC SC iv0 gv0 dv0=>?_⟩
 have SC':=nz.trans SC
 have lv0:=QU (fun x hx=>hL x (List.mem_of_mem_take hx)) gv0
 -- the wrong parts
 refine⟨_,rfl,.inl ⟨xs,_,_,_,rfl,rfl,SqL.of (SC' _ _ hxsB),e22,(y22:Int),rfl,by omega,by omega,?_⟩⟩
 rw[B1]
 refine Zx (fun i σ H'=>(∃ x5 x6 v s,σ=[some (.ref a),some (.int ci),some (.ref xs),some (.ref lt),some v,x5,x6,x7,x8,x9,x10,x11,x12]/\ql H' s v/\jY s/\s.dp<=3+i)/\zE HB H') ⟨⟨_,_,v0,s0,rfl,iv0,lv0,dv0⟩,SC'⟩ ?_ ?_
 ·rintro i σ H1 hi ⟨⟨x5',x6',v,s,rfl,iv,lv,dv⟩,s1⟩
  refine⟨_,rfl,v,s,rfl,iv,(show s.dp<=5 by omega),by omega,fun l us pp H2 s2 hl hP ok l1 l2=>?_⟩
  have S2:=s1.trans s2
  have e23i:atI (fs.map nV) (23+(0+(i:Int)))=some (nV (fs.getD (23+i) 0)):=by
   rw[show 23+(0+(i:Int))=((23+i:Nat):Int) by omega]
   exact yU (by omega)
  have e25i:atI (fs.map nV) (25+(0+(i:Int)))=some (nV (fs.getD (25+i) 0)):=by
   rw[show 25+(0+(i:Int))=((25+i:Nat):Int) by omega]
   exact yU (by omega)
  have hx1:L[i]? = some L[i]:=AE (by omega)
  generalize L[i]=x at hx1
  have ex:atI (L.map V.str) (0+(i:Int))=some (.str x):=by rw[Int.zero_add];exact QT hx1
  have hpl:=Ac hP
  have hlt:=CF (fs.getD (23+i) 0) (show 0 < us.length by omega)
  obtain⟨u,hu⟩:∃ u,us[fs.getD (23+i) 0 % us.length]? = some u:=⟨_,AE hlt⟩
  obtain⟨p,hp⟩:∃ p,pp[fs.getD (23+i) 0 % us.length]? = some p:=⟨_,AE (by omega)⟩
  have ip:=Paired.at hP _ _ _ hp hu
  have okp:=ok p (AH hp)
  have eu:atI us (((fs.getD (23+i) 0:Nat):Int) % ((us.length:Nat):Int))=some u:=by
   rw[<- BU]
   exact qZ hu
  refine⟨_,rfl,_,rfl,_,rfl,_,rfl,_,_,rfl,rfl,.inl ⟨xs,_,_,_,rfl,rfl,SqL.of (S2 _ _ hxsB),e23i,_,rfl,_,_,rfl,.inl ⟨_,SqL.of hl,rfl⟩,_,_,rfl,rfl,(by omega),.inl ⟨l,_,_,_,rfl,rfl,SqL.of hl,eu,?_⟩⟩⟩
  refine⟨_,rfl,_,rfl,_,_,rfl,rfl,.inl ⟨xs,_,_,_,rfl,rfl,SqL.of (S2 _ _ hxsB),e25i,_,rfl,_,rfl,.inl ⟨lt,_,_,_,rfl,rfl,SqL.of (S2 _ _ hltB),ex,_,x,rfl,hL x (AH hx1),fun w o H3 s3 iw lw dw=>?_⟩⟩⟩
  have hpd:=wl okp
  refine⟨v,u,w,s,o,p,rfl,iv.same (s2.trans s3),ip.tk (Tk.of s3),okp,iw,(show p.length<=5 by omega),by omega,fun z H4 s4 iz=>?_⟩
  exact⟨⟨_,_,z,putS s p o,rfl,iz,wU lv lw okp,by have:=dp_put (o:=o) okp;omega⟩,S2.trans (s3.trans s4)⟩
 rintro σ HD ⟨⟨x5',x6',v,s,rfl,iv,lv,dv⟩,SD⟩
 have d5:s.dp<=5:=by omega
 clear iv0 gv0 dv0 lv0 SC SC' nz hlz ez
 have hxsD:=SD _ _ hxsB
 have hltD:=SD _ _ hltB
 have SD3:=SB3.trans SD
 -- the grading
 refine fun g hg=>?_
 have ng:=zd hg (.dK [])
 refine⟨_,rfl,lt,rfl,⟨_,SqL.of (ng _ _ hltD)⟩,?_⟩
 refine qY (xs:=L.map V.str) (fun i σ H'=>(∃ x8,σ=[some (.ref a),some (.int ci),some (.ref xs),some (.ref lt),some v,x5',x6',some (.ref g),x8,x9,x10,x11,x12])/\zE HD H'/\Gz K H' g (L.take i) i) ⟨⟨_,rfl⟩,ng,[],zb,AG _,(fun x hx=>by cases hx),fun _ _=>rfl⟩ (fun i σ H' _ h=>SqL.of (h.2.1 _ _ hltD)) ?_ ?_
 ·rintro i x σ H1 hx ⟨⟨x8',rfl⟩,s1,hz⟩
  have hi:=(AD.mp hx).1
  rw[AF] at hi
  rw[An] at hx
  obtain⟨w,hw,rfl⟩:=Ar.mp hx
  refine⟨zh (by show 2<=1000;decide),fun tq htq=>?_⟩
  have nq:=zd htq (.tup [.int 1,.int 2])
  have hz2:=hz.same nq
  obtain⟨kvs,hk,kl,_⟩:=id hz2
  refine⟨_,rfl,_,rfl,g,kvs,Sum.inr w,rfl,rfl,hk,zK (by omega),⟨_,rfl⟩,(s1.trans nq).put hg,?_⟩
  rw[take_snoc hw]
  exact hz2.step hk (fr_half zb)
 rintro σ HE ⟨⟨x8',rfl⟩,SE,hz⟩
 rw[AF,Ah (AG _),hLl] at hz
 dsimp only
 refine wZ (fun σ' H'=>σ'=[some (.ref a),some (.int ci),some (.ref xs),some (.ref lt),some v,x5',x6',some (.ref g),x8',x9,x10,x11,x12]/\zE HD H'/\∃ M,Gz K H' g M 6/\Ls M) (fun R hR=>?_) ?_
 ·refine⟨_,rfl,.inl ⟨xs,_,_,_,rfl,rfl,SqL.of (SE _ _ hxsD),e27,rfl,_,rfl,W0 (fun c1=>?_) (fun c1=>hR _ _ ⟨rfl,SE,L,hz,hL⟩)⟩⟩
  have hlt:=CF (fs.getD 23 0) (show 0 < 6 by decide)
  have hx1:L[fs.getD 23 0 % 6]? = some L[fs.getD 23 0 % 6]:=AE (by omega)
  generalize L[fs.getD 23 0 % 6]=w at hx1
  have ew:atI (L.map V.str) (((fs.getD 23 0:Nat):Int) % 6)=some (.str w):=by
   rw[show ((fs.getD 23 0:Nat):Int) % 6=((fs.getD 23 0 % 6:Nat):Int) by rw[BU];rfl]
   exact QT hx1
  obtain⟨kvs,hk,kl,hin,_⟩:=id hz
  obtain⟨vw,hvw,_⟩:=hin w (AH hx1)
  refine⟨_,rfl,g,rfl,.inl ⟨kvs,Rd.of hk⟩,_,rfl,_,rfl,.inl ⟨xs,_,_,_,rfl,rfl,SqL.of (SE _ _ hxsD),e23,_,_,rfl,rfl,(show (0:Int) < 6 by decide),.inl ⟨lt,_,_,_,rfl,rfl,SqL.of (SE _ _ hltD),ew,kvs,Sum.inr w,vw,hk,rfl,hvw,?_⟩⟩⟩
  exact hR _ _ ⟨rfl,SE.put hg,_,hz.drop w hk,fun x hx=>hL x (BK.mp hx).1⟩
 rintro _ HF ⟨rfl,SF,M,gz,hM⟩
 have ig:=gz.grx
 clear hz gz
 -- the kind
 refine⟨zh (by show 1<=1000;decide),fun c1 hc1=>⟨zh (by show 1<=1000;decide),fun c2 hc2=>⟨zh (by show 10<=1000;decide),fun lo hlo=>?_⟩⟩⟩
 have p1:=zd hc1 (.lst [V.str "cut"])
 have p2:=zd hc2 (.tup [V.str "least"])
 have p3:=zd hlo (.lst [V.str "Least",V.str "",V.str "leas",V.str "cuts",V.str "least ",V.str "times, cut",V.int 0,V.non,V.ref c1,V.ref c2])
 have k1:=(p2.trans p3) _ _ (@zb HF c1 (.lst [V.str "cut"]))
 have k2:=p3 _ _ (@zb (upd HF c1 (.lst [V.str "cut"])) c2 (.tup [V.str "least"]))
 have k3:=@zb (upd (upd HF c1 (.lst [V.str "cut"])) c2 (.tup [V.str "least"])) lo (.lst [V.str "Least",V.str "",V.str "leas",V.str "cuts",V.str "least ",V.str "times, cut",V.int 0,V.non,V.ref c1,V.ref c2])
 have p4:=p1.trans (p2.trans p3)
 clear p1 p2 p3
 generalize upd (upd (upd HF c1 (.lst [V.str "cut"])) c2 (.tup [V.str "least"])) lo (.lst [V.str "Least",V.str "",V.str "leas",V.str "cuts",V.str "least ",V.str "times, cut",V.int 0,V.non,V.ref c1,V.ref c2])=HG at *
 refine⟨_,rfl,zh (by show 2<=1000;decide),fun lp hlp=>?_⟩
 have p5:=zd hlp (.lst [V.str "least",V.str "times"])
 have k4:=@zb HG lp (.lst [V.str "least",V.str "times"])
 refine⟨lo,lp,_,_,rfl,rfl,p5 _ _ k3,k4,zh (by show 10+2<=1000;decide),fun lq hlq=>?_⟩
 have p6:=zd hlq (.lst ([V.str "Least",V.str "",V.str "leas",V.str "cuts",V.str "least ",V.str "times, cut",V.int 0,V.non,V.ref c1,V.ref c2]++[V.str "least",V.str "times"]))
 have k5:=@zb (upd HG lp (.lst [V.str "least",V.str "times"])) lq (.lst ([V.str "Least",V.str "",V.str "leas",V.str "cuts",V.str "least ",V.str "times, cut",V.int 0,V.non,V.ref c1,V.ref c2]++[V.str "least",V.str "times"]))
 replace k1:=(p5.trans p6) _ _ k1
 replace k2:=(p5.trans p6) _ _ k2
 have p7:=p4.trans (p5.trans p6)
 clear p4 p5 p6 k3 k4 hlq hlp
 generalize upd (upd HG lp (.lst [V.str "least",V.str "times"])) lq (.lst ([V.str "Least",V.str "",V.str "leas",V.str "cuts",V.str "least ",V.str "times, cut",V.int 0,V.non,V.ref c1,V.ref c2]++[V.str "least",V.str "times"]))=HI at *
 obtain⟨t,kv,hkv,ik,kb⟩:∃ t kv,([V.str "Least",V.str "",V.str "leas",V.str "cuts",V.str "least ",V.str "times, cut",V.int 0,V.non,V.ref c1,V.ref c2,V.str "least",V.str "times"]:List V)[y28]? = some kv/\Z2 HI t kv/\jX t=decide (10<=y28):=by
  match y28,b28 with
  | 0,_=>exact⟨.str "Least",_,rfl,.str _ (by decide),by decide +kernel⟩
  | 1,_=>exact⟨.str "",_,rfl,.str _ (by decide),by decide +kernel⟩
  | 2,_=>exact⟨.str "leas",_,rfl,.str _ (by decide),by decide +kernel⟩
  | 3,_=>exact⟨.str "cuts",_,rfl,.str _ (by decide),by decide +kernel⟩
  | 4,_=>exact⟨.str "least ",_,rfl,.str _ (by decide),by decide +kernel⟩
  | 5,_=>exact⟨.str "times, cut",_,rfl,.str _ (by decide),by decide +kernel⟩
  | 6,_=>exact⟨.int 0,_,rfl,.int 0,rfl⟩
  | 7,_=>exact⟨.non,_,rfl,.non,rfl⟩
  | 8,_=>exact⟨.lst,_,rfl,.lst k1,rfl⟩
  | 9,_=>exact⟨.tup [.str "least"],_,rfl,(Ths.tup (.cons (.str _ (by decide)) .nil) k2 (by decide)),rfl⟩
  | 10,_=>exact⟨.str "least",_,rfl,.str _ (by decide),by decide +kernel⟩
  | 11,_=>exact⟨.str "times",_,rfl,.str _ (by decide),by decide +kernel⟩
 have SI:=SF.trans p7
 refine⟨_,rfl,.inl ⟨xs,_,_,_,rfl,rfl,SqL.of (SI _ _ hxsD),e28,.inl ⟨lq,_,_,_,rfl,rfl,SqL.of k5,qZ hkv,?_⟩⟩⟩
 have ivI:=iv.same SI
 have igI:=ig.same p7
 clear k1 k2 k5 hkv
 -- what is due
 dsimp only[Zg]
 refine asgC ?_
 refine wZ (fun σ' H'=>∃ u o1,σ'=[some (.ref a),some (.int ci),some (.ref xs),some (.ref lt),some v,x5',x6',some (.ref g),x8',some (.ref lo),some kv,some u,x12]/\zE HI H'/\FstP (KnL M) s.sub o1/\QW H' true none o1 u) (fun R hR=>?_) ?_
 ·refine⟨_,rfl,_,rfl,v,s,g,_,M,rfl,ivI,igI,d5,d5,fun o1 H1 s1 f1=>⟨rfl,_,rfl,?_⟩⟩
  cases o1 with
  | none=>
   rw[AS (show oV none=V.non from rfl)]
   exact ZC (hR _ _ ⟨_,none,rfl,s1,f1,rfl⟩)
  | some x=>
   rw[AQ (show ¬ oV (some x)=V.non from fun z=>nomatch z)]
   refine jN ⟨_,rfl,_,rfl,v,s,g,_,M,rfl,ivI.same s1,igI.same s1,d5,d5,fun o1' H2 s2 f2=>?_⟩
   obtain rfl:=jV f2 f1
   exact⟨zh (by show 2<=1000;decide),fun tt htt=>hR _ _ ⟨_,some x,rfl,s1.trans (s2.trans (zd htt _)),f1,tt,rfl,zb⟩⟩
 rintro _ HJ ⟨u1,o1,rfl,SJ,f1,sv1⟩
 refine wZ (fun σ' H'=>∃ u o2,σ'=[some (.ref a),some (.int ci),some (.ref xs),some (.ref lt),some v,x5',x6',some (.ref g),x8',some (.ref lo),some kv,some u,x12]/\zE HJ H'/\FstP KnC s.sub o2/\QW H' true o2 o1 u) (fun R hR=>?_) ?_
 ·refine⟨_,rfl,v,s,rfl,ivI.same SJ,d5,d5,fun o2 H1 s1 f2=>⟨rfl,_,rfl,?_⟩⟩
  cases o2 with
  | none=>
   rw[AS (show oV none=V.non from rfl)]
   exact ZC (hR _ _ ⟨_,none,rfl,s1,f2,sv1.same s1⟩)
  | some x=>
   rw[AQ (show ¬ oV (some x)=V.non from fun z=>nomatch z)]
   refine jN ⟨_,rfl,v,s,rfl,ivI.same (SJ.trans s1),d5,d5,fun o2' H2 s2 f3=>?_⟩
   obtain rfl:=jV f3 f2
   exact⟨zh (by show 2<=1000;decide),fun tt htt=>hR _ _ ⟨_,some x,rfl,s1.trans (s2.trans (zd htt _)),f2,tt,rfl,zb⟩⟩
 rintro _ HK ⟨u2,o2,rfl,SK,f2,sv2⟩
 have SK':=SJ.trans SK
 refine wZ (fun σ' H'=>∃ u,σ'=[some (.ref a),some (.int ci),some (.ref xs),some (.ref lt),some v,x5',x6',some (.ref g),x8',some (.ref lo),some kv,some u,x12]/\H'=HK/\QW H' (jX t) o2 o1 u) (fun R hR=>?_) ?_
 ·refine⟨_,rfl,.inl ⟨xs,_,_,_,rfl,rfl,SqL.of (SK' _ _ (SI _ _ hxsD)),e28,_,_,rfl,rfl,_,rfl,W0 (fun c1=>?_) (fun c1=>?_)⟩⟩
  ·have c2:=Am c1
   refine hR _ _ ⟨_,rfl,rfl,?_⟩
   rw[kb,AQ (by omega)]
   exact rfl
  ·refine hR _ _ ⟨_,rfl,rfl,?_⟩
   have c2:¬ ((y28:Int) < 10):=fun z=>c1 (AS z)
   rw[kb,AS (by omega)]
   exact sv2
 rintro _ _ ⟨u3,rfl,rfl,sv3⟩
 have ivK:=ivI.same SK'
 have igK:=igI.same SK'
 refine⟨_,rfl,_,rfl,_,rfl,t,kv,v,s,g,_,M,o2,o1,rfl,ik.same SK',ivK,lv,d5,igK,hM,f2,f1,fun u4 H1 s1 sv4=>⟨_,rfl,y8 sv4 (sv3.same s1) ⟨false,rfl,ZC ?_⟩⟩⟩
 have S1:=SD3.trans (SI.trans (SK'.trans s1))
 refine⟨_,rfl,.inl ⟨xs,_,_,_,rfl,rfl,SqL.of ((SI.trans (SK'.trans s1)) _ _ hxsD),e28,_,_,rfl,rfl,_,rfl,W0 (fun c1=>?_) (fun c1=>⟨⟨_,_,_,_,_,_,_,_,_,_,_,_,rfl⟩,S1⟩)⟩⟩
 have kc:jX (.str "cut")=true:=by decide +kernel
 refine⟨_,rfl,_,rfl,.str "cut",_,v,s,g,_,M,o2,o1,rfl,.str _ (by decide),ivK.same s1,lv,d5,igK.same s1,hM,f2,f1,fun u5 H2 s2 sv5=>?_⟩
 rw[kc] at sv5
 refine⟨_,rfl,v,s,rfl,ivK.same (s1.trans s2),d5,d5,fun o2' H3' s3 f3=>⟨rfl,_,rfl,?_⟩⟩
 obtain rfl:=jV f3 f2
 cases o2' with
 | none=>
  rw[AS (show oV none=V.non from rfl)]
  exact ZC (ZC ⟨⟨_,_,_,_,_,_,_,_,_,_,_,_,rfl⟩,S1.trans (s2.trans s3)⟩)
 | some nm=>
  rw[AQ (show ¬ oV (some nm)=V.non from fun z=>nomatch z)]
  refine jN ⟨_,rfl,_,rfl,v,s,rfl,ivK.same (s1.trans (s2.trans s3)),d5,d5,fun o3 H4' s4 f4=>?_⟩
  obtain rfl:=jV f4 f3
  refine⟨zh (by show 2<=1000;decide),fun tt htt=>?_⟩
  have n6:=zd htt (.tup [V.str "name",V.str nm])
  exact y8 (b:=true) (n:=some nm) (l:=o1) (sv5.same (s3.trans (s4.trans n6))) ⟨tt,rfl,zb⟩ ⟨false,rfl,ZC ⟨⟨_,_,_,_,_,_,_,_,_,_,_,_,rfl⟩,S1.trans (s2.trans (s3.trans (s4.trans n6)))⟩⟩
theorem Q0 {α:Type}:∀ {us:List α},us.length=1->∃ x0,us=[x0]
 | [x0],_=>⟨x0,rfl⟩
theorem jj {α:Type}:∀ {us:List α},us.length=2->∃ x0 x1,us=[x0,x1]
 | [x0,x1],_=>⟨x0,x1,rfl⟩
theorem Q1 {α:Type}:∀ {us:List α},us.length=3->∃ x0 x1 x2,us=[x0,x1,x2]
 | [x0,x1,x2],_=>⟨x0,x1,x2,rfl⟩
theorem lenK4 {α:Type}:∀ {us:List α},us.length=4->∃ x0 x1 x2 x3,us=[x0,x1,x2,x3]
 | [x0,x1,x2,x3],_=>⟨x0,x1,x2,x3,rfl⟩
def FD (K:PySem.W.Frag) (x:Str) (st:Stmt):Prop:=∃ (f:Addr) (fd:FuncData),PySem.W.nsIn K mainGlobals x=some (some (.ref f))/\PySem.W.keepIn K (.ref f)=true/\Fun K x x st f fd
theorem qd {K:PySem.W.Frag} {x:Str} {st:Stmt} {f:Addr} {oc kV dc pm cd ct:Value} {od an:Option Addr} {sl:Array (Option Value)} (a:PySem.W.nsIn K mainGlobals x=some (some (.ref f))) (l:K.lookup f=some ⟨oc,od,.func (PySem.W.fnOf x x (qR st) (qt st) (zi st) .none kV dc pm an cd ct),sl⟩) (c:PySem.W.codeIn K cd x=true) (k:PySem.W.keepIn K (.ref f)=true):FD K x st:=⟨f,_,a,k,WZ l c k⟩
def FDI (K:PySem.W.Frag) (C:Addr) (q:Str) (st:Stmt):Prop:=∃ (f:Addr) (fd:FuncData),PySem.W.findIn K (.ref C) "__init__" = some (some (.ref f))/\PySem.W.isFn K (.ref f)=true/\Fun K "__init__" q st f fd
theorem fdi_mk {K:PySem.W.Frag} {C:Addr} {q:Str} {st:Stmt} {f:Addr} {oc kV dc pm cd ct:Value} {od an:Option Addr} {sl:Array (Option Value)} (a:PySem.W.findIn K (.ref C) "__init__" = some (some (.ref f))) (l:K.lookup f=some ⟨oc,od,.func (PySem.W.fnOf "__init__" q (qR st) (qt st) (zi st) .none kV dc pm an cd ct),sl⟩) (c:PySem.W.codeIn K cd q=true) (k:PySem.W.keepIn K (.ref f)=true) (t:PySem.W.isFn K (.ref f)=true):FDI K C q st:=⟨f,_,a,t,WZ l c k⟩
theorem zJ {P:Program} {w:World} {K:PySem.W.Frag} {mg:Str->Option Value} {h base:Heap} {x:Str} {st:Stmt} {k:Nat} {ps:List Str} {sp:Sp} (X:K.In h) (G:h.Ns mainGlobals mg) (d:FD K x st) (ok:∀ f fd,Fun K x x st f fd->qA P w K mg base CX0 k f fd ps sp) (hb:∀ (kV dc pm:Value) (an:Option Addr) (cd ct:Value) (us:List Value),us.length=ps.length->bindArgs (PySem.W.fnOf x x (qR st) (qt st) (zi st) .none kV dc pm an cd ct) ⟨us,[]⟩=pure (ps.zip us)):Def P w K mg base k x ps sp:=by
 obtain⟨f,fd,a,k,F⟩:=d
 exact⟨f,fd,ok f fd F,Ad X G a,k,F.binds hb⟩
theorem ZY {P:Program} {w:World} {K:PySem.W.Frag} {mg:Str->Option Value} {h base:Heap} {x:Str} {st:Stmt} {k:Nat} {ps:List Str} {sp:Sp} (X:K.In h) (G:h.Ns mainGlobals mg) (d:FD K x st) (ok:∀ f fd,Fun K x x st f fd->qA P w K mg base (CXD P w) k f fd ps sp) (hb:∀ (kV dc pm:Value) (an:Option Addr) (cd ct:Value) (us:List Value),us.length=ps.length->bindArgs (PySem.W.fnOf x x (qR st) (qt st) (zi st) .none kV dc pm an cd ct) ⟨us,[]⟩=pure (ps.zip us)):Jj P w K mg base k x ps sp:=by
 obtain⟨f,fd,a,k,F⟩:=d
 exact⟨f,fd,ok f fd F,Ad X G a,k,F.binds hb⟩
theorem all_mk {l:PySem.W.OpenLaw} {w:World} {K:PySem.W.Frag} {h:Heap} {mg:Str->Option Value} {fa fL cc0 cc1 cc2 cc3 cc4 cc5 cc6 cc7 cc8 cc9 cc10 cc11 cc12 cc13 cc14:Addr} (X:K.In h) (G:h.Ns mainGlobals mg) (hfa:mg "law" = some (.ref fa)) {od an:Option Addr} {sl:Array (Option Value)} {oc kV dc pm cd ct:Value}
  (h0:FD K "is_whole" jZ)
  (h1:FD K "shared_part" jd)
  (h2:FD K "fraction" j4)
  (h3:FD K "plus" y9)
  (h4:FD K "minus" wr)
  (h5:FD K "times" wt)
  (h6:FD K "over" Ya)
  (h7:FD K "below" wu)
  (h8:FD K "lesser" QX)
  (h9:FD K "greater" ZV)
  (h10:FD K "connected_then" qv)
  (h11:FD K "connected_with" qw)
  (h12:FD K "connected" jH)
  (h13:FD K "has_small_letters_alone" zD)
  (h14:FD K "is_letter" jI)
  (h15:FD K "graded" Zs)
  (h16:FD K "check_kind" je)
  (h17:FD K "written_parts" qx)
  (h18:FD K "check_names" qT)
  (h19:FD K "check_letters" qy)
  (h20:FD K "grade_by" jJ)
  (h21:FD K "_law_parts" jK)
  (h22:FD K "_law_letters" qC)
  (h23:FD K "_law_saying" qO)
  (h24:FD K "_law_spots" jf)
  (h25:FD K "_law_put" ZX)
  (h26:FD K "_law_wrong" jL)
  (h27:FD K "_law_first_name" qz)
  (h28:FD K "_law_first_letter" qj)
  (h29:FD K "_law_seen" Zd)
  (hi_NoName:FDI K cc2 "NoName.__init__" qB)
  (hi_NoLetter:FDI K cc4 "NoLetter.__init__" qi)
  (aL:PySem.W.nsIn K mainGlobals "law" = some (some (.ref fL))) (lL:K.lookup fL=some ⟨oc,od,.func (PySem.W.fnOf "law" "law" (qR QZ) (qt QZ) (zi QZ) .none kV dc pm an cd ct),sl⟩) (cL:PySem.W.codeIn K cd "law" = true) (kL:PySem.W.keepIn K (.ref fL)=true)
  (z0:PySem.W.nsIn K mainGlobals "abs" = some none)
  (z1:PySem.W.nsIn K mainGlobals "range" = some none)
  (z2:PySem.W.nsIn K mainGlobals "tuple" = some none)
  (z3:PySem.W.nsIn K mainGlobals "list" = some none)
  (z4:PySem.W.nsIn K mainGlobals "isinstance" = some none)
  (z5:PySem.W.nsIn K mainGlobals "int" = some none)
  (z6:PySem.W.nsIn K mainGlobals "bool" = some none)
  (z7:PySem.W.nsIn K mainGlobals "len" = some none)
  (z8:PySem.W.nsIn K mainGlobals "str" = some none)
  (z9:PySem.W.nsIn K mainGlobals "all" = some none)
  (z10:PySem.W.nsIn K mainGlobals "any" = some none)
  (z11:PySem.W.nsIn K mainGlobals "reversed" = some none)
  (z12:PySem.W.nsIn K mainGlobals "max" = some none)
  (z13:PySem.W.nsIn K mainGlobals "dict" = some none)
  (z14:PySem.W.nsIn K mainGlobals "ValueError" = some none)
  (g0:PySem.W.nsIn K mainGlobals "GradeError" = some (some (.ref cc0)))
  (g1:PySem.W.nsIn K mainGlobals "NoFraction" = some (some (.ref cc1)))
  (g2:PySem.W.nsIn K mainGlobals "NoName" = some (some (.ref cc2)))
  (g3:PySem.W.nsIn K mainGlobals "NoKind" = some (some (.ref cc3)))
  (g4:PySem.W.nsIn K mainGlobals "NoLetter" = some (some (.ref cc4)))
  (g5:PySem.W.nsIn K mainGlobals "KINDS" = some (some (.ref cc5)))
  (g6:PySem.W.nsIn K mainGlobals "SHAPES" = some (some (.ref cc6)))
  (g7:PySem.W.nsIn K mainGlobals "NOUGHT" = some (some (.ref cc7)))
  (g8:PySem.W.nsIn K mainGlobals "ONE" = some (some (.ref cc8)))
  (g9:PySem.W.nsIn K mainGlobals "NoTable" = some (some (.ref cc9)))
  (g10:PySem.W.nsIn K mainGlobals "NoSaying" = some (some (.ref cc10)))
  (g11:PySem.W.nsIn K mainGlobals "TooMany" = some (some (.ref cc11)))
  (g12:PySem.W.nsIn K mainGlobals "NoCount" = some (some (.ref cc12)))
  (g13:PySem.W.nsIn K mainGlobals "NoRow" = some (some (.ref cc13)))
  (g14:PySem.W.nsIn K mainGlobals "NoKept" = some (some (.ref cc14)))
  (w0:PySem.W.excIn K cc1 [.type "ValueError",.type "Exception",.type "BaseException",.type "object"] "ValueError.__new__" = true)
  (w1:PySem.W.excIn K cc3 [.type "ValueError",.type "Exception",.type "BaseException",.type "object"] "ValueError.__new__" = true)
  (w2:exI K cc2 bmV "ValueError.__new__" = true)
  (w3:PySem.W.keepIn K (.ref cc2)=true)
  (w4:PySem.W.findIn K (.ref cc2) "__setattr__" = some (some (.builtin "object.__setattr__")))
  (w5:PySem.W.findIn K (.ref cc2) "name" = some none)
  (w6:PySem.W.findIn K (.ref cc2) "__getattribute__" = some (some (.builtin "BaseException.__getattribute__")))
  (w7:PySem.W.findIn K (.ref cc2) "__getattr__" = some none)
  (w8:exI K cc4 bmV "ValueError.__new__" = true)
  (w9:PySem.W.keepIn K (.ref cc4)=true)
  (w10:PySem.W.findIn K (.ref cc4) "__setattr__" = some (some (.builtin "object.__setattr__")))
  (w11:PySem.W.findIn K (.ref cc4) "letter" = some none)
  (w12:PySem.W.findIn K (.ref cc4) "__getattribute__" = some (some (.builtin "BaseException.__getattribute__")))
  (w13:PySem.W.findIn K (.ref cc4) "__getattr__" = some none)
  (w14:PySem.W.specialIn K (.ref cc0) (Str.ofString "__getattribute__")=some (some (.builtin "type.__getattribute__")))
  (w15:PySem.W.readsIn K cc0 (.type "type")=true)
  (w16:PySem.W.findCls K (.ref cc0) (.type "type") "__init__" = some (.val (.builtin "ValueError.__init__")))
  (w17:PySem.W.exmOne K (.ref cc3) (.ref cc0)=some true)
  (w18:zN K cc3=true)
  (w19:PySem.W.kitOne K (.ref cc3) (.type "ValueError")=some true)
  (w20:PySem.W.kitOne K (.ref cc3) (.ref cc1)=some false)
  (w21:PySem.W.kitOne K (.ref cc3) (.ref cc2)=some false)
  (w22:PySem.W.kitOne K (.ref cc3) (.ref cc3)=some true)
  (w23:PySem.W.kitOne K (.ref cc3) (.ref cc4)=some false)
  (w24:PySem.W.kitOne K (.ref cc3) (.ref cc9)=some false)
  (w25:PySem.W.kitOne K (.ref cc3) (.ref cc10)=some false)
  (w26:PySem.W.kitOne K (.ref cc3) (.ref cc11)=some false)
  (w27:PySem.W.kitOne K (.ref cc3) (.ref cc12)=some false)
  (w28:PySem.W.kitOne K (.ref cc3) (.ref cc13)=some false)
  (w29:PySem.W.kitOne K (.ref cc3) (.ref cc14)=some false)
  (w30:PySem.W.exmOne K (.ref cc2) (.ref cc0)=some true)
  (w31:zN K cc2=true)
  (w32:PySem.W.kitOne K (.ref cc2) (.type "ValueError")=some true)
  (w33:PySem.W.kitOne K (.ref cc2) (.ref cc1)=some false)
  (w34:PySem.W.kitOne K (.ref cc2) (.ref cc2)=some true)
  (w35:PySem.W.kitOne K (.ref cc2) (.ref cc3)=some false)
  (w36:PySem.W.kitOne K (.ref cc2) (.ref cc4)=some false)
  (w37:PySem.W.kitOne K (.ref cc2) (.ref cc9)=some false)
  (w38:PySem.W.kitOne K (.ref cc2) (.ref cc10)=some false)
  (w39:PySem.W.kitOne K (.ref cc2) (.ref cc11)=some false)
  (w40:PySem.W.kitOne K (.ref cc2) (.ref cc12)=some false)
  (w41:PySem.W.kitOne K (.ref cc2) (.ref cc13)=some false)
  (w42:PySem.W.kitOne K (.ref cc2) (.ref cc14)=some false)
  (w43:PySem.W.exmOne K (.ref cc4) (.ref cc0)=some true)
  (w44:zN K cc4=true)
  (w45:PySem.W.kitOne K (.ref cc4) (.type "ValueError")=some true)
  (w46:PySem.W.kitOne K (.ref cc4) (.ref cc1)=some false)
  (w47:PySem.W.kitOne K (.ref cc4) (.ref cc2)=some false)
  (w48:PySem.W.kitOne K (.ref cc4) (.ref cc3)=some false)
  (w49:PySem.W.kitOne K (.ref cc4) (.ref cc4)=some true)
  (w50:PySem.W.kitOne K (.ref cc4) (.ref cc9)=some false)
  (w51:PySem.W.kitOne K (.ref cc4) (.ref cc10)=some false)
  (w52:PySem.W.kitOne K (.ref cc4) (.ref cc11)=some false)
  (w53:PySem.W.kitOne K (.ref cc4) (.ref cc12)=some false)
  (w54:PySem.W.kitOne K (.ref cc4) (.ref cc13)=some false)
  (w55:PySem.W.kitOne K (.ref cc4) (.ref cc14)=some false)
  {q0_d:Option Addr} {q0_n:Nat} {q0_s:Array (Option Value)} {q0_k0 q0_k1 q0_k2:Tok}  (q0_h:K.lookup cc5=some ⟨.type "tuple",q0_d,.seq #[(.str "least" q0_k0),(.str "cut" q0_k1),(.str "times" q0_k2)] q0_n,q0_s⟩)
  {q1_d:Option Addr} {q1_n:Nat} {q1_s:Array (Option Value)} {q1_a0 q1_a1 q1_a2 q1_a3 q1_a4 q1_a5 q1_a6:Addr} (q1_h:K.lookup cc6=some ⟨.type "tuple",q1_d,.seq #[(.ref q1_a0),(.ref q1_a1),(.ref q1_a2),(.ref q1_a3),(.ref q1_a4),(.ref q1_a5),(.ref q1_a6)] q1_n,q1_s⟩)
  {q1_0_d:Option Addr} {q1_0_n:Nat} {q1_0_s:Array (Option Value)} {q1_0_k0 q1_0_k1:Tok}  (q1_0_h:K.lookup q1_a0=some ⟨.type "tuple",q1_0_d,.seq #[(.str "and" q1_0_k0),(.int 2 q1_0_k1)] q1_0_n,q1_0_s⟩)
  {q1_1_d:Option Addr} {q1_1_n:Nat} {q1_1_s:Array (Option Value)} {q1_1_k0 q1_1_k1:Tok}  (q1_1_h:K.lookup q1_a1=some ⟨.type "tuple",q1_1_d,.seq #[(.str "or" q1_1_k0),(.int 2 q1_1_k1)] q1_1_n,q1_1_s⟩)
  {q1_2_d:Option Addr} {q1_2_n:Nat} {q1_2_s:Array (Option Value)} {q1_2_k0 q1_2_k1:Tok}  (q1_2_h:K.lookup q1_a2=some ⟨.type "tuple",q1_2_d,.seq #[(.str "then" q1_2_k0),(.int 2 q1_2_k1)] q1_2_n,q1_2_s⟩)
  {q1_3_d:Option Addr} {q1_3_n:Nat} {q1_3_s:Array (Option Value)} {q1_3_k0 q1_3_k1:Tok}  (q1_3_h:K.lookup q1_a3=some ⟨.type "tuple",q1_3_d,.seq #[(.str "with" q1_3_k0),(.int 2 q1_3_k1)] q1_3_n,q1_3_s⟩)
  {q1_4_d:Option Addr} {q1_4_n:Nat} {q1_4_s:Array (Option Value)} {q1_4_k0 q1_4_k1:Tok}  (q1_4_h:K.lookup q1_a4=some ⟨.type "tuple",q1_4_d,.seq #[(.str "not" q1_4_k0),(.int 1 q1_4_k1)] q1_4_n,q1_4_s⟩)
  {q1_5_d:Option Addr} {q1_5_n:Nat} {q1_5_s:Array (Option Value)} {q1_5_k0 q1_5_k1:Tok}  (q1_5_h:K.lookup q1_a5=some ⟨.type "tuple",q1_5_d,.seq #[(.str "false" q1_5_k0),(.int 0 q1_5_k1)] q1_5_n,q1_5_s⟩)
  {q1_6_d:Option Addr} {q1_6_n:Nat} {q1_6_s:Array (Option Value)} {q1_6_k0 q1_6_k1:Tok}  (q1_6_h:K.lookup q1_a6=some ⟨.type "tuple",q1_6_d,.seq #[(.str "true" q1_6_k0),(.int 0 q1_6_k1)] q1_6_n,q1_6_s⟩)
  {q2_d:Option Addr} {q2_n:Nat} {q2_s:Array (Option Value)} {q2_k0 q2_k1:Tok}  (q2_h:K.lookup cc7=some ⟨.type "tuple",q2_d,.seq #[(.int 0 q2_k0),(.int 1 q2_k1)] q2_n,q2_s⟩)
  {q3_d:Option Addr} {q3_n:Nat} {q3_s:Array (Option Value)} {q3_k0 q3_k1:Tok}  (q3_h:K.lookup cc8=some ⟨.type "tuple",q3_d,.seq #[(.int 1 q3_k0),(.int 1 q3_k1)] q3_n,q3_s⟩)
  : ∃ fd:FuncData,(∀ (s:Shared) (v:Value),BindsTo s fd ⟨[v],[]⟩ [("_law_script",v)])/\∀ base:Heap,K.In base->base.Ns mainGlobals mg->qA l.prog w K mg base CX0 15 fa fd ["_law_script"] (spLaw K):=by
 have e:=hfa.symm.trans (Ad X G aL)
 cases e
 have gb:Gb mg:=⟨Aa X G z0,Aa X G z1,Aa X G z2,Aa X G z3,Aa X G z4,Aa X G z5,Aa X G z6,Aa X G z7,Aa X G z8,Aa X G z9,Aa X G z10,Aa X G z11,Aa X G z12,Aa X G z13,Aa X G z14⟩
 have cl:Cl K mg fun i=>[cc0,cc1,cc2,cc3,cc4,cc5,cc6,cc7,cc8,cc9,cc10,cc11,cc12,cc13,cc14].getD i 0:=⟨Ad X G g0,Ad X G g1,Ad X G g2,Ad X G g3,Ad X G g4,Ad X G g5,Ad X G g6,Ad X G g7,Ad X G g8,Ad X G g9,Ad X G g10,Ad X G g11,Ad X G g12,Ad X G g13,Ad X G g14,w0,w1,w2,w3,w4,w5,w6,w7,w8,w9,w10,w11,w12,w13,w14,w15,w16,w17,w18,w19,w20,w21,w22,w23,w24,w25,w26,w27,w28,w29,w30,w31,w32,w33,w34,w35,w36,w37,w38,w39,w40,w41,w42,w43,w44,w45,w46,w47,w48,w49,w50,w51,w52,w53,w54,w55,⟨_,_,_,q0_h,rfl,rfl,zh (by show 3<=1000;decide),.cons (⟨_,rfl⟩) (.cons (⟨_,rfl⟩) (.cons (⟨_,rfl⟩) (.nil)))⟩,⟨_,_,_,_,_,_,_,⟨_,_,_,q1_h,rfl,rfl,zh (by show 7<=1000;decide),.cons (rfl) (.cons (rfl) (.cons (rfl) (.cons (rfl) (.cons (rfl) (.cons (rfl) (.cons (rfl) (.nil)))))))⟩,⟨_,_,_,q1_0_h,rfl,rfl,zh (by show 2<=1000;decide),.cons (⟨_,rfl⟩) (.cons (⟨_,rfl⟩) (.nil))⟩,⟨_,_,_,q1_1_h,rfl,rfl,zh (by show 2<=1000;decide),.cons (⟨_,rfl⟩) (.cons (⟨_,rfl⟩) (.nil))⟩,⟨_,_,_,q1_2_h,rfl,rfl,zh (by show 2<=1000;decide),.cons (⟨_,rfl⟩) (.cons (⟨_,rfl⟩) (.nil))⟩,⟨_,_,_,q1_3_h,rfl,rfl,zh (by show 2<=1000;decide),.cons (⟨_,rfl⟩) (.cons (⟨_,rfl⟩) (.nil))⟩,⟨_,_,_,q1_4_h,rfl,rfl,zh (by show 2<=1000;decide),.cons (⟨_,rfl⟩) (.cons (⟨_,rfl⟩) (.nil))⟩,⟨_,_,_,q1_5_h,rfl,rfl,zh (by show 2<=1000;decide),.cons (⟨_,rfl⟩) (.cons (⟨_,rfl⟩) (.nil))⟩,⟨_,_,_,q1_6_h,rfl,rfl,zh (by show 2<=1000;decide),.cons (⟨_,rfl⟩) (.cons (⟨_,rfl⟩) (.nil))⟩⟩,⟨_,_,_,q2_h,rfl,rfl,zh (by show 2<=1000;decide),.cons (⟨_,rfl⟩) (.cons (⟨_,rfl⟩) (.nil))⟩,⟨_,_,_,q3_h,rfl,rfl,zh (by show 2<=1000;decide),.cons (⟨_,rfl⟩) (.cons (⟨_,rfl⟩) (.nil))⟩⟩
 generalize hcf:(fun i=>[cc0,cc1,cc2,cc3,cc4,cc5,cc6,cc7,cc8,cc9,cc10,cc11,cc12,cc13,cc14].getD i 0)=c at cl
 have hi_NoName:FDI K (c 2) "NoName.__init__" qB:=by rw[<- hcf];exact hi_NoName
 have hi_NoLetter:FDI K (c 4) "NoLetter.__init__" qi:=by rw[<- hcf];exact hi_NoLetter
 refine⟨PySem.W.fnOf "law" "law" (qR QZ) (qt QZ) (zi QZ) .none kV dc pm an cd ct,fun s v=>.of_eq rfl,fun base _ _=>?_⟩
 have d_init_NoName:DefI l.prog w K mg base 2 (c 2) "name" ["self", "name"]:=by
  obtain⟨f,fd,a,t,F⟩:=hi_NoName
  exact⟨f,fd,a,t,Z8 F gb cl,F.binds fun _ _ _ _ _ _ us hl=>by obtain⟨z0_,z1_,rfl⟩:=jj hl;rfl⟩
 have d_init_NoLetter:DefI l.prog w K mg base 2 (c 4) "letter" ["self", "letter"]:=by
  obtain⟨f,fd,a,t,F⟩:=hi_NoLetter
  exact⟨f,fd,a,t,Zi F gb cl,F.binds fun _ _ _ _ _ _ us hl=>by obtain⟨z0_,z1_,rfl⟩:=jj hl;rfl⟩
 have d_is_whole:Def l.prog w K mg base 1 "is_whole" ["thing"] QR:=zJ X G h0 (fun _ _ F=>wo F gb cl) fun _ _ _ _ _ _ us hl=>by obtain⟨z0_,rfl⟩:=Q0 hl;rfl
 have d_shared_part:Def l.prog w K mg base 1 "shared_part" ["one", "other"] QG:=zJ X G h1 (fun _ _ F=>Z9 F gb cl) fun _ _ _ _ _ _ us hl=>by obtain⟨z0_,z1_,rfl⟩:=jj hl;rfl
 have d_fraction:Jj l.prog w K mg base 2 "fraction" ["top", "bottom"] (Qm (c 1)):=ZY X G h2 (fun _ _ F=>wq F gb cl d_is_whole d_shared_part) fun _ _ _ _ _ _ us hl=>by obtain⟨z0_,z1_,rfl⟩:=jj hl;rfl
 have d_plus:Def l.prog w K mg base 3 "plus" ["a", "b"] (spR K (fun r s=>r+s)):=zJ X G h3 (fun _ _ F=>ok_plus F gb cl d_fraction) fun _ _ _ _ _ _ us hl=>by obtain⟨z0_,z1_,rfl⟩:=jj hl;rfl
 have d_minus:Def l.prog w K mg base 3 "minus" ["a", "b"] (spR K (fun r s=>r - s)):=zJ X G h4 (fun _ _ F=>ok_minus F gb cl d_fraction) fun _ _ _ _ _ _ us hl=>by obtain⟨z0_,z1_,rfl⟩:=jj hl;rfl
 have d_times:Def l.prog w K mg base 3 "times" ["a", "b"] (spR K (fun r s=>r * s)):=zJ X G h5 (fun _ _ F=>ok_times F gb cl d_fraction) fun _ _ _ _ _ _ us hl=>by obtain⟨z0_,z1_,rfl⟩:=jj hl;rfl
 have d_over:Def l.prog w K mg base 3 "over" ["a", "b"] (J4 K):=zJ X G h6 (fun _ _ F=>ok_over F gb cl d_fraction) fun _ _ _ _ _ _ us hl=>by obtain⟨z0_,z1_,rfl⟩:=jj hl;rfl
 have d_below:Def l.prog w K mg base 1 "below" ["a", "b"] (ZN K):=zJ X G h7 (fun _ _ F=>ok_below F gb cl) fun _ _ _ _ _ _ us hl=>by obtain⟨z0_,z1_,rfl⟩:=jj hl;rfl
 have d_lesser:Def l.prog w K mg base 2 "lesser" ["a", "b"] (spLG K QI):=zJ X G h8 (fun _ _ F=>Yc F gb cl d_below) fun _ _ _ _ _ _ us hl=>by obtain⟨z0_,z1_,rfl⟩:=jj hl;rfl
 have d_greater:Def l.prog w K mg base 2 "greater" ["a", "b"] (spLG K jy):=zJ X G h9 (fun _ _ F=>WA F gb cl d_below) fun _ _ _ _ _ _ us hl=>by obtain⟨z0_,z1_,rfl⟩:=jj hl;rfl
 have d_connected_then:Def l.prog w K mg base 4 "connected_then" ["kind", "a", "b"] (Qn K Jn):=zJ X G h10 (fun _ _ F=>j7 F gb cl d_below d_plus d_minus d_over) fun _ _ _ _ _ _ us hl=>by obtain⟨z0_,z1_,z2_,rfl⟩:=Q1 hl;rfl
 have d_connected_with:Def l.prog w K mg base 4 "connected_with" ["kind", "a", "b"] (Qn K J2):=zJ X G h11 (fun _ _ F=>j9 F gb cl d_lesser d_greater d_minus d_plus d_times) fun _ _ _ _ _ _ us hl=>by obtain⟨z0_,z1_,z2_,rfl⟩:=Q1 hl;rfl
 have d_connected:Def l.prog w K mg base 5 "connected" ["kind", "name", "grades"] (yx K):=zJ X G h12 (fun _ _ F=>JD F gb cl d_connected_then d_connected_with d_greater d_lesser) fun _ _ _ _ _ _ us hl=>by obtain⟨z0_,z1_,z2_,rfl⟩:=Q1 hl;rfl
 have d_has_small_letters_alone:Def l.prog w K mg base 1 "has_small_letters_alone" ["text"] J9:=zJ X G h13 (fun _ _ F=>qM F gb cl) fun _ _ _ _ _ _ us hl=>by obtain⟨z0_,rfl⟩:=Q0 hl;rfl
 have d_is_letter:Def l.prog w K mg base 2 "is_letter" ["thing"] Wv:=zJ X G h14 (fun _ _ F=>JF F gb cl d_has_small_letters_alone) fun _ _ _ _ _ _ us hl=>by obtain⟨z0_,rfl⟩:=Q0 hl;rfl
 have r_graded:∀ j,Def l.prog w K mg base (6+j) "graded" ["kind", "S", "grading"] ((Zp K) j):=fun j=>by
  induction j with
  | zero=>exact zJ X G h15 (fun _ _ _=>⟨fun _ _ _ _ h=>False.elim h,fun _ _ _ _ _ _ _ _ _ _ _ _ _ h=>False.elim h⟩) fun _ _ _ _ _ _ us hl=>by obtain⟨z0_,z1_,z2_,rfl⟩:=Q1 hl;rfl
  | succ j ih=>exact zJ X G h15 (fun _ _ F=>Ye F gb cl d_is_letter d_connected j ih) fun _ _ _ _ _ _ us hl=>by obtain⟨z0_,z1_,z2_,rfl⟩:=Q1 hl;rfl
 have d_graded:=r_graded 6
 have d_check_kindX:Jj l.prog w K mg base 1 "check_kind" ["kind"] (yP (c 3)):=ZY X G h16 (fun _ _ F=>Qb F gb cl) fun _ _ _ _ _ _ us hl=>by obtain⟨z0_,rfl⟩:=Q0 hl;rfl
 have d_written_partsX:Def l.prog w K mg base 3 "written_parts" ["S"] yQ:=zJ X G h17 (fun _ _ F=>Za F gb cl d_is_letter) fun _ _ _ _ _ _ us hl=>by obtain⟨z0_,rfl⟩:=Q0 hl;rfl
 have d_check_namesX:Jj l.prog w K mg base 4 "check_names" ["shapes", "parts"] (wb (c 6) (c 2)):=ZY X G h18 (fun _ _ F=>ZW F gb cl d_is_letter d_init_NoName) fun _ _ _ _ _ _ us hl=>by obtain⟨z0_,z1_,rfl⟩:=jj hl;rfl
 have d_check_lettersX:Jj l.prog w K mg base 4 "check_letters" ["parts", "known"] (wc K (c 4)):=ZY X G h19 (fun _ _ F=>Zb F gb cl d_is_letter d_init_NoLetter) fun _ _ _ _ _ _ us hl=>by obtain⟨z0_,z1_,rfl⟩:=jj hl;rfl
 have d_grade_byX:Jj l.prog w K mg base 13 "grade_by" ["kind", "S", "grading"] (spGBX K (c 2) (c 3) (c 4)):=ZY X G h20 (fun _ _ F=>JG F gb cl d_check_kindX d_written_partsX d_check_namesX d_check_lettersX d_graded) fun _ _ _ _ _ _ us hl=>by obtain⟨z0_,z1_,z2_,rfl⟩:=Q1 hl;rfl
 have d_law_parts:Def l.prog w K mg base 1 "_law_parts" ["_law_cell", "_law_sizes"] wd:=zJ X G h21 (fun _ _ F=>JH F gb cl) fun _ _ _ _ _ _ us hl=>by obtain⟨z0_,z1_,rfl⟩:=jj hl;rfl
 have d_law_letters:Def l.prog w K mg base 1 "_law_letters" ["_law_xs", "_law_many"] ZT:=zJ X G h22 (fun _ _ F=>Qc F gb cl) fun _ _ _ _ _ _ us hl=>by obtain⟨z0_,z1_,rfl⟩:=jj hl;rfl
 have r_law_saying:∀ j,Def l.prog w K mg base (1+j) "_law_saying" ["_law_xs", "_law_at", "_law_deep", "_law_letters_here"] (Zq j):=fun j=>by
  induction j with
  | zero=>exact zJ X G h23 (fun _ _ _=>⟨fun _ _ _ _ h=>False.elim h,fun _ _ _ _ _ _ _ _ _ _ _ _ _ h=>False.elim h⟩) fun _ _ _ _ _ _ us hl=>by obtain⟨z0_,z1_,z2_,z3_,rfl⟩:=lenK4 hl;rfl
  | succ j ih=>exact zJ X G h23 (fun _ _ F=>QY F gb cl j ih) fun _ _ _ _ _ _ us hl=>by obtain⟨z0_,z1_,z2_,z3_,rfl⟩:=lenK4 hl;rfl
 have d_law_saying:=r_law_saying 5
 have r_law_spots:∀ j,Def l.prog w K mg base (1+j) "_law_spots" ["_law_saying_here"] (QV j):=fun j=>by
  induction j with
  | zero=>exact zJ X G h24 (fun _ _ _=>⟨fun _ _ _ _ h=>False.elim h,fun _ _ _ _ _ _ _ _ _ _ _ _ _ h=>False.elim h⟩) fun _ _ _ _ _ _ us hl=>by obtain⟨z0_,rfl⟩:=Q0 hl;rfl
  | succ j ih=>exact zJ X G h24 (fun _ _ F=>JI F gb cl j ih) fun _ _ _ _ _ _ us hl=>by obtain⟨z0_,rfl⟩:=Q0 hl;rfl
 have d_law_spots:=r_law_spots 6
 have r_law_put:∀ j,Def l.prog w K mg base (1+j) "_law_put" ["_law_saying_here", "_law_spot", "_law_other"] (spPut j):=fun j=>by
  induction j with
  | zero=>exact zJ X G h25 (fun _ _ _=>⟨fun _ _ _ _ h=>False.elim h,fun _ _ _ _ _ _ _ _ _ _ _ _ _ h=>False.elim h⟩) fun _ _ _ _ _ _ us hl=>by obtain⟨z0_,z1_,z2_,rfl⟩:=Q1 hl;rfl
  | succ j ih=>exact zJ X G h25 (fun _ _ F=>WB F gb cl j ih) fun _ _ _ _ _ _ us hl=>by obtain⟨z0_,z1_,z2_,rfl⟩:=Q1 hl;rfl
 have d_law_put:=r_law_put 6
 have d_law_wrong:Def l.prog w K mg base 1 "_law_wrong" ["_law_xs", "_law_letter"] wm:=zJ X G h26 (fun _ _ F=>JJ F gb cl) fun _ _ _ _ _ _ us hl=>by obtain⟨z0_,z1_,rfl⟩:=jj hl;rfl
 have r_law_first_name:∀ j,Def l.prog w K mg base (1+j) "_law_first_name" ["_law_saying_here"] (wX j):=fun j=>by
  induction j with
  | zero=>exact zJ X G h27 (fun _ _ _=>⟨fun _ _ _ _ h=>False.elim h,fun _ _ _ _ _ _ _ _ _ _ _ _ _ h=>False.elim h⟩) fun _ _ _ _ _ _ us hl=>by obtain⟨z0_,rfl⟩:=Q0 hl;rfl
  | succ j ih=>exact zJ X G h27 (fun _ _ F=>Zc F gb cl j ih) fun _ _ _ _ _ _ us hl=>by obtain⟨z0_,rfl⟩:=Q0 hl;rfl
 have d_law_first_name:=r_law_first_name 6
 have r_law_first_letter:∀ j,Def l.prog w K mg base (1+j) "_law_first_letter" ["_law_saying_here", "_law_grading"] ((wY K) j):=fun j=>by
  induction j with
  | zero=>exact zJ X G h28 (fun _ _ _=>⟨fun _ _ _ _ h=>False.elim h,fun _ _ _ _ _ _ _ _ _ _ _ _ _ h=>False.elim h⟩) fun _ _ _ _ _ _ us hl=>by obtain⟨z0_,z1_,rfl⟩:=jj hl;rfl
  | succ j ih=>exact zJ X G h28 (fun _ _ F=>jM F gb cl j ih) fun _ _ _ _ _ _ us hl=>by obtain⟨z0_,z1_,rfl⟩:=jj hl;rfl
 have d_law_first_letter:=r_law_first_letter 6
 have d_law_seen:Def l.prog w K mg base 14 "_law_seen" ["_law_kind", "_law_saying_here", "_law_grading"] (y6 K):=zJ X G h29 (fun _ _ F=>wv F gb cl d_grade_byX) fun _ _ _ _ _ _ us hl=>by obtain⟨z0_,z1_,z2_,rfl⟩:=Q1 hl;rfl
 exact ok_law (WZ (st:=QZ) lL cL kL) gb cl d_law_parts d_law_letters d_law_wrong d_law_seen d_law_saying d_law_spots d_law_put d_law_first_name d_law_first_letter
theorem walk {l:PySem.W.OpenLaw} {q:Program} {loose:List Str} {XP:(Str->Option Value)->Heap->Prop} {YP:World->Heap->Prop} {d:DefRec} {K:Params->PySem.W.Frag} (hn:l.most=some 63) (hdf:d.params.defaults=[])
  (hY:∀ (w:World) (h:Heap),YP w h->(K w.params).In h)
  (F:∀ (w:World) (mg:Str->Option Value) (fa:Addr) (h:Heap),(K w.params).In h->h.Ns mainGlobals mg->mg d.name=some (.ref fa) ->
   ∃ fd:FuncData,(∀ (s:Shared) (u:Value),BindsTo s fd ⟨[u],[]⟩ [("_law_script",u)])/\∀ base:Heap,(K w.params).In base->base.Ns mainGlobals mg->qA l.prog w (K w.params) mg base CX0 15 fa fd ["_law_script"] (spLaw (K w.params))) :
  PySem.W.WalkO q loose XP YP l.row.toRowW d [] (fun f vs=>PySem.call f vs):=
 L2.WY (n:=63) (k:=15) (x := "_law_script") (CX:=fun _=>CX0) (sp:=fun w=>spLaw (K w.params)) hn (by decide) hdf ⟨rfl,by decide,by decide⟩ hY F (fun _ _ a ns hl _ hS=>⟨a,ns,rfl,hS,hl,fun _=>rfl⟩) fun _ _ _ _ _ z=>z
end K42
open PySem PySem.W PyProof.Rows
-- These names are taken so that the head lays no faster copies of the text's constants: the facts below are proved
-- without them as fast, and with them the compiled file has over 64 MB. The proof does not use these names.
theorem PySem.W.Fast.tw5252190427902579004 : True := trivial
theorem PySem.W.Fast.tw4510997046239048689 : True := trivial
theorem PySem.W.Fast.tw8428453456576279237 : True := trivial
theorem PySem.W.Fast.tw4385660617705453280 : True := trivial
theorem PySem.W.Fast.tw7614095211275909644 : True := trivial
theorem PySem.W.Fast.tw4422421062524624525 : True := trivial
theorem PySem.W.Fast.tw16464152575515900508 : True := trivial
theorem PySem.W.Fast.tw8437550797222142706 : True := trivial
theorem PySem.W.Fast.tw10111745801146229727 : True := trivial
theorem PySem.W.Fast.tw13065492170792147784 : True := trivial
theorem PySem.W.Fast.tw8364501624422970259 : True := trivial
theorem PySem.W.Fast.tw7567926343570148125 : True := trivial
theorem PySem.W.Fast.tw15355511402908431452 : True := trivial
theorem PySem.W.Fast.tw13836320962022466771 : True := trivial
theorem PySem.W.Fast.tw470695325076841122 : True := trivial
theorem PySem.W.Fast.tw16077430212590267602 : True := trivial
set_option maxRecDepth 100000 in
set_option maxHeartbeats 0 in
theorem PySem.Challenge.cw_truthgrades_k42_chain_grades_refused_holds : PySem.Challenge.rw_truthgrades_k42_chain_grades_refused.Holds := by
 w_on;o_law;k_head;(case hw=>w_witness2)
 k_fill
 refine K42.walk (l:=PySem.Challenge.rw_truthgrades_k42_chain_grades_refused) rfl rfl (fun w h Y=>PySem.W.kIn_of Y) ?F
 case F=>
  intro w mg fa h KX G hmg
  refine' K42.all_mk KX G hmg (K42.qd ?a0 ?l0 ?c0 ?k0) (K42.qd ?a1 ?l1 ?c1 ?k1) (K42.qd ?a2 ?l2 ?c2 ?k2) (K42.qd ?a3 ?l3 ?c3 ?k3) (K42.qd ?a4 ?l4 ?c4 ?k4) (K42.qd ?a5 ?l5 ?c5 ?k5) (K42.qd ?a6 ?l6 ?c6 ?k6) (K42.qd ?a7 ?l7 ?c7 ?k7) (K42.qd ?a8 ?l8 ?c8 ?k8) (K42.qd ?a9 ?l9 ?c9 ?k9) (K42.qd ?a10 ?l10 ?c10 ?k10) (K42.qd ?a11 ?l11 ?c11 ?k11) (K42.qd ?a12 ?l12 ?c12 ?k12) (K42.qd ?a13 ?l13 ?c13 ?k13) (K42.qd ?a14 ?l14 ?c14 ?k14) (K42.qd ?a15 ?l15 ?c15 ?k15) (K42.qd ?a16 ?l16 ?c16 ?k16) (K42.qd ?a17 ?l17 ?c17 ?k17) (K42.qd ?a18 ?l18 ?c18 ?k18) (K42.qd ?a19 ?l19 ?c19 ?k19) (K42.qd ?a20 ?l20 ?c20 ?k20) (K42.qd ?a21 ?l21 ?c21 ?k21) (K42.qd ?a22 ?l22 ?c22 ?k22) (K42.qd ?a23 ?l23 ?c23 ?k23) (K42.qd ?a24 ?l24 ?c24 ?k24) (K42.qd ?a25 ?l25 ?c25 ?k25) (K42.qd ?a26 ?l26 ?c26 ?k26) (K42.qd ?a27 ?l27 ?c27 ?k27) (K42.qd ?a28 ?l28 ?c28 ?k28) (K42.qd ?a29 ?l29 ?c29 ?k29) (K42.fdi_mk ?ai0 ?li0 ?ci0 ?ki0 ?ti0) (K42.fdi_mk ?ai1 ?li1 ?ci1 ?ki1 ?ti1) ?a30 ?l30 ?c30 ?k30 ?z0 ?z1 ?z2 ?z3 ?z4 ?z5 ?z6 ?z7 ?z8 ?z9 ?z10 ?z11 ?z12 ?z13 ?z14 ?gg0 ?gg1 ?gg2 ?gg3 ?gg4 ?gg5 ?gg6 ?gg7 ?gg8 ?gg9 ?gg10 ?gg11 ?gg12 ?gg13 ?gg14 ?ww0 ?ww1 ?ww2 ?ww3 ?ww4 ?ww5 ?ww6 ?ww7 ?ww8 ?ww9 ?ww10 ?ww11 ?ww12 ?ww13 ?ww14 ?ww15 ?ww16 ?ww17 ?ww18 ?ww19 ?ww20 ?ww21 ?ww22 ?ww23 ?ww24 ?ww25 ?ww26 ?ww27 ?ww28 ?ww29 ?ww30 ?ww31 ?ww32 ?ww33 ?ww34 ?ww35 ?ww36 ?ww37 ?ww38 ?ww39 ?ww40 ?ww41 ?ww42 ?ww43 ?ww44 ?ww45 ?ww46 ?ww47 ?ww48 ?ww49 ?ww50 ?ww51 ?ww52 ?ww53 ?ww54 ?ww55 ?hh0 ?hh1 ?hh2 ?hh3 ?hh4 ?hh5 ?hh6 ?hh7 ?hh8 ?hh9 ?hh10
  (case a0=>k_is);(case l0=>k_is);(case c0=>k_is);(case k0=>k_is)
  (case a1=>k_is);(case l1=>k_is);(case c1=>k_is);(case k1=>k_is)
  (case a2=>k_is);(case l2=>k_is);(case c2=>k_is);(case k2=>k_is)
  (case a3=>k_is);(case l3=>k_is);(case c3=>k_is);(case k3=>k_is)
  (case a4=>k_is);(case l4=>k_is);(case c4=>k_is);(case k4=>k_is)
  (case a5=>k_is);(case l5=>k_is);(case c5=>k_is);(case k5=>k_is)
  (case a6=>k_is);(case l6=>k_is);(case c6=>k_is);(case k6=>k_is)
  (case a7=>k_is);(case l7=>k_is);(case c7=>k_is);(case k7=>k_is)
  (case a8=>k_is);(case l8=>k_is);(case c8=>k_is);(case k8=>k_is)
  (case a9=>k_is);(case l9=>k_is);(case c9=>k_is);(case k9=>k_is)
  (case a10=>k_is);(case l10=>k_is);(case c10=>k_is);(case k10=>k_is)
  (case a11=>k_is);(case l11=>k_is);(case c11=>k_is);(case k11=>k_is)
  (case a12=>k_is);(case l12=>k_is);(case c12=>k_is);(case k12=>k_is)
  (case a13=>k_is);(case l13=>k_is);(case c13=>k_is);(case k13=>k_is)
  (case a14=>k_is);(case l14=>k_is);(case c14=>k_is);(case k14=>k_is)
  (case a15=>k_is);(case l15=>k_is);(case c15=>k_is);(case k15=>k_is)
  (case a16=>k_is);(case l16=>k_is);(case c16=>k_is);(case k16=>k_is)
  (case a17=>k_is);(case l17=>k_is);(case c17=>k_is);(case k17=>k_is)
  (case a18=>k_is);(case l18=>k_is);(case c18=>k_is);(case k18=>k_is)
  (case a19=>k_is);(case l19=>k_is);(case c19=>k_is);(case k19=>k_is)
  (case a20=>k_is);(case l20=>k_is);(case c20=>k_is);(case k20=>k_is)
  (case a21=>k_is);(case l21=>k_is);(case c21=>k_is);(case k21=>k_is)
  (case a22=>k_is);(case l22=>k_is);(case c22=>k_is);(case k22=>k_is)
  (case a23=>k_is);(case l23=>k_is);(case c23=>k_is);(case k23=>k_is)
  (case a24=>k_is);(case l24=>k_is);(case c24=>k_is);(case k24=>k_is)
  (case a25=>k_is);(case l25=>k_is);(case c25=>k_is);(case k25=>k_is)
  (case a26=>k_is);(case l26=>k_is);(case c26=>k_is);(case k26=>k_is)
  (case a27=>k_is);(case l27=>k_is);(case c27=>k_is);(case k27=>k_is)
  (case a28=>k_is);(case l28=>k_is);(case c28=>k_is);(case k28=>k_is)
  (case a29=>k_is);(case l29=>k_is);(case c29=>k_is);(case k29=>k_is)
  (case a30=>k_is);(case l30=>k_is);(case c30=>k_is);(case k30=>k_is)
  (case z0=>k_is)
  (case z1=>k_is)
  (case z2=>k_is)
  (case z3=>k_is)
  (case z4=>k_is)
  (case z5=>k_is)
  (case z6=>k_is)
  (case z7=>k_is)
  (case z8=>k_is)
  (case z9=>k_is)
  (case z10=>k_is)
  (case z11=>k_is)
  (case z12=>k_is)
  (case z13=>k_is)
  (case z14=>k_is)
  (case gg0=>k_is)
  (case gg1=>k_is)
  (case gg2=>k_is)
  (case gg3=>k_is)
  (case gg4=>k_is)
  (case gg5=>k_is)
  (case gg6=>k_is)
  (case gg7=>k_is)
  (case gg8=>k_is)
  (case gg9=>k_is)
  (case gg10=>k_is)
  (case gg11=>k_is)
  (case gg12=>k_is)
  (case gg13=>k_is)
  (case gg14=>k_is)
  (case ai0=>k_is);(case li0=>k_is);(case ci0=>k_is);(case ki0=>k_is);(case ti0=>first | k_is | kernel_rfl)
  (case ai1=>k_is);(case li1=>k_is);(case ci1=>k_is);(case ki1=>k_is);(case ti1=>first | k_is | kernel_rfl)
  (case ww0=>first | k_is | kit_is | kernel_rfl)
  (case ww1=>first | k_is | kit_is | kernel_rfl)
  (case ww2=>first | k_is | kit_is | kernel_rfl)
  (case ww3=>first | k_is | kit_is | kernel_rfl)
  (case ww4=>first | k_is | kit_is | kernel_rfl)
  (case ww5=>first | k_is | kit_is | kernel_rfl)
  (case ww6=>first | k_is | kit_is | kernel_rfl)
  (case ww7=>first | k_is | kit_is | kernel_rfl)
  (case ww8=>first | k_is | kit_is | kernel_rfl)
  (case ww9=>first | k_is | kit_is | kernel_rfl)
  (case ww10=>first | k_is | kit_is | kernel_rfl)
  (case ww11=>first | k_is | kit_is | kernel_rfl)
  (case ww12=>first | k_is | kit_is | kernel_rfl)
  (case ww13=>first | k_is | kit_is | kernel_rfl)
  (case ww14=>first | k_is | kit_is | kernel_rfl)
  (case ww15=>first | k_is | kit_is | kernel_rfl)
  (case ww16=>first | k_is | kit_is | kernel_rfl)
  (case ww17=>first | k_is | kit_is | kernel_rfl)
  (case ww18=>first | k_is | kit_is | kernel_rfl)
  (case ww19=>first | k_is | kit_is | kernel_rfl)
  (case ww20=>first | k_is | kit_is | kernel_rfl)
  (case ww21=>first | k_is | kit_is | kernel_rfl)
  (case ww22=>first | k_is | kit_is | kernel_rfl)
  (case ww23=>first | k_is | kit_is | kernel_rfl)
  (case ww24=>first | k_is | kit_is | kernel_rfl)
  (case ww25=>first | k_is | kit_is | kernel_rfl)
  (case ww26=>first | k_is | kit_is | kernel_rfl)
  (case ww27=>first | k_is | kit_is | kernel_rfl)
  (case ww28=>first | k_is | kit_is | kernel_rfl)
  (case ww29=>first | k_is | kit_is | kernel_rfl)
  (case ww30=>first | k_is | kit_is | kernel_rfl)
  (case ww31=>first | k_is | kit_is | kernel_rfl)
  (case ww32=>first | k_is | kit_is | kernel_rfl)
  (case ww33=>first | k_is | kit_is | kernel_rfl)
  (case ww34=>first | k_is | kit_is | kernel_rfl)
  (case ww35=>first | k_is | kit_is | kernel_rfl)
  (case ww36=>first | k_is | kit_is | kernel_rfl)
  (case ww37=>first | k_is | kit_is | kernel_rfl)
  (case ww38=>first | k_is | kit_is | kernel_rfl)
  (case ww39=>first | k_is | kit_is | kernel_rfl)
  (case ww40=>first | k_is | kit_is | kernel_rfl)
  (case ww41=>first | k_is | kit_is | kernel_rfl)
  (case ww42=>first | k_is | kit_is | kernel_rfl)
  (case ww43=>first | k_is | kit_is | kernel_rfl)
  (case ww44=>first | k_is | kit_is | kernel_rfl)
  (case ww45=>first | k_is | kit_is | kernel_rfl)
  (case ww46=>first | k_is | kit_is | kernel_rfl)
  (case ww47=>first | k_is | kit_is | kernel_rfl)
  (case ww48=>first | k_is | kit_is | kernel_rfl)
  (case ww49=>first | k_is | kit_is | kernel_rfl)
  (case ww50=>first | k_is | kit_is | kernel_rfl)
  (case ww51=>first | k_is | kit_is | kernel_rfl)
  (case ww52=>first | k_is | kit_is | kernel_rfl)
  (case ww53=>first | k_is | kit_is | kernel_rfl)
  (case ww54=>first | k_is | kit_is | kernel_rfl)
  (case ww55=>first | k_is | kit_is | kernel_rfl)
  (case hh0=>k_is)
  (case hh1=>k_is)
  (case hh2=>k_is)
  (case hh3=>k_is)
  (case hh4=>k_is)
  (case hh5=>k_is)
  (case hh6=>k_is)
  (case hh7=>k_is)
  (case hh8=>k_is)
  (case hh9=>k_is)
  (case hh10=>k_is)
