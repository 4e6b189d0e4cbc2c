import PyProof.Rows.All
import Wide.All
import OpenK.AllK
import Wide.FinOn
import Lean
import PyProof.EqAt
import PyProof.EqKinds
import PyProof.TupleCall
import PySem.Challenge.RW_truthgrades_k20_names_that_are_not_there
set_option bootstrap.genMatcherCode false
set_option genSizeOfSpec false
local macro_rules | `(tactic| omega) => `(tactic| lia)
set_option maxHeartbeats 4000000
set_option maxRecDepth 100000
set_option linter.all false
set_option Elab.async false
abbrev AA:=@PySem.wpAny_bind
abbrev AB:=@PySem.wpAny_pure
abbrev AC:=@List.length_map
abbrev AD:=@PySem.Heap.get?_push_of_some
abbrev AE:=@List.getElem?_eq_some_iff
abbrev AF:=@List.mem_singleton
abbrev AG:=@Nat.le_refl
abbrev AH:=@PySem.Heap.get?_push_size
abbrev AI:=@List.length_append
abbrev AJ:=@PySem.Heap.lt_size
abbrev AK:=@List.getElem?_eq_getElem
abbrev AL:=@Option.some.inj
abbrev AM:=@List.map_append
abbrev AN:=@Nat.ne_of_lt
abbrev AO:=@List.mem_cons_self
abbrev AQ:=@List.map_cons
abbrev AR:=@List.mem_cons
abbrev AS:=@List.mem_map
abbrev AU:=@List.mem_cons_of_mem
abbrev AV:=@List.mem_of_getElem?
abbrev AW:=@List.getElem?_map
abbrev AX:=@Nat.lt_of_lt_of_le
abbrev AY:=@Bool.false_ne_true
abbrev AZ:=@List.length_take
abbrev Aa:=@List.mem_append
abbrev Ab:=@List.length_cons
abbrev Ac:=@Option.map_eq_some_iff
abbrev Ad:=@Array.length_toList
abbrev Ae:=@PySem.Heap.get?_update_self
abbrev Af:=@List.size_toArray
abbrev Ag:=@Nat.le_trans
abbrev Ah:=@PySem.wpAny_holding
abbrev Ai:=@List.mem_append_right
abbrev Aj:=@PySem.wpAny_newObj_type
abbrev Ak:=@PySem.wpAny_setState_of
abbrev Al:=@PySem.W.mg_none_of
abbrev Am:=@Ne.symm
abbrev An:=@PySem.wpAny_call_entry
abbrev Ao:=@PySem.F.called_set
abbrev Ap:=@PySem.Obj.data_mapFields
abbrev Aq:=@List.take_length
abbrev Ar:=@PySem.wpAny_ite_split
abbrev As:=@PySem.Heap.SameBut.update
abbrev Au:=@PySem.Around.under_plainId
abbrev Av:=@List.length_range
abbrev Aw:=@PySem.Paired.length
abbrev Ax:=@PySem.codeAny_builtin
abbrev Ay:=@decide_eq_false
abbrev Az:=@of_decide_eq_true
abbrev A0:=@Nat.zero_le
abbrev A1:=@List.mem_append_left
abbrev A2:=@List.map_map
abbrev A3:=@PySem.wpAny_of_eq
abbrev A4:=@PySem.Heap.get?_update_other
abbrev A5:=@PyProof.Rows.F.plain_set_update_loop
abbrev A6:=@PySem.F.plainAttrs_list
abbrev A7:=@List.all_eq_true
abbrev A8:=@List.take_of_length_le
abbrev A9:=@PySem.W.kia_one
abbrev BA:=@List.nodup_cons
abbrev BB:=@PySem.W.mg_of
abbrev BC:=@Nat.lt_irrefl
abbrev BD:=@PyProof.Rows.callWith_type1
abbrev BE:=@Nat.ne_of_gt
abbrev BF:=@Nat.lt_succ_of_lt
abbrev BG:=@PyProof.Rows.slot_tuple_getitem
abbrev BH:=@PySem.W.looks_findIn
abbrev BI:=@PySem.wpAny_attempt
abbrev BJ:=@PySem.PassesOwn.never
abbrev BK:=@PySem.mem_of_lookup
abbrev BL:=@PySem.wpAny_typeOf_ref
abbrev BM:=@List.mem_iff_getElem?
abbrev BN:=@List.mem_range
abbrev BO:=@PySem.Obj.isFreed_of_fields
abbrev BP:=@PySem.wpAny_setField
abbrev BQ:=@PySem.plainId_quiet
abbrev BR:=@Nat.lt_succ_self
abbrev BS:=@List.length_drop
abbrev BU:=@PySem.wpAny_askSetting
abbrev BV:=@decide_eq_true
abbrev BW:=@Int.toNat_natCast
abbrev BX:=@Nat.not_lt_zero
abbrev BY:=@List.append_nil
abbrev BZ:=@Array.getElem?_eq_getElem
abbrev Ba:=@PySem.wpAny_rule
abbrev Bb:=@PySem.Heap.size_push
abbrev Bc:=@List.getElem_mem
abbrev Bd:=@List.filter_append
abbrev Be:=@congrArg
abbrev Bf:=@PySem.codeAny_mono
abbrev Bg:=@PySem.isSubtype_type
abbrev Bh:=@PySem.codeAny_call_builtin
abbrev Bi:=@PyProof.Rows.F.entry_set_update_loop
abbrev Bj:=@Array.getElem?_eq_none
abbrev Bk:=@List.lookup_cons
abbrev Bl:=@Array.getElem?_eq_some_iff
abbrev Bm:=@PySem.F.slot_set_iter
abbrev Bo:=@Array.getElem?_toList
abbrev Bp:=@PySem.wpAny_typeOf
abbrev Bq:=@PySem.wpAny_field
abbrev Br:=@PySem.wpAny_isInstance
abbrev Bs:=@List.getElem?_zip_eq_some
abbrev Bt:=@List.getElem?_append_left
abbrev Bu:=@List.mem_filter
abbrev Bv:=@PySem.wpAny_mono
abbrev Bw:=@List.pairwise_map
abbrev Bx:=@List.mem_of_mem_take
abbrev By:=@PySem.builtinLookup_eq_fast
abbrev Bz:=@PySem.F.type_list_append
abbrev B0:=@PySem.F.slot_list_append
abbrev B1:=@List.any_cons
abbrev B2:=@PySem.wpAny_specialOf
abbrev B3:=@PySem.wpAny_pyIter_list
abbrev B4:=@PySem.fits_of_scanBound
abbrev B5:=@PySem.Heap.get?_none_of_le
abbrev B6:=@Bool.and_eq_true
abbrev B7:=@PySem.wpAny_call
abbrev B8:=@Nat.le_of_lt
abbrev B9:=@List.length_filter_le
abbrev CA:=@List.getElem?_eq_none
abbrev CB:=@PySem.wpAny_pyNext_list_item
abbrev CC:=@PySem.wpAny_passesOwn
abbrev CD:=@List.getElem?_append_right
abbrev CF:=@PySem.wpAny_pyNext_list_end
abbrev CG:=@PySem.wpAny_truthy_bool
abbrev CH:=@PySem.wpAny_pyIter_slot
abbrev CI:=@PySem.F.plain_extend_loop
abbrev CJ:=@PySem.Obj.cls_mapFields
abbrev CK:=@List.drop_eq_getElem_cons
abbrev CL:=@Classical.byContradiction
abbrev CM:=@List.length_reverse
abbrev CN:=@List.filterMap_cons
abbrev CO:=@List.foldl_cons
abbrev CP:=@PySem.Txt.slice_le
abbrev CQ:=@List.length_eq_zero_iff
abbrev CS:=@Classical.axiomOfChoice
abbrev CT:=@PySem.wpAny_execs_nil
abbrev CU:=@PySem.typeLookup_type
abbrev CV:=@PySem.wpAny_Call_Name_kw
abbrev CW:=@PySem.tupleKind_room_in1
abbrev CY:=@PySem.Code.quiet_builtin
abbrev CZ:=@PySem.wpAny_getItem_str_slice
abbrev Ca:=@PySem.F.slot_list_getattribute
abbrev Cb:=@List.map_take
abbrev Cc:=@List.all_cons
abbrev Cd:=@PySem.wpAny_fieldsOf
abbrev Ce:=@List.pairwise_append
abbrev Cf:=@List.flatMap_append
abbrev Cg:=@Int.toNat_of_nonneg
abbrev Ci:=@Nat.lt_trans
abbrev Cj:=@Nat.lt_or_ge
abbrev Ck:=@List.pairwise_cons
abbrev Cm:=@List.mem_filterMap
abbrev Co:=@List.drop_zero
abbrev Cp:=@List.contains_cons
abbrev Cq:=@Int.emod_lt_of_pos
abbrev Cr:=@PySem.wpAny_updateSeq
abbrev Ct:=@List.pairwise_iff_getElem
abbrev Cu:=@PySem.wpAny_isSubtype_exc
abbrev Cv:=@Sum.inr.inj
abbrev Cw:=@List.flatMap_cons
abbrev Cy:=@List.append_assoc
abbrev Cz:=@Bool.eq_false_iff
abbrev C0:=@PySem.F.type_list_extend
abbrev C2:=@PySem.F.slot_list_extend
abbrev C3:=@PySem.F.args_tuple_add_2
abbrev C4:=@Option.isSome_iff_exists
abbrev C5:=@List.length_erase_of_mem
abbrev C6:=@List.Pairwise.imp_of_mem
abbrev C7:=@beq_self_eq_true
abbrev C8:=@PySem.F.entry_tuple_add
abbrev C9:=@PySem.F.args_set_iter_1
abbrev DA:=@List.any_eq_true
abbrev DB:=@PySem.F.slot_tuple_add
abbrev DC:=@List.range_succ_eq_map
abbrev DD:=@List.map_nil
abbrev DE:=@List.getElem?_set_self
abbrev DF:=@PySem.wpAny_storeSet_of
abbrev DG:=@PySem.wpAny_loadPart_at
abbrev DH:=@PySem.sizeLine_eq
abbrev DI:=@Option.map_some
abbrev DJ:=@Int.emod_nonneg
abbrev DK:=@Bool.eq_iff_iff
abbrev DL:=@PySem.wpAny_standAt
abbrev DM:=@PySem.wpAny_handled
abbrev DN:=@List.take_append_drop
abbrev DO:=@List.length_singleton
abbrev DP:=@PySem.W.hideAll_none
abbrev DQ:=@Nat.le_succ
abbrev DR:=@List.mem_of_mem_drop
abbrev DS:=@List.getElem?_set_ne
abbrev DT:=@List.map_congr_left
abbrev DU:=@List.getElem?_range
abbrev DV:=@PySem.post_val_or_str
abbrev DW:=@PySem.codeAny_of_tree
abbrev DX:=@List.map_drop
abbrev DY:=@List.cons.inj
abbrev DZ:=@PySem.W.callWith_K
abbrev Da:=@List.zip_cons_cons
abbrev Dc:=@List.findIdx?_eq_some_iff_getElem
abbrev De:=@PySem.wpAny_throw
abbrev Df:=@PySem.wpAny_runValue
abbrev Dh:=@PySem.isSubtype_stop
abbrev Di:=@Option.isSome_map
abbrev Dj:=@List.take_add_one
abbrev Dk:=@List.nodup_append
abbrev Dm:=@List.ext_getElem?
abbrev Dn:=@List.all_map
abbrev Do:=@Bool.or_true
abbrev Dq:=@Array.toList_push
abbrev Dr:=@PySem.putSet_of
abbrev Ds:=@List.eraseIdx_eq_take_drop_succ
abbrev Dt:=@PyProof.Rows.callWith_builtin1
abbrev Du:=@Nat.succ_le_succ
abbrev Dv:=@List.perm_middle
abbrev Dw:=@List.mem_flatMap
abbrev Dx:=@List.filter_cons
abbrev Dy:=@PySem.Heap.get?_update_ne
abbrev Dz:=@PyProof.Rows.slice_closes_toL
abbrev D0:=@PySem.wpAny_load
abbrev D4:=@List.range_succ
abbrev D5:=@List.of_mem_zip
abbrev D6:=@List.nil_append
abbrev D7:=@PySem.wpAny_setEpoch_of
abbrev D8:=@PySem.wpAny_mkText
abbrev D9:=@PySem.F.sub_list_frozenset
abbrev EA:=@PySem.F.slot_tuple_getitem
abbrev EB:=@PySem.F.kt_typeCall_dict_1
abbrev EC:=@PySem.F.excBase_ValueError
abbrev ED:=@List.getD_eq_getElem?_getD
namespace L2
open PySem PySem.Spec PyProof.Rows
abbrev Key:=Sum Int Str
def yS:Key->Value->Bool
 | .inl k,v=>Value.isInt k v
 | .inr x,v=>Value.isStrOf x v
def keyH (w:World):Key->Int
 | .inl k=>hashInt k
 | .inr x=>hashStr w x
theorem zW:∀ {k:Key} {v:Value},yS k v=true->(∃ i t,k=Sum.inl i/\v=Value.int i t)\/(∃ x t,k=Sum.inr x/\v=Value.str x t)
 | .inl i,v,h=>by
  obtain⟨t,e⟩:=Value.isInt_shape (k:=i) (v:=v) h
  exact .inl ⟨i,t,rfl,e⟩
 | .inr x,v,h=>by
  obtain⟨t,e⟩:=Value.isStrOf_shape (x:=x) (v:=v) h
  exact .inr ⟨x,t,rfl,e⟩
theorem YQ (i:Int) (t:Tok):yS (.inl i) (.int i t)=true:=by simp[yS,Value.isInt]
theorem YR (x:Str) (t:Tok):yS (.inr x) (.str x t)=true:=by simp[yS,Value.isStrOf]
theorem key_ll (a b:Int):decide ((Sum.inl a:Key)=Sum.inl b)=(a == b):=by
 by_cases e:a=b
 ·subst e;simp
 ·have h:¬ (Sum.inl a:Key)=Sum.inl b:=fun q=>e (Sum.inl.inj q)
  rw[Ay h]
  exact (beq_eq_false_iff_ne.mpr e).symm
theorem key_rr (a b:Str):decide ((Sum.inr a:Key)=Sum.inr b)=decide (a=b):=by
 by_cases e:a=b
 ·subst e;simp
 ·have h:¬ (Sum.inr a:Key)=Sum.inr b:=fun q=>e (Cv q)
  rw[Ay h,Ay e]
theorem key_lr (a:Int) (b:Str):decide ((Sum.inl a:Key)=Sum.inr b)=false:=Ay (fun q=>nomatch q)
theorem key_rl (a:Str) (b:Int):decide ((Sum.inr a:Key)=Sum.inl b)=false:=Ay (fun q=>nomatch q)
def zR (prog:Program) (w:World):PySem.KeyKind prog w Key where
 is:=yS
 hash:=keyH w
 inj:=fun v a b ha hb=>by
  rcases zW ha with ⟨i,t,rfl,rfl⟩ | ⟨x,t,rfl,rfl⟩
  ·rcases zW hb with ⟨j,u,rfl,e⟩ | ⟨y,u,rfl,e⟩
   ·injection e with e1 _;rw[e1]
   ·exact nomatch e
  ·rcases zW hb with ⟨j,u,rfl,e⟩ | ⟨y,u,rfl,e⟩
   ·exact nomatch e
   ·injection e with e1 _;rw[e1]
 byValue:=fun k v h=>by
  rcases zW h with ⟨i,t,rfl,rfl⟩ | ⟨x,t,rfl,rfl⟩ <;> rfl
 pyHash:=fun hv h=>by
  rcases zW hv with ⟨i,t,rfl,rfl⟩ | ⟨x,t,rfl,rfl⟩
  ·exact wpAny_pyHash_int h
  ·exact wpAny_pyHash_str h
 eqBool:=fun hu hv h=>by
  rcases zW hu with ⟨i,t,rfl,rfl⟩ | ⟨x,t,rfl,rfl⟩
  ·rcases zW hv with ⟨j,u,rfl,rfl⟩ | ⟨y,u,rfl,rfl⟩
   ·rw[key_ll] at h;exact wpAny_eqBool_int h
   ·rw[key_lr] at h;exact SeqAt.EqAt.int_str i t y u _ _ _ _ h
  ·rcases zW hv with ⟨j,u,rfl,rfl⟩ | ⟨y,u,rfl,rfl⟩
   ·rw[key_rl] at h;exact SeqAt.EqAt.str_int x t j u _ _ _ _ h
   ·rw[key_rr] at h;exact wpAny_eqBool_str h
 «strs»:=fun k x t v h=>by
  rcases zW h with ⟨i,u,rfl,e⟩ | ⟨y,u,rfl,e⟩
  ·exact nomatch e
  ·injection e with e1 _
   subst e1
   cases v <;> rfl
theorem WH (prog:Program) (w:World) (i:Int) (t:Tok):(zR prog w).is (.inl i) (.int i t)=true:=YQ i t
theorem WI (prog:Program) (w:World) (x:Str) (t:Tok):(zR prog w).is (.inr x) (.str x t)=true:=YR x t
inductive V where
 | non | bl (b:Bool) | int (i:Int) | str (x:Str) | byt (b:Array UInt8) | flt (b:UInt64) | ref (a:Addr) | ty (n:String)
 deriving DecidableEq
def RelV:V->Value->Prop
 | .non,u=>u=Value.none
 | .bl b,u=>u=Value.bool b
 | .int i,u=>∃ t,u=Value.int i t
 | .str x,u=>∃ t,u=Value.str x t
 | .byt b,u=>∃ t,u=Value.bytes b t
 | .flt b,u=>∃ t,u=Value.float b t
 | .ref a,u=>u=Value.ref a
 | .ty n,u=>u=Value.type n
abbrev zX:List V->List Value->Prop:=Paired RelV
theorem zX.length {xs:List V} {us:List Value} (r:zX xs us):xs.length=us.length:=Aw r
theorem zX.get:∀ {xs:List V} {us:List Value} {i:Nat} {x:V},zX xs us->xs[i]? = some x->∃ u,us[i]? = some u/\RelV x u
 | _,_,_,_,.nil,e=>by simp at e
 | _,_,0,_,.cons r _,e=>by simp at e;subst e;exact⟨_,rfl,r⟩
 | _,_,i+1,x,.cons _ t,e=>by
  obtain⟨u,h1,h2⟩:=zX.get (i:=i) (x:=x) t (by simpa using e)
  exact⟨u,by simpa using h1,h2⟩
theorem zX.set {x:V} {u:Value} (r:RelV x u):∀ {xs:List V} {us:List Value} (i:Nat),zX xs us->zX (xs.set i x) (us.set i u)
 | _,_,_,.nil=>.nil
 | _,_,0,.cons _ t=>.cons r t
 | _,_,i+1,.cons q t=>.cons q (zX.set r i t)
theorem zX.append:∀ {xs ys:List V} {us ws:List Value},zX xs us->zX ys ws->zX (xs++ys) (us++ws)
 | _,_,_,_,.nil,s=>s
 | _,_,_,_,.cons r t,s=>.cons r (zX.append t s)
theorem zX.take:∀ {xs:List V} {us:List Value} (n:Nat),zX xs us->zX (xs.take n) (us.take n)
 | _,_,0,_=>.nil
 | _,_,_+1,.nil=>.nil
 | _,_,n+1,.cons r t=>.cons r (zX.take n t)
theorem zX.drop:∀ {xs:List V} {us:List Value} (n:Nat),zX xs us->zX (xs.drop n) (us.drop n)
 | _,_,0,r=>r
 | _,_,_+1,.nil=>.nil
 | _,_,n+1,.cons _ t=>zX.drop n t
def yo:Option V->Option Value->Prop
 | some v,some u=>RelV v u
 | none,none=>True
 | _,_=>False
def KV {κ:Type}:List (κ×V)->List (κ×Value)->Prop:=Paired fun (p:κ×V) (q:κ×Value)=>p.1=q.1/\RelV p.2 q.2
def kV:Key->V
 | .inl i=>.int i
 | .inr x=>.str x
def PTup (h:Heap) (a:Addr) (items:Array Value):Prop:=∃ o,h.get? a=some o/\o.cls=.type "tuple" /\ (∃ n,o.data=.seq items n)/\o.dict=none
theorem PTup.lt {h:Heap} {a:Addr} {items:Array Value} (x:PTup h a items):a < h.objs.size:=let ⟨_,e,_⟩:=x;AJ e
theorem PTup.isTup {h:Heap} {a:Addr} {items:Array Value} (x:PTup h a items):IsTup h a items:=let ⟨o,e,c,n,_⟩:=x;⟨o,e,c,n⟩
theorem PTup.new (h:Heap) (items:Array Value):PTup (h.push { cls:=.type "tuple",data:=.seq items }) h.objs.size items:=⟨_,AH _ rfl,rfl,⟨_,rfl⟩,rfl⟩
inductive HO where
 /-- a list -/
 | lst (xs:List V)
 /-- a tuple (never changes) -/
 | tup (xs:List V)
 /-- a dict whose keys are ints and texts;one whose keys are tuples of ints and texts (the empty one is both) -/
 | dK (kvs:List (Key×V)) | dT (kvs:List (List Key×V))
 /-- a set of ints: its members,its size -/
 | set (S:Int->Bool) (n:Nat)
 /-- an instance of the class at C,its dict at dx,its attributes -/
 | ins (C dx:Addr) (fs:List (Str×V))
 /-- the dict of the instance at x -/
 | own (x:Addr)
 /-- the dict of an exception -/
 | xd (fs:List (Str×V))
 /-- a bound method,f of x -/
 | met (f x:Addr)
 /-- a range object lo,lo+1,.. below hi -/
 | rng (lo hi:Int)
 /-- a thing that is known to the object (the script;a dict while a loop walks it): read,never written while it is so -/
 | frz (o:Obj) (u:HO)
 /-- a code object's table -/
 | tbl (ps:Array Value)
 /-- any other thing,by what is true of its one object (a def of one's own: SetO a S n:=HO.ext fun h=>..) -/
 | ext (φ:Heap->Prop)
abbrev Hp:=Addr->Option HO
def upd (H:Hp) (a:Addr) (o:HO):Hp:=fun b=>if b=a then some o else H b
theorem zc {H:Hp} {a:Addr} {o:HO}:upd H a o a=some o:=by unfold upd;rw[if_pos rfl]
theorem zk {H:Hp} {a b:Addr} {o:HO} (h:b ≠ a):upd H a o b=H b:=by unfold upd;rw[if_neg h]
theorem ne_of {H:Hp} {a b:Addr} {o u:HO} (h:H a=some o) (h':H b=some u) (d:o ≠ u):a ≠ b:=by
 intro e;subst e;rw[h] at h';exact d (AL h')
theorem zr {H:Hp} {a b:Addr} {o:HO} (h:H a=some o) (h':H b=none):a ≠ b:=by
 intro e;subst e;rw[h] at h';cases h'
section
variable (P : Program) (w : World)
def qd (H:Hp) (h:Heap) (a:Addr):HO->Prop
 | .lst xs=>xs.length<=sizeLine/\∃ (its:List Value) (n:Nat),zX xs its/\h.get? a=some { cls:=.type "list",data:=.seq its.toArray n }
 | .tup xs=>xs.length<=sizeLine/\∃ its:List Value,zX xs its/\PTup h a its.toArray
 | .dK kvs=>kvs.length<=sizeLine/\(a == sysModules)=false/\∃ vs,KV kvs vs/\h.DictOf (zR P w) a vs
 | .dT kvs=>kvs.length<=sizeLine/\(a == sysModules)=false/\∃ xs:List (List Key×Addr×Value),
   Paired (fun (p:List Key×V) (q:List Key×Addr×Value)=>p.1=q.1/\H q.2.1=some (.tup (p.1.map kV))/\RelV p.2 q.2.2) kvs xs /\
   ∃ o es ep,h.get? a=some o/\o.ExactDict/\o.data=.dict es ep/\es.toList=xs.map (entryOfKey (tupleKind (zR P w)))/\(xs.map (·.1)).Nodup
 | .set S n=>h.SetOf (intKind P w) a S n
 | .ins C dx fs=>H dx=some (.own a)/\fs.length<=1000/\dx ≠ a/\h.get? a=some (PySem.W.instObj C dx) /\
   ∃ mA,h.Ns1 dx mA/\(∀ f,yo (fs.lookup f) (mA f))/\PySem.Within mA (fs.map (·.1))
 | .own _=>∃ o,h.get? a=some o
 | .xd fs=>∃ mA,h.Ns1 a mA/\∀ f,yo (fs.lookup f) (mA f)
 | .rng lo hi=>∃ t u v,h.get? a=some { cls:=.type "range",data:=.fields #[.int lo t,.int hi u,.int 1 v] }
 | .frz o u=>h.get? a=some o/\qd H h a u
 | .tbl ps=>h.get? a=some { cls:=.none,data:=.fields ps }
 | .met f x=>h.get? a=some (PySem.W.methodObj (.ref f) (.ref x))
 | .ext φ=>φ h/\(∃ o,h.get? a=some o)/\∀ h1 h2:Heap,φ h1->(∀ o,h1.get? a=some o->h2.get? a=some o)->φ h2
def HOk (H:Hp) (h:Heap):Prop:=∀ a o,H a=some o->qd P w H h a o
end
section
variable {P : Program} {w : World} {H H' : Hp} {h h' : Heap} {a : Addr} {o : HO}
theorem qd.lt (x:qd P w H h a o):a < h.objs.size:=by
 cases o with
 | lst xs=>obtain⟨_,_,_,_,e⟩:=x;exact AJ e
 | tup xs=>obtain⟨_,_,_,p⟩:=x;exact p.lt
 | dK kvs=>obtain⟨_,_,_,_,o,_,_,e,_⟩:=x;exact AJ e
 | dT kvs=>obtain⟨_,_,_,_,o,_,_,e,_⟩:=x;exact AJ e
 | set S n=>obtain⟨o,_,_,_,e,_⟩:=x;exact AJ e
 | ins C dx fs=>obtain⟨_,_,_,e,_⟩:=x;exact AJ e
 | own y=>obtain⟨_,e⟩:=x;exact AJ e
 | xd fs=>obtain⟨_,⟨_,_,_,e,_⟩,_⟩:=x;exact AJ e
 | rng lo hi=>obtain⟨_,_,_,e⟩:=x;exact AJ e
 | frz ob u=>obtain⟨e,_⟩:=x;exact AJ e
 | tbl ps=>exact AJ (show h.get? a=some _ from x)
 | met f y=>exact AJ (show h.get? a=some _ from x)
 | ext φ=>obtain⟨_,⟨_,e⟩,_⟩:=x;exact AJ e
theorem Paired.mapP {α β:Type} {F G:α->β->Prop}:∀ {l₁:List α} {l₂:List β},Paired F l₁ l₂->(∀ a b,F a b->G a b)->Paired G l₁ l₂
 | _,_,.nil,_=>.nil
 | _,_,.cons r t,f=>.cons (f _ _ r) (Paired.mapP t f)
theorem Paired.imp' {α β:Type} {F G:α->β->Prop} (f:∀ a b,F a b->G a b) {l₁:List α} {l₂:List β} (r:Paired F l₁ l₂):Paired G l₁ l₂:=Paired.mapP r f
theorem qd.stay (x:qd P w H h a o) (k:∀ b u,(b=a\/H b=some (.own a))->h.get? b=some u->h'.get? b=some u)
  (ho:∀ b,H b=some (.own a)->H' b=some (.own a)) (ht:∀ b xs,H b=some (.tup xs)->H' b=some (.tup xs)):qd P w H' h' a o:=by
 induction o with
 | lst xs=>obtain⟨z,its,n,r,e⟩:=x;exact⟨z,its,n,r,k _ _ (.inl rfl) e⟩
 | tup xs=>obtain⟨z,its,r,ob,e,c⟩:=x;exact⟨z,its,r,ob,k _ _ (.inl rfl) e,c⟩
 | dK kvs=>obtain⟨z,y,vs,r,ob,es,ep,e,c⟩:=x;exact⟨z,y,vs,r,ob,es,ep,k _ _ (.inl rfl) e,c⟩
 | dT kvs=>
  obtain⟨z,y,xs,r,ob,es,ep,e,c⟩:=x
  exact⟨z,y,xs,Paired.mapP r fun p q z=>⟨z.1,ht _ _ z.2.1,z.2.2⟩,ob,es,ep,k _ _ (.inl rfl) e,c⟩
 | set S n=>obtain⟨ob,es,ep,t,e,c⟩:=x;exact⟨ob,es,ep,t,k _ _ (.inl rfl) e,c⟩
 | ins C dx fs=>
  obtain⟨d,z,ne,e,mA,⟨od,es,ep,e2,c⟩,r⟩:=x
  exact⟨ho _ d,z,ne,k _ _ (.inl rfl) e,mA,⟨od,es,ep,k _ _ (.inr d) e2,c⟩,r⟩
 | own y=>obtain⟨ob,e⟩:=x;exact⟨ob,k _ _ (.inl rfl) e⟩
 | xd fs=>obtain⟨mA,⟨od,es,ep,e,c⟩,r⟩:=x;exact⟨mA,⟨od,es,ep,k _ _ (.inl rfl) e,c⟩,r⟩
 | rng lo hi=>obtain⟨t,u,v,e⟩:=x;exact⟨t,u,v,k _ _ (.inl rfl) e⟩
 | frz ob u ih=>obtain⟨e,q⟩:=x;exact⟨k _ _ (.inl rfl) e,ih q⟩
 | tbl ps=>
  have e:h.get? a=some { cls:=.none,data:=.fields ps }:=x
  show h'.get? a=some { cls:=.none,data:=.fields ps }
  exact k a _ (.inl rfl) e
 | met f y=>
  have e:h.get? a=some (PySem.W.methodObj (.ref f) (.ref y)):=x
  show h'.get? a=some (PySem.W.methodObj (.ref f) (.ref y))
  exact k a _ (.inl rfl) e
 | ext φ=>obtain⟨p,⟨o,e⟩,st⟩:=x;exact⟨st _ _ p fun o q=>k _ _ (.inl rfl) q,⟨o,k _ _ (.inl rfl) e⟩,st⟩
theorem HOk.lt (x:HOk P w H h) (e:H a=some o):a < h.objs.size:=(x a o e).lt
theorem HOk.fresh (x:HOk P w H h) (e:h.objs.size<=a):H a=none:=by
 cases q:H a with
 | none=>rfl
 | some u=>exact absurd (AX (x.lt q) e) (BC _)
theorem HOk.kept (x:HOk P w H h) (k:∀ b u,h.get? b=some u->h'.get? b=some u):HOk P w H h':=fun a o e=>
 (x a o e).stay (fun b u _ q=>k b u q) (fun _ q=>q) fun _ _ q=>q
theorem HOk.laid (x:HOk P w H h) (k:∀ b u,h.get? b=some u->h'.get? b=some u) (hp:h.objs.size<=a) (new:qd P w (upd H a o) h' a o):HOk P w (upd H a o) h':=fun b u e=>by
 have hn:=x.fresh hp
 by_cases hb:b=a
 ·subst hb;rw[zc] at e;cases e;exact new
 ·rw[zk hb] at e
  exact (x b u e).stay (fun c v _ q=>k c v q) (fun c q=>by rw[zk (zr q hn)];exact q) fun c xs q=>by rw[zk (zr q hn)];exact q
end
def Rd (H:Hp) (a:Addr) (u:HO):Prop:=H a=some u\/∃ o,H a=some (.frz o u)
theorem Rd.ok {P:Program} {w:World} {H:Hp} {h:Heap} {a:Addr} {u:HO} (r:Rd H a u) (x:HOk P w H h):qd P w H h a u:=by
 rcases r with r | ⟨o,r⟩
 ·exact x a u r
 ·obtain⟨_,q⟩:=x a _ r
  exact q
def Mut:Option HO->Prop
 | some (.lst _)=>True
 | some (.dK _)=>True
 | some (.dT _)=>True
 | some (.set _ _)=>True
 | some (.ins _ _ _)=>True
 | some (.ext _)=>True
 | _=>False
section
variable {P : Program} {w : World} {H : Hp} {h h' : Heap} {x e : Addr} {o' : HO}
theorem HOk.write (ok:HOk P w H h) (mu:Mut (H x)) (he:e=x\/H e=some (.own x)) (k:∀ b u,b ≠ e->h.get? b=some u->h'.get? b=some u) (heo:∃ u,h'.get? e=some u)
  (new:qd P w (upd H x o') h' x o'):HOk P w (upd H x o') h':=fun b u q=>by
 have nown:∀ c y,H c=some (.own y)->c ≠ x:=fun c y r z=>by subst z;rw[r] at mu;exact mu
 have ntup:∀ c xs,H c=some (.tup xs)->c ≠ x:=fun c xs r z=>by subst z;rw[r] at mu;exact mu
 by_cases hb:b=x
 ·subst hb;rw[zc] at q;cases q;exact new
 ·rw[zk hb] at q
  by_cases hbe:b=e
  ·have q':H b=some (.own x):=by
    rcases he with z | z
    ·exact absurd (hbe.trans z) hb
    ·rw[hbe];exact z
   rw[q] at q';cases q'
   obtain⟨v,hv⟩:=heo
   exact⟨v,by rw[hbe];exact hv⟩
  ·refine (ok b u q).stay (fun c v hc r=>k c v ?_ r) (fun c r=>by rw[zk (nown c b r)];exact r) fun c xs r=>by rw[zk (ntup c xs r)];exact r
   rcases hc with rfl | hc
   ·exact hbe
   ·rintro rfl
    rcases he with z | z
    ·exact nown c b hc z
    ·rw[hc] at z;cases z;exact hb rfl
end
structure Un (fs ex:List Addr) (H H':Hp) (h h':Heap):Prop where
 keep:∀ b o,h.get? b=some o->H b=none->b ∉ fs->b ∉ ex->h'.get? b=some o
 slot:∀ b o,h.get? b=some o->H b=none->b ∈ fs->b ∉ ex->∃ sl,h'.get? b=some { o with slots:=sl }
 free:∀ b o,h.get? b=some o->H b=none->b ∉ ex->H' b=none
 there:∀ b o,h.get? b=some o->b ∉ ex->∃ o',h'.get? b=some o'
 tups:∀ b xs,H b=some (.tup xs)->H' b=some (.tup xs)
 frzs:∀ b o u,H b=some (.frz o u)->H' b=some (.frz o u)
 tbls:∀ b ps,H b=some (.tbl ps)->∃ more,H' b=some (.tbl (ps++more))
section
variable {fs fs' ex ex' : List Addr} {H H1 H2 : Hp} {h h1 h2 h' : Heap} {a x e : Addr} {o : HO}
theorem Un.any (u:Un fs ex H H1 h h1) {b:Addr} {ob:Obj} (q:h.get? b=some ob) (n:H b=none) (hx:b ∉ ex):∃ sl,h1.get? b=some { ob with slots:=sl }:=by
 by_cases hb:b ∈ fs
 ·exact u.slot b ob q n hb hx
 ·exact⟨ob.slots,u.keep b ob q n hb hx⟩
theorem Un.kept (k:∀ b u,h.get? b=some u->h'.get? b=some u):Un fs ex H H h h':=
 ⟨fun b ob q _ _ _=>k b ob q,fun b ob q _ _ _=>⟨ob.slots,k b ob q⟩,fun _ _ _ n _=>n,fun b ob q _=>⟨ob,k b ob q⟩,fun _ _ q=>q,fun _ _ _ q=>q,fun _ ps q=>⟨#[],by rw[q];simp⟩⟩
theorem Un.refl:Un fs ex H H h h:=Un.kept fun _ _ q=>q
theorem Un.laid (k:∀ b u,h.get? b=some u->h'.get? b=some u) (hp:h.objs.size<=a) (hn:H a=none):Un fs ex H (upd H a o) h h' where
 keep:=fun b u q _ _ _=>k b u q
 slot:=fun b u q _ _ _=>⟨u.slots,k b u q⟩
 free:=fun b u q n _=>by rw[zk (AN (AX (AJ q) hp))];exact n
 there:=fun b u q _=>⟨u,k b u q⟩
 tups:=fun b xs q=>by rw[zk (zr q hn)];exact q
 frzs:=fun b u xs q=>by rw[zk (zr q hn)];exact q
 tbls:=fun b ps q=>⟨#[],by rw[zk (zr q hn),q];simp⟩
theorem Un.write (mu:Mut (H x)) (he:e=x\/H e=some (.own x)) (k:∀ b u,b ≠ e->h.get? b=some u->h'.get? b=some u) (heo:∃ u,h'.get? e=some u):Un fs ex H (upd H x o) h h':=by
 have hx:∀ b,H b=none->b ≠ x:=fun b n z=>by subst z;rw[n] at mu;exact mu
 have hb:∀ b,H b=none->b ≠ e:=fun b n z=>by
  subst z
  rcases he with r | r
  ·exact hx b n r
  ·rw[n] at r;cases r
 have hm:∀ b u,H b=some u->¬ Mut (some u)->b ≠ x:=fun b u q nm z=>by subst z;rw[q] at mu;exact nm mu
 refine⟨fun b u q n _ _=>k b u (hb b n) q,fun b u q n _ _=>⟨u.slots,k b u (hb b n) q⟩,fun b u q n _=>by rw[zk (hx b n)];exact n,fun b u q _=>?_,
  fun b xs q=>by rw[zk (hm b _ q fun z=>z)];exact q,fun b u xs q=>by rw[zk (hm b _ q fun z=>z)];exact q,fun b ps q=>⟨#[],by rw[zk (hm b _ q fun z=>z),q];simp⟩⟩
 by_cases hbe:b=e
 ·subst hbe;exact heo
 ·exact⟨u,k b u hbe q⟩
end
def trk (h:Heap) (H:Hp):List Addr:=(List.range h.objs.size).filter fun a=>(H a).isSome
def hidT (h:Heap) (H:Hp):Heap:=PySem.W.hideAll h (trk h H)
theorem YS (h:Heap) (H:Hp):(hidT h H).objs.size=h.objs.size:=PySem.W.hideAll_size _ _
theorem hidT_get {h:Heap} {H:Hp} {b:Addr} {o:Obj} (e:h.get? b=some o) (n:H b=none):(hidT h H).get? b=some o:=
 PySem.W.hideAll_get _ e fun hm=>by
  have q:(H b).isSome=true:=(Bu.mp hm).2
  rw[n] at q;simp at q
theorem of_hidT {h:Heap} {H:Hp} {b:Addr} {o:Obj} (e:(hidT h H).get? b=some o):h.get? b=some o/\H b=none:=by
 have e':h.get? b=some o:=PySem.W.of_hideAll (trk h H) e
 refine⟨e',?_⟩
 cases q:H b with
 | none=>rfl
 | some x=>
  have hm:b ∈ trk h H:=Bu.mpr ⟨BN.mpr (AJ e'),by simp[q]⟩
  have z:(hidT h H).get? b=none:=DP (trk h H) hm
  rw[z] at e;cases e
structure Mod (K:PySem.W.Frag) (mg:Str->Option Value) (base:Heap):Prop where
 kin:K.In base
 glob:base.Ns mainGlobals mg
 blt:∃ mb,base.Ns builtinsNs mb/\∀ x:Str,x ≠ "__name__" -> mb x=bootBuiltins x
 nolimit:base.NoLimit
structure Cx where
 prog:Program
 w:World
 K:PySem.W.Frag
 mg:Str->Option Value
 base:Heap
 A:Around
 N:List Str
 s₀:Shared
 H₀:Hp
 env:Env
 outer:List Env
 stack:List Env
 ex:List Addr
 fn:Str->Bool
 calm:Bool
 pn:List (Addr×Obj)
 xe:Value->Shared->Prop
def frs (l:List Env):List Addr:=l.filterMap (·.frame)
abbrev Cx.fs (X:Cx):List Addr:=frs X.outer
def Vis (sc:Scope) (x:Str):Prop:=sc.names.lookup x=some .local\/sc.names.lookup x=some .cell\/sc.names.lookup x=some .free
def Loc (sc:Scope) (x:Str):Prop:=sc.names.lookup x=some .local\/sc.names.lookup x=some .cell
def Look (env:Env) (h:Heap) (m:Str->Option Value) (x:Str) (u:Value):Prop:=
 (env.kindOf x=some .local/\m x=some u)\/((env.kindOf x=some .cell\/env.kindOf x=some .free)/\∃ c,env.cells.lookup x=some c/\h.IsCell c (some u))
structure Cx.Ok (X:Cx):Prop where
 mod:Mod X.K X.mg X.base
 kind:X.env.scope.kind=.function
 glob:X.env.globals=mainGlobals
 blt:X.env.builtins=builtinsNs
 above:X.s₀.heap.objs.size<=X.env.locals
 inj:∀ x y c,X.env.cells.lookup x=some c->X.env.cells.lookup y=some c->x=y
 has:∀ x,(X.env.kindOf x=some .cell\/X.env.kindOf x=some .free)->∃ c,X.env.cells.lookup x=some c
 cab:∀ x c,X.fn x=true->X.env.cells.lookup x=some c->X.s₀.heap.objs.size<=c
 hd:X.calm=true->X.A.handled=none
 frames:X.A.frames=some X.stack
 stk:X.stack=X.outer\/(X.stack=X.env :: X.outer/\X.env.frame=some X.env.locals)
 exf:∀ b ∈ X.ex,b ≠ X.env.locals/\∀ x c,X.env.cells.lookup x=some c->c ≠ b
 bs:∀ b o,X.base.get? b=some o->X.s₀.heap.get? b=some o/\X.H₀ b=none
 bsz:X.base.objs.size<=X.s₀.heap.objs.size
 noex:∀ b o,X.base.get? b=some o->b ∉ X.ex
 exfs:∀ b ∈ X.ex,b ∉ X.fs
 funs:X.s₀.heap.FunFrames X.base X.outer
 frf:∀ b ∈ X.fs,X.H₀ b=none
structure Inv (X:Cx) (pins:List (Addr×Obj)) (σ:List (Option V)) (H:Hp) (s:Shared):Prop where
 ok:X.Ok
 os:s.os=X.s₀.os
 bare:AllBare s.gens
 base:Un X.fs X.ex X.H₀ H X.s₀.heap s.heap
 loc:∃ m,s.heap.Ns X.env.locals m/\∀ (i:Nat) (x:Str) (v:V),X.N[i]? = some x->σ[i]? = some (some v)->Vis X.env.scope x->∃ u,RelV v u/\Look X.env s.heap m x u
 cell:∀ x c,X.env.cells.lookup x=some c->∃ v,s.heap.IsCell c v
 free:H X.env.locals=none
 freeC:∀ x c,X.env.cells.lookup x=some c->H c=none
 pin:∀ p ∈ X.pn++pins,s.heap.get? p.1=some p.2/\H p.1=none/\p.1 ≠ X.env.locals/\p.1 ∉ X.fs/\∀ v,p.2.data ≠ .cell v
 hok:HOk X.prog X.w H s.heap
 len:σ.length=X.N.length
section
variable {X : Cx} {pins : List (Addr × Obj)} {σ : List (Option V)} {H H' : Hp} {s : Shared} {h' : Heap}
theorem Cx.Ok.nofr (ok:X.Ok) {b:Addr} {o:Obj} (e:X.base.get? b=some o):b ∉ X.fs:=fun hb=>by
 have:=(ok.funs.mem hb).1
 rw[e] at this;cases this
theorem Inv.bs (I:Inv X pins σ H s):∀ b o,X.base.get? b=some o->s.heap.get? b=some o/\H b=none:=fun b o e=>
 ⟨I.base.keep b o (I.ok.bs b o e).1 (I.ok.bs b o e).2 (I.ok.nofr e) (I.ok.noex b o e),I.base.free b o (I.ok.bs b o e).1 (I.ok.bs b o e).2 (I.ok.noex b o e)⟩
theorem Inv.bk (I:Inv X pins σ H s):∀ b o,X.base.get? b=some o->s.heap.get? b=some o:=fun b o e=>(I.bs b o e).1
theorem Inv.mod (I:Inv X pins σ H s):Mod X.K X.mg X.base:=I.ok.mod
theorem Inv.kIn (I:Inv X pins σ H s):X.K.In s.heap:=I.ok.mod.kin.keeps I.bk
theorem Inv.lt (I:Inv X pins σ H s):X.env.locals < s.heap.objs.size:=let ⟨_,hn,_⟩:=I.loc;hn.lt
theorem Inv.sz (I:Inv X pins σ H s):X.s₀.heap.objs.size<=s.heap.objs.size:=Ag I.ok.above (B8 I.lt)
theorem Inv.nofs (I:Inv X pins σ H s) {a:Addr} (h:s.heap.objs.size<=a):a ∉ X.fs:=fun hb=>by
 obtain⟨_,o,ho,_⟩:=I.ok.funs.mem hb
 exact absurd (AX (AJ ho) (Ag I.sz h)) (BC _)
theorem Inv.cne (I:Inv X pins σ H s):∀ x c,X.env.cells.lookup x=some c->c ≠ X.env.locals:=fun x c e z=>by
 obtain⟨v,o,ho,hd⟩:=I.cell x c e
 obtain⟨m,⟨o',es,ep,ho',hd',_⟩,_⟩:=I.loc
 rw[z,ho'] at ho;cases ho;rw[hd'] at hd;cases hd
theorem Inv.funs (I:Inv X pins σ H s):s.heap.FunFrames X.base X.outer:=by
 have all:∀ (l:List Env),(∀ b ∈ frs l,b ∈ X.fs)->X.s₀.heap.FunFrames X.base l->s.heap.FunFrames X.base l:=by
  intro l
  induction l with
  | nil=>intro _ _;trivial
  | cons env r ih=>
   intro hs hl
   obtain⟨hk,⟨L,o,hf,hn,ho,hd⟩,hr⟩:=hl
   have hL:L ∈ X.fs:=hs L (by unfold frs;rw[List.filterMap_cons,hf];exact AO)
   obtain⟨sl,e⟩:=I.base.slot L o ho (I.ok.frf L hL) hL fun z=>I.ok.exfs L z hL
   exact⟨hk,⟨L,_,hf,hn,e,hd⟩,ih (fun b hb=>hs b (by unfold frs;rw[List.filterMap_cons,hf];exact AU _ hb)) hr⟩
 exact all X.outer (fun _ hb=>hb) I.ok.funs
theorem Inv.stack (I:Inv X pins σ H s):s.heap.FunFrames X.base X.stack:=by
 rcases I.ok.stk with e | ⟨e,hf⟩
 ·rw[e];exact I.funs
 ·rw[e]
  obtain⟨m,hn,_⟩:=I.loc
  refine .cons (by rw[I.ok.kind];decide) hf hn ?_ I.funs
  exact B5 (Ag I.ok.bsz I.ok.above)
theorem Inv.stkSub (I:Inv X pins σ H s):∀ b ∈ frs X.stack,b ∈ X.env.locals :: X.fs:=fun b hb=>by
 rcases I.ok.stk with e | ⟨e,hf⟩
 ·rw[e] at hb;exact AU _ hb
 ·rw[e] at hb
  unfold frs at hb
  rw[CN,hf] at hb
  exact hb
theorem Inv.stkFree (I:Inv X pins σ H s):∀ b ∈ frs X.stack,H b=none:=fun b hb=>by
 rcases AR.mp (I.stkSub b hb) with e | hb
 ·rw[e];exact I.free
 ·obtain⟨_,o,ho,_⟩:=I.ok.funs.mem hb
  exact I.base.free b o ho (I.ok.frf b hb) fun z=>I.ok.exfs b z hb
theorem Inv.step {g':Array GenState} {t':Nat} {d':Drawn} {ch:List Addr} (I:Inv X pins σ H s)
  (hch:∀ b ∈ ch,(b ∈ X.ex\/X.s₀.heap.objs.size<=b)/\b ≠ X.env.locals/\(∀ x c,X.env.cells.lookup x=some c->c ≠ b)/\∀ p ∈ X.pn++pins,p.1 ≠ b)
  (keep:∀ b o,b ≠ X.env.locals->b ∉ X.fs->b ∉ ch->s.heap.get? b=some o->H b=none->h'.get? b=some o)
  (slot:∀ b o,b ≠ X.env.locals->b ∈ X.fs->b ∉ ch->s.heap.get? b=some o->H b=none->∃ sl,h'.get? b=some { o with slots:=sl }) (free:∀ b o,b ∉ ch->s.heap.get? b=some o->H b=none->H' b=none)
  (there:∀ b o,b ∉ ch->s.heap.get? b=some o->∃ o',h'.get? b=some o')
  (tups:∀ b xs,H b=some (.tup xs)->H' b=some (.tup xs)) (frzs:∀ b o u,H b=some (.frz o u)->H' b=some (.frz o u)) (tbls:∀ b ps,H b=some (.tbl ps)->∃ more,H' b=some (.tbl (ps++more)))
  (ns:∀ m,s.heap.Ns X.env.locals m->h'.Ns X.env.locals m) (hok:HOk X.prog X.w H' h') (hg:AllBare g') :
  Inv X pins σ H' { s with heap:=h',gens:=g',drawn:=d',toks:=t' }:=by
 have neL:∀ b o,X.s₀.heap.get? b=some o->b ≠ X.env.locals:=fun b o e=>AN (AX (AJ e) I.ok.above)
 have neC:∀ b o,X.s₀.heap.get? b=some o->b ∉ X.ex->b ∉ ch:=fun b o e hx hb=>by
  rcases (hch b hb).1 with z | z
  ·exact hx z
  ·exact absurd (AX (AJ e) z) (BC _)
 have cellK:∀ x c,X.env.cells.lookup x=some c->∀ v,s.heap.IsCell c v->h'.IsCell c v:=fun x c e v ⟨o,ho,hd⟩=>by
  have nch:c ∉ ch:=fun z=>(hch c z).2.2.1 x c e rfl
  by_cases hc:c ∈ X.fs
  ·obtain⟨sl,q⟩:=slot c o (I.cne x c e) hc nch ho (I.freeC x c e)
   exact⟨_,q,hd⟩
  ·exact⟨o,keep c o (I.cne x c e) hc nch ho (I.freeC x c e),hd⟩
 refine⟨I.ok,I.os,hg,⟨fun b o e n hb hx=>?_,fun b o e n hb hx=>?_,fun b o e n hx=>?_,fun b o e hx=>?_,fun b xs e=>tups b xs (I.base.tups b xs e),fun b o xs e=>frzs b o xs (I.base.frzs b o xs e),fun b ps e=>?_⟩,?_,fun x c e=>?_,?_,fun x c e=>?_,fun p hp=>?_,hok,I.len⟩
 ·exact keep b o (neL b o e) hb (neC b o e hx) (I.base.keep b o e n hb hx) (I.base.free b o e n hx)
 ·obtain⟨sl,e1⟩:=I.base.slot b o e n hb hx
  obtain⟨sl',e2⟩:=slot b _ (neL b o e) hb (neC b o e hx) e1 (I.base.free b o e n hx)
  exact⟨sl',e2⟩
 ·obtain⟨o',e1⟩:=I.base.there b o e hx
  exact free b o' (neC b o e hx) e1 (I.base.free b o e n hx)
 ·obtain⟨o',e1⟩:=I.base.there b o e hx
  exact there b o' (neC b o e hx) e1
 ·obtain⟨m1,e1⟩:=I.base.tbls b ps e
  obtain⟨m2,e2⟩:=tbls b _ e1
  exact⟨m1++m2,by rw[e2,Array.append_assoc]⟩
 ·obtain⟨m,hn,hl⟩:=I.loc
  refine⟨m,ns m hn,fun i x v e1 e2 e3=>?_⟩
  obtain⟨u,r,l⟩:=hl i x v e1 e2 e3
  refine⟨u,r,?_⟩
  rcases l with l | ⟨k,c,e,z⟩
  ·exact .inl l
  ·exact .inr ⟨k,c,e,cellK x c e _ z⟩
 ·obtain⟨v,z⟩:=I.cell x c e
  exact⟨v,cellK x c e v z⟩
 ·obtain⟨m,⟨o,_,_,ho,_⟩,_⟩:=I.loc
  exact free _ o (fun z=>(hch _ z).2.1 rfl) ho I.free
 ·obtain⟨v,o,ho,hd⟩:=I.cell x c e
  exact free c o (fun z=>(hch c z).2.2.1 x c e rfl) ho (I.freeC x c e)
 ·obtain⟨e,n,ne,nf,d⟩:=I.pin p hp
  have nch:p.1 ∉ ch:=fun z=>(hch p.1 z).2.2.2 p hp rfl
  exact⟨keep p.1 p.2 ne nf nch e n,free p.1 p.2 nch e n,ne,nf,d⟩
theorem Inv.un {t':Nat} (I:Inv X pins σ H s) (u:Un X.fs [] H H' s.heap h') (hok:HOk X.prog X.w H' h'):Inv X pins σ H' { s with heap:=h',toks:=t' }:=by
 obtain⟨m,⟨o,es,ep,ho,r⟩,_⟩:=id I.loc
 obtain⟨sl,hL⟩:=u.any ho I.free (by simp)
 exact I.step (g':=s.gens) (d':=s.drawn) (ch:=[]) (fun _ z=>nomatch z) (fun b o _ hb _ e n=>u.keep b o e n hb (by simp)) (fun b o _ hb _ e n=>u.slot b o e n hb (by simp)) (fun b o _ e n=>u.free b o e n (by simp)) (fun b o _ e=>u.there b o e (by simp)) u.tups u.frzs u.tbls (fun m' hm=>by
  obtain⟨o',es',ep',ho',r'⟩:=hm
  rw[ho] at ho';cases ho'
  exact⟨_,es',ep',hL,r'⟩) hok I.bare
theorem Inv.call {g':Array GenState} {t':Nat} {d':Drawn} {ch:List Addr} (I:Inv X pins σ H s) (u:Un (frs X.stack) ch H H' s.heap h') (hok:HOk X.prog X.w H' h') (hg:AllBare g')
  (hch:∀ b ∈ ch,(b ∈ X.ex\/X.s₀.heap.objs.size<=b)/\b ≠ X.env.locals/\(∀ x c,X.env.cells.lookup x=some c->c ≠ b)/\∀ p ∈ X.pn++pins,p.1 ≠ b) :
  Inv X pins σ H' { s with heap:=h',gens:=g',drawn:=d',toks:=t' }:=by
 obtain⟨m,⟨o,es,ep,ho,r⟩,_⟩:=id I.loc
 obtain⟨sl,hL⟩:=u.any ho I.free fun z=>(hch _ z).2.1 rfl
 exact I.step (ch:=ch) hch (fun b o hL hb hc e n=>u.keep b o e n (fun z=>(AR.mp (I.stkSub b z)).elim hL hb) hc) (fun b o _ _ hc e n=>u.any e n hc) (fun b o hc e n=>u.free b o e n hc) (fun b o hc e=>u.there b o e hc) u.tups u.frzs u.tbls (fun m' hm=>by
  obtain⟨o',es',ep',ho',r'⟩:=hm
  rw[ho] at ho';cases ho'
  exact⟨_,es',ep',hL,r'⟩) hok hg
theorem Inv.turned {t':Nat} {it:Addr} (I:Inv X pins σ H s) (k:∀ b o,b ≠ it->s.heap.get? b=some o->h'.get? b=some o) (hn:H it=none) (hL:it ≠ X.env.locals)
  (h1:it ∈ X.ex\/X.s₀.heap.objs.size<=it) (h2:∀ x c,X.env.cells.lookup x=some c->c ≠ it) (h3:∀ p ∈ X.pn++pins,p.1 ≠ it):Inv X pins σ H { s with heap:=h',toks:=t' }:=by
 have nit:∀ b u,H b=some u->b ≠ it:=fun b u e z=>by rw[z,hn] at e;cases e
 refine I.step (g':=s.gens) (d':=s.drawn) (ch:=[it]) (fun b hb=>?_) (fun b o _ _ hc e _=>k b o (fun z=>hc (by simp[z])) e) (fun b o _ _ hc e _=>⟨o.slots,k b o (fun z=>hc (by simp[z])) e⟩) (fun _ _ _ _ n=>n)
  (fun b o hc e=>⟨o,k b o (fun z=>hc (by simp[z])) e⟩) (fun _ _ e=>e) (fun _ _ _ e=>e) (fun b ps e=>⟨#[],by rw[e];simp⟩) (fun m hm=>?_) (fun b u e=>?_) I.bare
 ·have e:b=it:=by simpa using hb
  subst e
  exact⟨h1,hL,h2,h3⟩
 ·obtain⟨o,es,ep,ho,r⟩:=hm
  exact⟨o,es,ep,k _ o (Am hL) ho,r⟩
 ·refine (I.hok b u e).stay (fun c v hc q=>k c v ?_ q) (fun _ q=>q) fun _ _ q=>q
  rcases hc with z | z
  ·rw[z];exact nit b u e
  ·exact nit c _ z
theorem Inv.tok (I:Inv X pins σ H s) (t:Nat):Inv X pins σ H { s with toks:=t }:=I.un (h':=s.heap) (t':=t) Un.refl I.hok
theorem Inv.kept {t':Nat} (I:Inv X pins σ H s) (k:∀ b u,s.heap.get? b=some u->h'.get? b=some u):Inv X pins σ H { s with heap:=h',toks:=t' }:=I.un (Un.kept k) (I.hok.kept k)
theorem Inv.laid {a:Addr} {o:HO} {t':Nat} (I:Inv X pins σ H s) (k:∀ b u,s.heap.get? b=some u->h'.get? b=some u) (hp:s.heap.objs.size<=a) (new:qd X.prog X.w (upd H a o) h' a o) :
  Inv X pins σ (upd H a o) { s with heap:=h',toks:=t' }:=I.un (Un.laid k hp (I.hok.fresh hp)) (I.hok.laid k hp new)
theorem Inv.write {x e:Addr} {o:HO} {t':Nat} (I:Inv X pins σ H s) (mu:Mut (H x)) (he:e=x\/H e=some (.own x)) (k:∀ b u,b ≠ e->s.heap.get? b=some u->h'.get? b=some u) (heo:∃ u,h'.get? e=some u)
  (new:qd X.prog X.w (upd H x o) h' x o):Inv X pins σ (upd H x o) { s with heap:=h',toks:=t' }:=I.un (Un.write mu he k heo) (I.hok.write mu he k heo new)
theorem Inv.pins_of {pins':List (Addr×Obj)} (I:Inv X pins σ H s) (h:∀ p ∈ pins',s.heap.get? p.1=some p.2/\H p.1=none/\p.1 ≠ X.env.locals/\p.1 ∉ X.fs/\∀ v,p.2.data ≠ .cell v):Inv X pins' σ H s:=
 ⟨I.ok,I.os,I.bare,I.base,I.loc,I.cell,I.free,I.freeC,fun p hp=>(Aa.mp hp).elim (fun z=>I.pin p (A1 _ z)) (h p),I.hok,I.len⟩
theorem JQ {N:List Str} (hN:N.Nodup) {i j:Nat} {x:Str} (a:N[i]? = some x) (b:N[j]? = some x):i=j:=by
 obtain⟨h1,e1⟩:=AE.mp a
 obtain⟨h2,e2⟩:=AE.mp b
 exact (List.getElem_inj hN).mp (e1.trans e2.symm)
theorem wx {M:Model} {A:Around} {E:Value->Shared->Prop} {i:Nat} {x:Str} {v:V} {u:Value} {Q:Unit->Shared->Prop} (I:Inv X pins σ H s) (hN:X.N.Nodup) (hi:X.N[i]? = some x) (hx:Loc X.env.scope x) (r:RelV v u)
  (h:∀ s',Inv X pins (σ.set i (some v)) H s'->(∃ a,Heap.SameBut a s.heap s'.heap/\(a=X.env.locals\/X.env.cells.lookup x=some a))->Q () s') (hf:X.fn x=true\/X.env.scope.names.lookup x=some .local:=by first | exact .inl rfl | exact .inr rfl | assumption):wpAny M A (storeName X.env x u) Q E s:=by
 obtain⟨m,hn,hl⟩:=id I.loc
 have hcls:(X.env.scope.kind == .class || (X.env.scope.kind == .module && X.env.locals != X.env.globals))=false:=by rw[I.ok.kind];rfl
 have hiσ:i < σ.length:=by rw[I.len];exact (AE.mp hi).1
 have cne:=I.cne
 have tracked:∀ {a:Addr} {h':Heap},(∃ o,s.heap.get? a=some o/\H a=none)->Heap.SameBut a s.heap h'->HOk X.prog X.w H h':=fun {a h'} ha hs b ob e=>by
  obtain⟨_,_,hfree⟩:=ha
  refine (I.hok b ob e).stay (fun c w' hc q=>(hs.2 c ?_).trans q) (fun _ q=>q) fun _ _ q=>q
  rintro rfl
  rcases hc with rfl | hc
  ·rw[hfree] at e;cases e
  ·rw[hfree] at hc;cases hc
 rcases hx with hk | hk
 ·refine wpAny_storeName_local hk hn (fun h' hn' hs=>?_) hcls
  obtain⟨oL,_,_,hoL,_⟩:=id hn
  refine h _ ⟨I.ok,I.os,I.bare,⟨fun b o e n hb hx=>?_,fun b o e n hb hx=>?_,I.base.free,fun b o e hx=>?_,I.base.tups,I.base.frzs,I.base.tbls⟩,⟨_,hn',fun j y v' e1 e2 e3=>?_⟩,fun y c e=>?_,I.free,I.freeC,fun p hp=>?_,tracked ⟨oL,hoL,I.free⟩ hs,by simpa using I.len⟩ ⟨_,hs,.inl rfl⟩
  ·exact (hs.2 b (AN (AX (AJ e) I.ok.above))).trans (I.base.keep b o e n hb hx)
  ·obtain⟨sl,e1⟩:=I.base.slot b o e n hb hx
   exact⟨sl,(hs.2 b (AN (AX (AJ e) I.ok.above))).trans e1⟩
  ·obtain⟨o',e1⟩:=I.base.there b o e hx
   exact⟨o',(hs.2 b (AN (AX (AJ e) I.ok.above))).trans e1⟩
  ·by_cases hj:j=i
   ·subst hj
    rw[hi] at e1;cases e1
    rw[DE hiσ] at e2
    cases e2
    exact⟨u,r,.inl ⟨hk,by simp⟩⟩
   ·rw[DS (Am hj)] at e2
    obtain⟨u',r',q⟩:=hl j y v' e1 e2 e3
    refine⟨u',r',?_⟩
    rcases q with ⟨k,e⟩ | ⟨k,c,e,z⟩
    ·refine .inl ⟨k,?_⟩
     have:y ≠ x:=fun e=>hj (JQ hN e1 (e ▸ hi))
     simp[this,e]
    ·exact .inr ⟨k,c,e,z.sameBut hs (cne y c e)⟩
  ·obtain⟨w',z⟩:=I.cell y c e
   exact⟨w',z.sameBut hs (cne y c e)⟩
  ·obtain⟨e,n,ne,nf,d⟩:=I.pin p hp
   exact⟨(hs.2 p.1 ne).trans e,n,ne,nf,d⟩
 ·have hfn:X.fn x=true:=by
   rcases hf with z | z
   ·exact z
   ·rw[z] at hk;cases hk
  obtain⟨c,hc⟩:=I.ok.has x (.inl hk)
  obtain⟨w',z⟩:=I.cell x c hc
  refine wpAny_storeName_cell I.ok.kind hk hc z (fun h' hc' hs=>?_)
  obtain⟨oc,hoc,hocd⟩:=id z
  refine h { s with heap:=h' } ⟨I.ok,I.os,I.bare,⟨fun b o e n hb hx=>?_,fun b o e n hb hx=>?_,I.base.free,fun b o e hx=>?_,I.base.tups,I.base.frzs,I.base.tbls⟩,⟨m,hn.sameBut hs (Am (cne x c hc)),fun j y v' e1 e2 e3=>?_⟩,fun y c' e=>?_,I.free,I.freeC,fun p hp=>?_,tracked ⟨oc,hoc,I.freeC x c hc⟩ hs,by simpa using I.len⟩ ⟨c,hs,.inr hc⟩
  ·exact (hs.2 b (AN (AX (AJ e) (I.ok.cab x c hfn hc)))).trans (I.base.keep b o e n hb hx)
  ·obtain⟨sl,e1⟩:=I.base.slot b o e n hb hx
   exact⟨sl,(hs.2 b (AN (AX (AJ e) (I.ok.cab x c hfn hc)))).trans e1⟩
  ·obtain⟨o',e1⟩:=I.base.there b o e hx
   exact⟨o',(hs.2 b (AN (AX (AJ e) (I.ok.cab x c hfn hc)))).trans e1⟩
  ·by_cases hj:j=i
   ·subst hj
    rw[hi] at e1;cases e1
    rw[DE hiσ] at e2
    cases e2
    exact⟨u,r,.inr ⟨.inl hk,c,hc,hc'⟩⟩
   ·rw[DS (Am hj)] at e2
    obtain⟨u',r',q⟩:=hl j y v' e1 e2 e3
    refine⟨u',r',?_⟩
    rcases q with q | ⟨k,c',e,z'⟩
    ·exact .inl q
    ·refine .inr ⟨k,c',e,z'.sameBut hs ?_⟩
     rintro rfl
     exact hj (JQ hN e1 (I.ok.inj _ _ _ e hc ▸ hi))
  ·by_cases hcc:c'=c
   ·subst hcc;exact⟨_,hc'⟩
   ·obtain⟨w2,z2⟩:=I.cell y c' e
    exact⟨w2,z2.sameBut hs hcc⟩
  ·obtain⟨e,n,ne,nf,d⟩:=I.pin p hp
   refine⟨(hs.2 p.1 ?_).trans e,n,ne,nf,d⟩
   intro q
   rw[q,hoc] at e
   have q':oc=p.2:=AL e
   exact d w' (by rw[<- q'];exact hocd)
theorem JR {M:Model} {A:Around} {E:Value->Shared->Prop} {i:Nat} {x:Str} {v:V} {u:Value} {Q:Unit->Shared->Prop} (I:Inv X pins σ H s) (hN:X.N.Nodup) (hi:X.N[i]? = some x) (hx:Loc X.env.scope x) (r:RelV v u)
  (h:∀ s',Inv X pins (σ.set i (some v)) H s'->Q () s') (hf:X.fn x=true\/X.env.scope.names.lookup x=some .local:=by first | exact .inl rfl | exact .inr rfl | assumption):wpAny M A (storeName X.env x u) Q E s:=
 wx I hN hi hx r (fun s' I' _=>h s' I') hf
theorem Inv.call' {s':Shared} {ch:List Addr} (I:Inv X pins σ H s) (ho:s'.os=s.os) (u:Un (frs X.stack) ch H H' s.heap s'.heap) (hok:HOk X.prog X.w H' s'.heap) (hg:AllBare s'.gens)
  (hch:∀ b ∈ ch,(b ∈ X.ex\/X.s₀.heap.objs.size<=b)/\b ≠ X.env.locals/\(∀ x c,X.env.cells.lookup x=some c->c ≠ b)/\∀ p ∈ X.pn++pins,p.1 ≠ b):Inv X pins σ H' s':=by
 obtain⟨h',g',d',t',o'⟩:=s'
 have e:o'=s.os:=ho
 subst e
 exact I.call (g':=g') (t':=t') (d':=d') u hok hg hch
end
abbrev XK:=Value->Option Addr->Hp->Prop
abbrev St:=List (Option V)
abbrev VK:=V->Hp->Prop
abbrev TE:=St->Hp->VK->Prop
abbrev TT:=St->Hp->(Bool->Hp->Prop)->Prop
abbrev TA:=St->Hp->(List V->Hp->Prop)->Prop
structure WJ where
 nx:St->Hp->Prop
 rt:VK
 bk:St->Hp->Prop:=fun _ _=>False
 ct:St->Hp->Prop:=fun _ _=>False
abbrev TS:=WJ->St->Hp->Prop
def EP (X:Cx) (pins:List (Addr×Obj)) (σ:St) (Q:VK) (u:Value) (s':Shared):Prop:=∃ v H',Inv X pins σ H' s'/\RelV v u/\Q v H'
def TP (X:Cx) (pins:List (Addr×Obj)) (σ:St) (Q:Bool->Hp->Prop) (b:Bool) (s':Shared):Prop:=∃ H',Inv X pins σ H' s'/\Q b H'
def AP (X:Cx) (pins:List (Addr×Obj)) (σ:St) (Q:List V->Hp->Prop) (us:List Value) (s':Shared):Prop:=∃ vs H',Inv X pins σ H' s'/\zX vs us/\Q vs H'
def SP (X:Cx) (pins:List (Addr×Obj)) (D:WJ) (f:Flow) (s':Shared):Prop:=
 match f with
 | .next=>∃ σ' H',Inv X pins σ' H' s'/\D.nx σ' H'
 | .brk=>∃ σ' H',Inv X pins σ' H' s'/\D.bk σ' H'
 | .cont=>∃ σ' H',Inv X pins σ' H' s'/\D.ct σ' H'
 | .ret u=>∃ v σ' H',Inv X pins σ' H' s'/\RelV v u/\D.rt v H'
def PE (X:Cx) (e:Expr) (t:TE):Prop:=
 ∀ (pins:List (Addr×Obj)) (s:Shared) (σ:St) (H:Hp) (Q:VK),Inv X pins σ H s->t σ H Q->wpAny (model X.prog X.w) X.A (eval e X.env) (EP X pins σ Q) X.xe s
def PT (X:Cx) (e:Expr) (t:TT):Prop:=
 ∀ (pins:List (Addr×Obj)) (s:Shared) (σ:St) (H:Hp) (Q:Bool->Hp->Prop),Inv X pins σ H s->t σ H Q->wpAny (model X.prog X.w) X.A (isTrue e X.env (eval e X.env)) (TP X pins σ Q) X.xe s
def PW (X:Cx) (e:Expr) (t:TT):Prop:=
 ∀ (whole:Sem Value) (pins:List (Addr×Obj)) (s:Shared) (σ:St) (H:Hp) (Q:Bool->Hp->Prop),Inv X pins σ H s->t σ H Q->wpAny (model X.prog X.w) X.A (isTrue e X.env whole) (TP X pins σ Q) X.xe s
theorem PW.pt {X:Cx} {e:Expr} {t:TT} (h:PW X e t):PT X e t:=h _
def PA (X:Cx) (es:List Expr) (t:TA):Prop:=
 ∀ (pos:Pos) (pins:List (Addr×Obj)) (s:Shared) (σ:St) (H:Hp) (Q:List V->Hp->Prop),Inv X pins σ H s->t σ H Q->wpAny (model X.prog X.w) X.A (spliced (backTo pos (starEach es X.env))) (AP X pins σ Q) X.xe s
def PS (X:Cx) (st:Stmt) (t:TS):Prop:=
 ∀ (pins:List (Addr×Obj)) (s:Shared) (σ:St) (H:Hp) (D:WJ),Inv X pins σ H s->t D σ H->wpAny (model X.prog X.w) X.A (exec st X.env) (SP X pins D) X.xe s
def PSs (X:Cx) (st:List Stmt) (t:TS):Prop:=
 ∀ (pins:List (Addr×Obj)) (s:Shared) (σ:St) (H:Hp) (D:WJ),Inv X pins σ H s->t D σ H->wpAny (model X.prog X.w) X.A (execs st X.env) (SP X pins D) X.xe s
theorem thn {α:Type} {t:Sem α} {Q Q':α->Shared->Prop} {M:Model} {A:Around} {E:Value->Shared->Prop} {s:Shared} (h:wpAny M A t Q E s) (hQ:∀ a s,Q a s->Q' a s):wpAny M A t Q' E s:=Bv h hQ fun _ _ x=>x
section
variable {X : Cx}
def YT (i:Nat):TE:=fun σ H Q=>∃ v,σ[i]? = some (some v)/\Q v H
def tC (v:V):TE:=fun _ H Q=>Q v H
theorem pe_var {i:Nat} {x:Str} {pos:Pos} (hN:X.N[i]? = some x) (hv:Vis X.env.scope x) (hd:(x == ("__debug__" : Str))=false:=by decide) (hcd:(x == ("__classdict__" : Str))=false:=by decide):PE X (.Name x pos) (YT i):=by
 intro pins s σ H Q I h
 obtain⟨v,e,h⟩:=h
 obtain⟨m,hn,hl⟩:=I.loc
 obtain⟨u,r,l⟩:=hl i x v hN e hv
 have fin:EP X pins σ Q u s:=⟨v,H,I,r,h⟩
 rcases l with ⟨hk,hm⟩ | ⟨hk,c,hc,hcell⟩
 ·exact wpAny_Name (wpAny_loadName_local I.ok.kind hk hn hm fin) hd
 ·rcases hk with hk | hk
  ·exact wpAny_Name (wpAny_loadName_cell I.ok.kind hk hc hcell fin) hd
  ·exact wpAny_Name (wpAny_loadName_free I.ok.kind hk hc hcell fin hcd) hd
theorem zf {i j pos}:PE X (.Constant (.int i) j pos) (tC (.int i)):=fun _ _ _ H _ I h=>wpAny_Constant_int ⟨.int i,H,I.tok _,⟨_,rfl⟩,h⟩
theorem YU {b j pos}:PE X (.Constant (.bool b) j pos) (tC (.bl b)):=fun _ _ _ H _ I h=>Constant_bool ⟨.bl b,H,I,rfl,h⟩
theorem yp {j pos}:PE X (.Constant .none j pos) (tC .non):=fun _ _ _ H _ I h=>Constant_none ⟨.non,H,I,rfl,h⟩
theorem ql {x j pos}:PE X (.Constant (.str x) j pos) (tC (.str x)):=fun _ _ _ H _ I h=>Calls.Constant_str ⟨.str x,H,I.tok _,⟨_,rfl⟩,h⟩
def Gl (X:Cx) (x:Str):Prop:=X.env.kindOf x=some .globalImplicit
theorem Z6 {E:Value->Shared->Prop} {pins:List (Addr×Obj)} {s:Shared} {σ:St} {H:Hp} {x:Str} {u:Value} {pos:Pos} {Q:Value->Shared->Prop} (I:Inv X pins σ H s) (hg:Gl X x) (hm:X.mg x=some u) (h:Q u s)
  (hd:(x == ("__debug__" : Str))=false:=by decide):wpAny (model X.prog X.w) X.A (eval (.Name x pos) X.env) Q E s:=
 Calls.Name_function_global I.ok.kind hg (Calls.loadGlobal_global (by rw[I.ok.glob];exact I.mod.glob.keeps I.bk) hm h) hd
theorem ZI {E:Value->Shared->Prop} {pins:List (Addr×Obj)} {s:Shared} {σ:St} {H:Hp} {x:Str} {u:Value} {pos:Pos} {Q:Value->Shared->Prop} (I:Inv X pins σ H s) (hg:Gl X x) (hm:X.mg x=none) (hv:bootBuiltins x=some u) (h:Q u s)
  (hn:x ≠ "__name__":=by decide) (hd:(x == ("__debug__" : Str))=false:=by decide):wpAny (model X.prog X.w) X.A (eval (.Name x pos) X.env) Q E s:=by
 obtain⟨mb,h1,h2⟩:=I.mod.blt
 exact Calls.Name_function_global I.ok.kind hg (Calls.loadGlobal_builtin (by rw[I.ok.glob];exact I.mod.glob.keeps I.bk) hm (by rw[I.ok.blt];exact h1.keeps I.bk) ((h2 x hn).trans hv) h) hd
theorem jp {x:Str} {v:V} {u:Value} {pos:Pos} (hg:Gl X x) (hm:X.mg x=some u) (r:RelV v u) (hd:(x == ("__debug__" : Str))=false:=by decide):PE X (.Name x pos) (tC v):=
 fun _ _ _ H _ I h=>Z6 I hg hm ⟨v,H,I,r,h⟩ hd
theorem WK {x:Str} {v:V} {u:Value} {pos:Pos} (hg:Gl X x) (hm:X.mg x=none) (hv:bootBuiltins x=some u) (r:RelV v u) (hn:x ≠ "__name__":=by decide) (hd:(x == ("__debug__" : Str))=false:=by decide):PE X (.Name x pos) (tC v):=
 fun _ _ _ H _ I h=>ZI I hg hm hv ⟨v,H,I,r,h⟩ hn hd
variable {a b : Expr} {ta tb : TE} {pos : Pos}
def tB (t:TE):TT:=fun σ H Q=>t σ H fun x H1=>∃ c,x=.bl c/\Q c H1
theorem jW {e:Expr} {t:TE} (h:PE X e t) (he:∀ whole,isTrue e X.env whole=(do let v <- whole;standAt e.pos;holding [v] (truthy v)):=by intro _;rfl):PT X e (tB t):=by
 intro pins s σ H Q I hw
 refine isTrue_plain (thn (h pins s σ H _ I hw) fun v s1 ⟨x,H1,I1,r1,q1⟩=>?_) (he _)
 obtain⟨d,rfl,q⟩:=q1
 cases r1
 exact CG ⟨H1,I1,q⟩
variable {tA tB' : TT} {rest : List Expr}
def tAnd (t u:TT):TT:=fun σ H Q=>t σ H fun c H1=>if c=true then u σ H1 Q else Q false H1
def tOr (t u:TT):TT:=fun σ H Q=>t σ H fun c H1=>if c=true then Q true H1 else u σ H1 Q
def tNot (t:TT):TT:=fun σ H Q=>t σ H fun c H1=>Q (!c) H1
theorem jD (ha:PT X a tA):PW X (.BoolOp .And [a] pos) tA:=by
 intro wh pins s σ H Q I h
 refine isTrue_and (thn (ha pins s σ H Q I h) fun c s1 e=>?_)
 cases c with
 | true=>exact isTrue_and_nil e
 | false=>exact e
theorem pw_or1 (ha:PT X a tA):PW X (.BoolOp .Or [a] pos) tA:=by
 intro wh pins s σ H Q I h
 refine isTrue_or (thn (ha pins s σ H Q I h) fun c s1 e=>?_)
 cases c with
 | false=>exact isTrue_or_nil e
 | true=>exact e
theorem Zl (ha:PT X a tA) (hb:PW X (.BoolOp .And (b :: rest) pos) tB'):PW X (.BoolOp .And (a :: b :: rest) pos) (tAnd tA tB'):=by
 intro wh pins s σ H Q I h
 refine isTrue_and (thn (ha pins s σ H _ I h) fun c s1 ⟨H1,I1,q1⟩=>?_)
 cases c with
 | true=>exact hb wh pins s1 σ H1 Q I1 q1
 | false=>exact⟨H1,I1,q1⟩
theorem pw_or (ha:PT X a tA) (hb:PW X (.BoolOp .Or (b :: rest) pos) tB'):PW X (.BoolOp .Or (a :: b :: rest) pos) (tOr tA tB'):=by
 intro wh pins s σ H Q I h
 refine isTrue_or (thn (ha pins s σ H _ I h) fun c s1 ⟨H1,I1,q1⟩=>?_)
 cases c with
 | true=>exact⟨H1,I1,q1⟩
 | false=>exact hb wh pins s1 σ H1 Q I1 q1
theorem QG (ha:PT X a tA):PT X (.UnaryOp .Not a pos) (tNot tA):=by
 intro pins s σ H Q I h
 exact isTrue_not (ha pins s σ H (fun c H1=>Q (!c) H1) I h)
def tAndV (ta tb:TE):TE:=fun σ H Q=>ta σ H fun x H1=>∃ c,x=.bl c/\if c=true then tb σ H1 Q else Q (.bl false) H1
theorem YV {op} {t:TE} (h:PE X a t):PE X (.BoolOp op [a] pos) t:=fun pins s σ H Q I hw=>BoolOp_one (h pins s σ H Q I hw)
theorem wz (ha:PE X a ta) (hb:PE X (.BoolOp .And (b :: rest) pos) tb):PE X (.BoolOp .And (a :: b :: rest) pos) (tAndV ta tb):=by
 intro pins s σ H Q I h
 refine BoolOp_and (thn (ha pins s σ H _ I h) fun v s1 ⟨x,H1,I1,r1,q1⟩=>?_)
 obtain⟨c,rfl,q1⟩:=q1
 cases r1
 refine CG ?_
 cases c with
 | true=>exact hb pins s1 σ H1 Q I1 q1
 | false=>exact⟨.bl false,H1,I1,rfl,q1⟩
def tIf (t:TT) (ta tb:TE):TE:=fun σ H Q=>t σ H fun c H1=>if c=true then ta σ H1 Q else tb σ H1 Q
theorem yq {c:Expr} (hc:PT X c tA) (ha:PE X a ta) (hb:PE X b tb):PE X (.IfExp c a b pos) (tIf tA ta tb):=by
 intro pins s σ H Q I h
 refine wpAny_IfExp (thn (hc pins s σ H _ I h) fun d s1 ⟨H1,I1,q1⟩=>?_)
 cases d with
 | true=>exact ha pins s1 σ H1 Q I1 q1
 | false=>exact hb pins s1 σ H1 Q I1 q1
end
def SqL (K:PySem.W.Frag) (H:Hp) (a:Addr) (xs:List V):Prop:=
 Rd H a (.lst xs) \/
  ∃ (o:Obj) (its:Array Value) (n:Nat),K.lookup a=some o/\o.cls=.type "list" /\ o.dict=none/\o.data=.seq its n/\its.size<=sizeLine/\zX xs its.toList
def SqT (K:PySem.W.Frag) (H:Hp) (a:Addr) (xs:List V):Prop:=
 Rd H a (.tup xs) \/
  ∃ (o:Obj) (its:Array Value) (n:Nat),K.lookup a=some o/\o.cls=.type "tuple" /\ o.data=.seq its n/\its.size<=sizeLine/\zX xs its.toList
def absV:Value->Option V
 | .none=>some .non
 | .bool b=>some (.bl b)
 | .int i _=>some (.int i)
 | .str x _=>some (.str x)
 | .bytes b _=>some (.byt b)
 | .float b _=>some (.flt b)
 | .ref a=>some (.ref a)
 | .type n=>some (.ty n)
 | _=>none
theorem RelV.abs {x:V} {u:Value} (r:RelV x u):absV u=some x:=by
 cases x with
 | non=>cases r;rfl
 | bl _=>cases r;rfl
 | int _=>obtain⟨t,rfl⟩:=r;rfl
 | str _=>obtain⟨t,rfl⟩:=r;rfl
 | byt _=>obtain⟨t,rfl⟩:=r;rfl
 | flt _=>obtain⟨t,rfl⟩:=r;rfl
 | ref _=>cases r;rfl
 | ty _=>cases r;rfl
theorem RelV.inj {x y:V} {u:Value} (r:RelV x u) (q:RelV y u):x=y:=AL (r.abs.symm.trans q.abs)
theorem zX.inj:∀ {xs ys:List V} {us:List Value},zX xs us->zX ys us->xs=ys
 | _,_,_,.nil,.nil=>rfl
 | _,_,_,.cons r t,.cons r' t'=>by rw[r.inj r',zX.inj t t']
section
variable {X : Cx} {pins : List (Addr × Obj)} {σ : St} {H : Hp} {s : Shared} {a : Addr} {xs ys : List V}
theorem SqL.of {K:PySem.W.Frag} (h:H a=some (.lst xs)):SqL K H a xs:=.inl (.inl h)
theorem SqT.of {K:PySem.W.Frag} (h:H a=some (.tup xs)):SqT K H a xs:=.inl (.inl h)
theorem Inv.list (I:Inv X pins σ H s) (h:SqL X.K H a xs):∃ its:List Value,zX xs its/\PlainL s.heap a its.toArray/\xs.length<=sizeLine:=by
 rcases h with h | ⟨o,its,n,hk,hc,hd,hs,hz,r⟩
 ·obtain⟨z,its,n,r,e⟩:=h.ok I.hok
  exact⟨its,r,⟨_,n,e,rfl,rfl,rfl⟩,z⟩
 ·refine⟨its.toList,r,⟨o,n,I.kIn a o hk,hc,hd,by simpa using hs⟩,?_⟩
  have e:=r.length
  simp only[Array.length_toList] at e
  omega
theorem Inv.tuple (I:Inv X pins σ H s) (h:SqT X.K H a xs):∃ its:List Value,zX xs its/\IsTup s.heap a its.toArray/\xs.length<=sizeLine:=by
 rcases h with h | ⟨o,its,n,hk,hc,hs,hz,r⟩
 ·obtain⟨z,its,r,p⟩:=h.ok I.hok
  exact⟨its,r,p.isTup,z⟩
 ·refine⟨its.toList,r,⟨o,I.kIn a o hk,hc,n,by simpa using hs⟩,?_⟩
  have e:=r.length
  simp only[Array.length_toList] at e
  omega
theorem Inv.list_inj (I:Inv X pins σ H s) (h:SqL X.K H a xs) (h':SqL X.K H a ys):xs=ys:=by
 obtain⟨its,r,⟨o,n,e,_,_,d⟩,_⟩:=I.list h
 obtain⟨its',r',⟨o',n',e',_,_,d'⟩,_⟩:=I.list h'
 rw[e] at e';cases e'
 rw[d] at d'
 injection d' with d1 _
 have:its=its':=by simpa using Be Array.toList d1
 subst this
 exact r.inj r'
theorem Inv.tuple_inj (I:Inv X pins σ H s) (h:SqT X.K H a xs) (h':SqT X.K H a ys):xs=ys:=by
 obtain⟨its,r,⟨o,e,_,n,d⟩,_⟩:=I.tuple h
 obtain⟨its',r',⟨o',e',_,n',d'⟩,_⟩:=I.tuple h'
 rw[e] at e';cases e'
 rw[d] at d'
 injection d' with d1 _
 have:its=its':=by simpa using Be Array.toList d1
 subst this
 exact r.inj r'
end
abbrev Cx.wish (X:Cx) (E:Value->Shared->Prop):Cx:={ X with xe:=E }
abbrev Cx.nox (X:Cx):Cx:=X.wish fun _ _=>False
theorem Cx.Ok.wish {X:Cx} (ok:X.Ok) (E:Value->Shared->Prop):(X.wish E).Ok:=
 ⟨ok.mod,ok.kind,ok.glob,ok.blt,ok.above,ok.inj,ok.has,ok.cab,ok.hd,ok.frames,ok.stk,ok.exf,ok.bs,ok.bsz,ok.noex,ok.exfs,ok.funs,ok.frf⟩
theorem Cx.Ok.unwish {X:Cx} {E:Value->Shared->Prop} (ok:(X.wish E).Ok):X.Ok:=
 ⟨ok.mod,ok.kind,ok.glob,ok.blt,ok.above,ok.inj,ok.has,ok.cab,ok.hd,ok.frames,ok.stk,ok.exf,ok.bs,ok.bsz,ok.noex,ok.exfs,ok.funs,ok.frf⟩
section
variable {X : Cx} {pins : List (Addr × Obj)} {σ : St} {H : Hp} {s : Shared} {E : Value -> Shared -> Prop}
theorem Inv.wish (I:Inv X pins σ H s) (E:Value->Shared->Prop):Inv (X.wish E) pins σ H s:=⟨I.ok.wish E,I.os,I.bare,I.base,I.loc,I.cell,I.free,I.freeC,I.pin,I.hok,I.len⟩
theorem Inv.unwish (I:Inv (X.wish E) pins σ H s):Inv X pins σ H s:=⟨I.ok.unwish,I.os,I.bare,I.base,I.loc,I.cell,I.free,I.freeC,I.pin,I.hok,I.len⟩
theorem SP.unwish {D:WJ} {f:Flow} {s':Shared} (h:SP (X.wish E) pins D f s'):SP X pins D f s':=by
 cases f with
 | next=>obtain⟨σ',H',I,q⟩:=h;exact⟨σ',H',I.unwish,q⟩
 | brk=>obtain⟨σ',H',I,q⟩:=h;exact⟨σ',H',I.unwish,q⟩
 | cont=>obtain⟨σ',H',I,q⟩:=h;exact⟨σ',H',I.unwish,q⟩
 | ret u=>obtain⟨v,σ',H',I,r,q⟩:=h;exact⟨v,σ',H',I.unwish,r,q⟩
theorem PSs.nox {st:List Stmt} {t:TS} (h:PSs X.nox st t):PSs X st t:=fun pins s σ H D I hw=>
 Bv (h pins s σ H D (I.wish _) hw) (fun _ _ q=>q.unwish) fun _ _ z=>False.elim z
end
section
variable {X : Cx} {st : Stmt} {rest : List Stmt} {t u : TS} {e : Expr} {te : TE} {pos : Pos}
def tNext:TS:=fun D σ H=>D.nx σ H
def tSeq (t u:TS):TS:=fun D σ H=>t { D with nx:=u D } σ H
theorem zM:PSs X [] tNext:=fun _ _ σ H _ I h=>CT ⟨σ,H,I,h⟩
theorem ze (h1:PS X st t) (h2:PSs X rest u):PSs X (st :: rest) (tSeq t u):=by
 intro pins s σ H D I h
 refine wpAny_execs_cons (thn (h1 pins s σ H { D with nx:=u D } I h) fun f s1 q=>?_)
 cases f with
 | next=>
  obtain⟨σ',H',I',q⟩:=q
  exact h2 pins s1 σ' H' D I' q
 | ret v=>exact q
 | brk=>exact q
 | cont=>exact q
theorem zi (h1:PS X st t):PSs X [st] t:=by
 intro pins s σ H D I h
 refine wpAny_execs_cons (thn (h1 pins s σ H D I h) fun f s1 q=>?_)
 cases f with
 | next=>exact CT q
 | ret v=>exact q
 | brk=>exact q
 | cont=>exact q
theorem Inv.quiet {pins:List (Addr×Obj)} {σ:St} {H:Hp} {s:Shared} (I:Inv X pins σ H s):interactive X.env=false:=by simp[interactive,I.ok.kind]
def tDrop (te:TE):TS:=fun D σ H=>te σ H fun _ H1=>D.nx σ H1
theorem qY (he:PE X e te) (hs:swapsWith e none pos.line X.env=pure false:=by rfl):PS X (.Expr e pos) (tDrop te):=by
 intro pins s σ H D I h
 exact wpAny_Expr_any (thn (he pins s σ H _ I h) fun v s1 ⟨x,H1,I1,r1,q1⟩=>⟨σ,H1,I1,q1⟩) I.quiet hs
def tRet (te:TE):TS:=fun D σ H=>te σ H D.rt
theorem zA (he:PE X e te):PS X (.Return (some e) pos) (tRet te):=by
 intro pins s σ H D I h
 exact wpAny_Return_some (thn (he pins s σ H _ I h) fun v s1 ⟨x,H1,I1,r1,q1⟩=>⟨x,σ,H1,I1,r1,q1⟩)
def tIfS (c:TT) (t u:TS):TS:=fun D σ H=>c σ H fun b H1=>if b=true then t D σ H1 else u D σ H1
theorem qZ {c:Expr} {a b:List Stmt} {tc:TT} (hc:PT X c tc) (ha:PSs X a t) (hb:PSs X b u):PS X (.If c a b pos) (tIfS tc t u):=by
 intro pins s σ H D I h
 refine wpAny_If (thn (hc pins s σ H _ I h) fun d s1 ⟨H1,I1,q1⟩=>?_)
 cases d with
 | true=>exact ha pins s1 σ H1 D I1 q1
 | false=>exact hb pins s1 σ H1 D I1 q1
def tNever:TS:=fun _ _ _=>False
theorem ps_never:PS X st tNever:=fun _ _ _ _ _ _ h=>h.elim
end
abbrev TG:=V->St->Hp->(St->Hp->Prop)->Prop
abbrev TGs:=List V->St->Hp->(St->Hp->Prop)->Prop
def PG (X:Cx) (target:Expr) (t:TG):Prop:=
 ∀ (pins:List (Addr×Obj)) (s:Shared) (σ:St) (H:Hp) (v:V) (u:Value) (Q:St->Hp->Prop),Inv X pins σ H s->RelV v u->t v σ H Q ->
  wpAny (model X.prog X.w) X.A (assign target X.env u) (fun _ s'=>∃ σ' H',Inv X pins σ' H' s'/\Q σ' H') X.xe s
def PGs (X:Cx) (ts:List Expr) (t:TGs):Prop:=
 ∀ (pins:List (Addr×Obj)) (s:Shared) (σ:St) (H:Hp) (vs:List V) (us:List Value) (Q:St->Hp->Prop),Inv X pins σ H s->zX vs us->t vs σ H Q ->
  wpAny (model X.prog X.w) X.A (assignInOrder ((assignEach ts X.env).map (·.2)) us) (fun _ s'=>∃ σ' H',Inv X pins σ' H' s'/\Q σ' H') X.xe s
abbrev TSet:=V->V->V->Hp->(Hp->Prop)->Prop
def PSet (X:Cx) (t:TSet):Prop:=
 ∀ (pins:List (Addr×Obj)) (s:Shared) (σ:St) (H:Hp) (o i v:V) (ov iv u:Value) (Q:Hp->Prop),Inv X pins σ H s->RelV o ov->RelV i iv->RelV v u->t o i v H Q ->
  wpAny (model X.prog X.w) X.A (setItem ov iv u) (fun _ s'=>∃ H',Inv X pins σ H' s'/\Q H') X.xe s
section
variable {X : Cx} {pos : Pos}
def jU (i:Nat):TG:=fun v σ H Q=>Q (σ.set i (some v)) H
theorem YW {i:Nat} {x:Str} (hN:X.N.Nodup) (hi:X.N[i]? = some x) (hx:Loc X.env.scope x) (hf:X.fn x=true\/X.env.scope.names.lookup x=some .local:=by first | exact .inl rfl | exact .inr rfl | assumption):PG X (.Name x pos) (jU i):=by
 intro pins s σ H v u Q I r h
 exact wpAny_assign_Name (JR I hN hi hx r (fun s' I'=>⟨_,H,I',h⟩) hf)
def gNil:TGs:=fun vs σ H Q=>vs=[]/\Q σ H
def gCons (t:TG) (u:TGs):TGs:=fun vs σ H Q=>∃ v r,vs=v :: r/\t v σ H fun σ' H'=>u r σ' H' Q
theorem Zt:PGs X [] gNil:=by
 intro pins s σ H vs us Q I r h
 obtain⟨e,h⟩:=h
 subst e
 cases r
 exact assignInOrder_nil ⟨σ,H,I,h⟩
theorem zO {e:Expr} {es:List Expr} {t:TG} {u:TGs} (h1:PG X e t) (h2:PGs X es u)
  (hs:(assignEach (e :: es) X.env).map (·.2)=assign e X.env :: (assignEach es X.env).map (·.2):=by rfl):PGs X (e :: es) (gCons t u):=by
 intro pins s σ H vs us Q I r h
 obtain⟨v,vr,e1,h⟩:=h
 subst e1
 cases r with
 | cons r rr=>
  rw[hs]
  refine assignInOrder_cons (thn (h1 pins s σ H _ _ _ I r h) fun _ s1 ⟨σ1,H1,I1,q1⟩=>?_)
  exact h2 pins s1 σ1 H1 _ _ Q I1 rr q1
def gTup (K:PySem.W.Frag) (n:Nat) (t:TGs):TG:=fun v σ H Q=>∃ a xs,v=.ref a/\SqT K H a xs/\xs.length=n/\t xs σ H Q
theorem pg_tup {es:List Expr} {k:Nat} {t:TGs} {n:Nat} (hc:X.calm=true) (h:PGs X es t)
  (hn:(assignEach es X.env).length=n:=by rfl) (hst:(assignEach es X.env).findIdx? (·.1)=none:=by rfl):PG X (.Tuple es k pos) (gTup X.K n t):=by
 intro pins s σ H v u Q I r hw
 obtain⟨a,xs,e1,hq,hl,hw⟩:=hw
 subst e1
 cases r
 obtain⟨its,rv,ht,hz⟩:=I.tuple hq
 refine assign_Tuple_tuple (I.ok.hd hc) ht (by simp[hn,<- hl,rv.length]) hst fun h' hx=>?_
 have I1:Inv X pins σ H { s with heap:=h' }:=I.kept (t':=s.toks) fun b o e=>hx b o (AN (AJ e)) e
 exact h pins _ σ H xs _ Q I1 (by simpa using rv) hw
def gSub (to ti:TE) (t:TSet):TG:=fun v σ H Q=>to σ H fun o H1=>ti σ H1 fun i H2=>t o i v H2 fun H3=>Q σ H3
theorem YX {o i:Expr} {to ti:TE} {t:TSet} (ho:PE X o to) (hi:PE X i ti) (hs:PSet X t)
  (ha:∀ v,assign (.Subscript o i pos) X.env v=(do
   let ov <- holding [v] (eval o X.env)
   let iv <- holding [v,ov] (eval i X.env)
   standAt pos
   holding [v,ov,iv] (setItem ov iv v)
   release [v,ov,iv] []):=by intro _;rfl):PG X (.Subscript o i pos) (gSub to ti t):=by
 intro pins s σ H v u Q I r h
 rw[ha]
 refine AA (Ah (thn (ho pins s σ H _ I h) fun ov s1 ⟨x,H1,I1,r1,q1⟩=>?_))
 refine AA (Ah (thn (hi pins s1 σ H1 _ I1 q1) fun iv s2 ⟨y,H2,I2,r2,q2⟩=>?_))
 refine AA (DL (AA (Ah (thn (hs pins s2 σ H2 x y v ov iv u _ I2 r1 r2 r q2) fun _ s3 ⟨H3,I3,q3⟩=>?_))))
 exact wpAny_release ⟨σ,H3,I3,q3⟩
def tAsg (te:TE) (g:TG):TS:=fun D σ H=>te σ H fun x H1=>g x σ H1 D.nx
theorem Qk {tg e:Expr} {te:TE} {g:TG} (he:PE X e te) (hg:PG X tg g) (hs:swapsWithSole [tg] e pos.line X.env=pure false:=by rfl) (hw:swappedStores [tg] e X.env=pure none:=by rfl)
  (h1:(assignEach [tg] X.env).map (·.2)=[assign tg X.env]:=by rfl):PS X (.Assign [tg] e pos) (tAsg te g):=by
 intro pins s σ H D I h
 refine wpAny_Assign_stores (thn (he pins s σ H _ I h) fun v s1 ⟨x,H1,I1,r1,q1⟩=>?_) hs hw
 rw[h1]
 exact thn (hg pins s1 σ H1 x v _ I1 r1 q1) fun _ s2 q=>q
theorem zt {i:Nat} {x:Str} {e:Expr} {te:TE} {pos':Pos} (hN:X.N.Nodup) (hi:X.N[i]? = some x) (hx:Loc X.env.scope x) (he:PE X e te) (hs:swapsWith e (some (.Name x pos')) pos.line X.env=pure false:=by rfl) (hf:X.fn x=true\/X.env.scope.names.lookup x=some .local:=by first | exact .inl rfl | exact .inr rfl | assumption) :
  PS X (.Assign [.Name x pos'] e pos) (tAsg te (jU i)):=by
 intro pins s σ H D I h
 refine wpAny_Assign_Name (thn (he pins s σ H _ I h) fun v s1 ⟨y,H1,I1,r1,q1⟩=>?_) hs
 exact JR I1 hN hi hx r1 (fun s2 I2=>⟨_,H1,I2,q1⟩) hf
end
section
variable {X : Cx} {pos : Pos}
def tWhile (c:TT) (tb:TS):TS:=fun D σ H=>∃ W:Nat->St->Hp->Prop,(∃ m,W m σ H)/\∀ m σ H,W m σ H ->
 c σ H fun b H1=>if b=true then ∃ N:St->Hp->Prop,(∀ σ' H',N σ' H'->∃ m',m' < m/\W m' σ' H')/\tb { D with nx:=N,ct:=N,bk:=D.nx } σ H1 else D.nx σ H1
theorem ps_while {c:Expr} {body:List Stmt} {tc:TT} {tb:TS} (hp:PassesOwn (model X.prog X.w) X.A X.env X.xe) (hc:PT X c tc) (hb:PSs X body tb):PS X (.While c body [] pos) (tWhile tc tb):=by
 intro pins s σ H D I h
 obtain⟨W,⟨m0,w0⟩,turn⟩:=h
 refine wpAny_While (codeAny_whileLoop (fun n s'=>∃ σ' H',Inv X pins σ' H' s'/\W n σ' H') ?_ m0 ⟨σ,H,I,w0⟩)
 rintro n s1 ⟨σ1,H1,I1,w1⟩
 refine CC hp (thn (hc pins s1 σ1 H1 _ I1 (turn n σ1 H1 w1)) fun b s2 ⟨H2,I2,q2⟩=>?_)
 cases b with
 | true=>
  obtain⟨N,hN,q2⟩:=q2
  rw[if_pos rfl]
  refine CC hp (thn (hb pins s2 σ1 H2 _ I2 q2) fun f s3 q3=>?_)
  cases f with
  | next=>
   obtain⟨σ3,H3,I3,n3⟩:=q3
   obtain⟨m',hm,w3⟩:=hN σ3 H3 n3
   exact⟨m',hm,σ3,H3,I3,w3⟩
  | cont=>
   obtain⟨σ3,H3,I3,n3⟩:=q3
   obtain⟨m',hm,w3⟩:=hN σ3 H3 n3
   exact⟨m',hm,σ3,H3,I3,w3⟩
  | brk=>exact q3
  | ret v=>exact q3
 | false=>
  rw[if_neg AY]
  exact CT ⟨σ1,H2,I2,q2⟩
end
structure It where
 go:Nat->Hp->Prop
 yld:Nat->Hp->V->Hp->Prop
 stop:Nat->Hp->Prop
def YY (X:Cx) (pins:List (Addr×Obj)) (H:Hp) (b:Addr):Prop:=
 H b=none/\b ≠ X.env.locals/\b ∉ X.fs/\(b ∈ X.ex\/X.s₀.heap.objs.size<=b)/\(∀ x c,X.env.cells.lookup x=some c->c ≠ b)/\∀ p ∈ X.pn++pins,p.1 ≠ b
theorem Inv.fpOk {X:Cx} {pins:List (Addr×Obj)} {σ:St} {H H':Hp} {s:Shared} {b:Addr} (I:Inv X pins σ H s) (hb:s.heap.objs.size<=b) (hn:H' b=none):YY X pins H' b:=by
 refine⟨hn,BE (AX I.lt hb),I.nofs hb,.inr (Ag I.sz hb),fun x c e z=>?_,fun p hp z=>?_⟩
 ·obtain⟨v,q⟩:=I.cell x c e
  exact absurd (AX q.lt (by rw[z];exact hb)) (BC _)
 ·exact absurd (AX (AJ (I.pin p hp).1) (by rw[z];exact hb)) (BC _)
structure Turn (P:Program) (w:World) (K:PySem.W.Frag) (tg:Expr) (J:It) (fp:List Addr) (it:Addr) (tn:Nat->Heap->Prop):Prop where
 mem:it ∈ fp
 obj:∀ i h,tn i h->∀ b ∈ fp,∃ o,h.get? b=some o/\∀ v,o.data ≠ .cell v
 keep:∀ i h h',tn i h->(∀ b ∈ fp,∀ o,h.get? b=some o->h'.get? b=some o)->tn i h'
 item:∀ (X:Cx),X.prog=P->X.w=w->X.K=K->X.calm=true->∀ (i:Nat) (pins:List (Addr×Obj)) (s:Shared) (σ:St) (H:Hp) (E:Value->Shared->Prop),Inv X pins σ H s->(∀ b ∈ fp,YY X pins H b)->tn i s.heap->J.go i H ->
  wpAny (model P w) X.A (pyNext (.ref it)) (fun r s1=>∃ u,r=some u /\
   wpAny (model P w) X.A (letOwnedTupleGo tg (.ref it) u) (fun _ s2=>∃ x H',Inv X pins σ H' s2/\RelV x u/\J.yld i H x H'/\tn (i+1) s2.heap/\∀ b ∈ fp,H' b=none) E s1) E s
 done:∀ (X:Cx),X.prog=P->X.w=w->X.K=K->X.calm=true->∀ (i:Nat) (pins:List (Addr×Obj)) (s:Shared) (σ:St) (H:Hp) (E:Value->Shared->Prop),Inv X pins σ H s->(∀ b ∈ fp,YY X pins H b)->tn i s.heap->J.stop i H ->
  wpAny (model P w) X.A (pyNext (.ref it)) (fun r s1=>r=none/\Inv X pins σ H s1) E s
 self:∀ (A:Around) (i:Nat) (s:Shared) (Q:Value->Shared->Prop) (E:Value->Shared->Prop),tn i s.heap->Q (.ref it) s->wpAny (model P w) A (pyIter (.ref it)) Q E s
abbrev TI:=St->Hp->(It->Hp->Prop)->Prop
def PIE (X:Cx) (pins:List (Addr×Obj)) (σ:St) (tg:Expr) (R:It->Hp->Prop) (itv:Value) (s2:Shared):Prop:=
 ∃ (it:Addr) (fp:List Addr) (tn:Nat->Heap->Prop) (J:It) (H':Hp),itv=.ref it/\Inv X pins σ H' s2/\Turn X.prog X.w X.K tg J fp it tn/\tn 0 s2.heap/\(∀ b ∈ fp,YY X pins H' b)/\R J H'
def PI (X:Cx) (tg iter:Expr) (wi:TI):Prop:=
 ∀ (pins:List (Addr×Obj)) (s:Shared) (σ:St) (H:Hp) (R:It->Hp->Prop),Inv X pins σ H s->wi σ H R ->
  wpAny (model X.prog X.w) X.A (eval iter X.env) (fun v s1=>wpAny (model X.prog X.w) X.A (pyIter v) (PIE X pins σ tg R) X.xe s1) X.xe s
theorem go_of {M : Model} {A : Around} {E : Value -> Shared -> Prop} {s : Shared} {tg : Expr} {it : Addr} {u : Value} {o : Obj} {n : String} {vs : Array Value} {Q : Unit -> Shared -> Prop} (ho : s.heap.get? it = some o) (hc : o.cls = .type n) (hd : o.data = .fields vs)
    (hn : ["enumerate", "zip", "dict_itemiterator", "dict_reverseitemiterator", "odict_iterator", "itertools.zip_longest", "itertools.pairwise"].contains n = false) (hQ : Q () s) : wpAny M A (letOwnedTupleGo tg (.ref it) u) Q E s := by
  unfold letOwnedTupleGo
  cases tg <;> first
    | exact AB hQ
    | (cases u <;> first
        | exact AB hQ
        | (refine AA (D0 ho ?_)
           rw [hc, hd]
           show wpAny M A (if (["enumerate", "zip", "dict_itemiterator", "dict_reverseitemiterator", "odict_iterator", "itertools.zip_longest", "itertools.pairwise"].contains n && vs[0]? == some (rawInt _)) = true then _ else _) Q E s
           rw [if_neg (by intro h; rw [hn, Bool.false_and] at h; cases h)]
           exact AB hQ))
def Itl (K:PySem.W.Frag) (a:Addr):It:=
 ⟨fun i H=>∃ xs x,SqL K H a xs/\xs[i]? = some x,fun i H x H'=>H'=H/\∀ xs,SqL K H a xs->xs[i]? = some x,fun i H=>∃ xs,SqL K H a xs/\xs.length<=i⟩
def Itt (K:PySem.W.Frag) (a:Addr):It:=
 ⟨fun i H=>∃ xs x,SqT K H a xs/\xs[i]? = some x,fun i H x H'=>H'=H/\∀ xs,SqT K H a xs->xs[i]? = some x,fun i H=>∃ xs,SqT K H a xs/\xs.length<=i⟩
def Itr (lo:Int) (n:Nat):It:=⟨fun i _=>i < n,fun i H x H'=>H'=H/\x=.int (lo+i),fun i _=>n<=i⟩
theorem YZ {P:Program} {w:World} {K:PySem.W.Frag} {tg:Expr} (a it:Addr):Turn P w K tg (Itl K a) [it] it (fun i h=>h.IsListIter it a i) where
 mem:=by simp
 obj:=fun i h st b hb=>by
  have e:b=it:=by simpa using hb
  subst e
  obtain⟨o,e,c,d⟩:=st
  exact⟨o,e,fun v z=>by rw[d] at z;cases z⟩
 keep:=fun i h h' st k=>st.at fun o e=>k it (by simp) o e
 item:=by
  intro X hP hw hK hc i pins s σ H E I hf st hg
  subst hP hw hK
  obtain⟨xs,x,hq,hx⟩:=hg
  obtain⟨its,rv,p,hz⟩:=I.list hq
  obtain⟨u,hu,ru⟩:=rv.get hx
  obtain⟨f0,f1,f2,f3,f4,f5⟩:=hf it (by simp)
  refine CB st p.isList (x:=u) (by simpa using hu) fun h' st' sb=>?_
  have I1:Inv X pins σ H { s with heap:=h' }:=I.turned (t':=s.toks) (fun b o hb e=>(sb.2 b hb).trans e) f0 f1 f3 f4 f5
  obtain⟨o,e,c,d⟩:=id st'
  exact⟨u,rfl,go_of (s:={ s with heap:=h' }) e c d (by decide) ⟨x,H,I1,ru,⟨rfl,fun ys hy=>by rw[I.list_inj hy hq];exact hx⟩,st',fun b hb=>(hf b hb).1⟩⟩
 done:=by
  intro X hP hw hK hc i pins s σ H E I hf st hg
  subst hP hw hK
  obtain⟨xs,hq,hx⟩:=hg
  obtain⟨its,rv,p,hz⟩:=I.list hq
  obtain⟨f0,f1,f2,f3,f4,f5⟩:=hf it (by simp)
  have hl:=rv.length
  exact CF (I.ok.hd hc) st p.isList (by simp;omega) fun h' eb=>⟨rfl,I.turned (t':=s.toks) (fun b o hb e=>eb b o hb e) f0 f1 f3 f4 f5⟩
 self:=fun _ _ _ _ _ st h=>wpAny_pyIter_listiter st h
theorem yT {P:Program} {w:World} {K:PySem.W.Frag} {tg:Expr} (a it:Addr):Turn P w K tg (Itt K a) [it] it (fun i h=>h.IsTupleIter it a i) where
 mem:=by simp
 obj:=fun i h st b hb=>by
  have e:b=it:=by simpa using hb
  subst e
  obtain⟨o,e,c,d⟩:=st
  exact⟨o,e,fun v z=>by rw[d] at z;cases z⟩
 keep:=fun i h h' st k=>st.at fun o e=>k it (by simp) o e
 item:=by
  intro X hP hw hK hc i pins s σ H E I hf st hg
  subst hP hw hK
  obtain⟨xs,x,hq,hx⟩:=hg
  obtain⟨its,rv,p,hz⟩:=I.tuple hq
  obtain⟨u,hu,ru⟩:=rv.get hx
  obtain⟨f0,f1,f2,f3,f4,f5⟩:=hf it (by simp)
  refine wpAny_pyNext_tuple_item st (show s.heap.IsTuple a its.toArray from p) (x:=u) (by simpa using hu) fun h' st' sb=>?_
  have I1:Inv X pins σ H { s with heap:=h' }:=I.turned (t':=s.toks) (fun b o hb e=>(sb.2 b hb).trans e) f0 f1 f3 f4 f5
  obtain⟨o,e,c,d⟩:=id st'
  exact⟨u,rfl,go_of (s:={ s with heap:=h' }) e c d (by decide) ⟨x,H,I1,ru,⟨rfl,fun ys hy=>by rw[I.tuple_inj hy hq];exact hx⟩,st',fun b hb=>(hf b hb).1⟩⟩
 done:=by
  intro X hP hw hK hc i pins s σ H E I hf st hg
  subst hP hw hK
  obtain⟨xs,hq,hx⟩:=hg
  obtain⟨its,rv,p,hz⟩:=I.tuple hq
  obtain⟨f0,f1,f2,f3,f4,f5⟩:=hf it (by simp)
  have hl:=rv.length
  exact wpAny_pyNext_tuple_end (I.ok.hd hc) st (show s.heap.IsTuple a its.toArray from p) (by simp;omega) fun h' eb=>⟨rfl,I.turned (t':=s.toks) (fun b o hb e=>eb b o hb e) f0 f1 f3 f4 f5⟩
 self:=fun _ _ _ _ _ st h=>wpAny_pyIter_tupleiter st h
theorem yU {P:Program} {w:World} {K:PySem.W.Frag} {tg:Expr} (it:Addr) (lo:Int) (n:Nat):Turn P w K tg (Itr lo n) [it] it (fun i h=>IsRangeIter h it (lo+(i:Nat) * 1) ((n:Int) - (i:Nat)) 1) where
 mem:=by simp
 obj:=fun i h st b hb=>by
  have e:b=it:=by simpa using hb
  subst e
  exact⟨_,st,fun v z=>by
   have z':Data.fields _=Data.cell v:=z
   cases z'⟩
 keep:=fun i h h' st k=>k it (by simp) _ st
 item:=by
  intro X hP hw hK hc i pins s σ H E I hf st hg
  subst hP hw hK
  obtain⟨f0,f1,f2,f3,f4,f5⟩:=hf it (by simp)
  have W:=Walks.range (prog:=X.prog) (w:=X.w) (I.ok.hd hc) it lo 1 n
  refine W.item i s _ _ hg st fun v h' tk hv st' kk=>?_
  obtain⟨t,rfl⟩:=hv
  have I1:Inv X pins σ H { s with heap:=h',toks:=tk }:=I.turned (fun b o hb e=>kk b o (by simpa using hb) e) f0 f1 f3 f4 f5
  refine⟨_,rfl,go_of (s:={ s with heap:=h',toks:=tk }) (n := "range_iterator") st' rfl rfl (by decide) ⟨.int (lo+i),H,I1,⟨t,?_⟩,⟨rfl,rfl⟩,st',fun b hb=>(hf b hb).1⟩⟩
  rw[Int.mul_one]
 done:=by
  intro X hP hw hK hc i pins s σ H E I hf st hg
  subst hP hw hK
  obtain⟨f0,f1,f2,f3,f4,f5⟩:=hf it (by simp)
  exact wpAny_pyNext_range_end (I.ok.hd hc) st (by have:n<=i:=hg;omega) fun h' eb=>⟨rfl,I.turned (t':=s.toks) (fun b o hb e=>eb b o hb e) f0 f1 f3 f4 f5⟩
 self:=fun _ _ _ _ _ st h=>wpAny_pyIter_rangeiter st h
section
variable {X : Cx} {tg : Expr}
def iList (K:PySem.W.Frag) (tl:TE):TI:=fun σ H R=>tl σ H fun x H1=>∃ a,x=.ref a/\(∃ xs,SqL K H1 a xs)/\R (Itl K a) H1
def iTup (K:PySem.W.Frag) (tl:TE):TI:=fun σ H R=>tl σ H fun x H1=>∃ a,x=.ref a/\(∃ xs,SqT K H1 a xs)/\R (Itt K a) H1
theorem pi_list {l:Expr} {tl:TE} (hl:PE X l tl):PI X tg l (iList X.K tl):=by
 intro pins s σ H R I h
 refine thn (hl pins s σ H _ I h) fun v s1 ⟨x,H1,I1,r1,q1⟩=>?_
 obtain⟨a,e,⟨xs,hq⟩,q⟩:=q1
 subst e
 cases r1
 obtain⟨its,rv,p,hz⟩:=I1.list hq
 refine B3 p.isList ?_
 refine⟨s1.heap.objs.size,[s1.heap.objs.size],_,_,H1,rfl,I1.kept (t':=s1.toks) fun b o e=>AD _ e,YZ a _,⟨_,AH _ rfl,rfl,rfl⟩,fun b hb=>?_,q⟩
 have e:b=s1.heap.objs.size:=by simpa using hb
 subst e
 exact I1.fpOk (AG _) (I1.hok.fresh (AG _))
theorem pi_tup {l:Expr} {tl:TE} (hl:PE X l tl):PI X tg l (iTup X.K tl):=by
 intro pins s σ H R I h
 refine thn (hl pins s σ H _ I h) fun v s1 ⟨x,H1,I1,r1,q1⟩=>?_
 obtain⟨a,e,⟨xs,hq⟩,q⟩:=q1
 subst e
 cases r1
 obtain⟨its,rv,p,hz⟩:=I1.tuple hq
 refine wpAny_pyIter_tuple (show s1.heap.IsTuple a its.toArray from p) ?_
 refine⟨s1.heap.objs.size,[s1.heap.objs.size],_,_,H1,rfl,I1.kept (t':=s1.toks) fun b o e=>AD _ e,yT a _,⟨_,AH _ rfl,rfl,rfl⟩,fun b hb=>?_,q⟩
 have e:b=s1.heap.objs.size:=by simpa using hb
 subst e
 exact I1.fpOk (AG _) (I1.hok.fresh (AG _))
theorem range_it {pins:List (Addr×Obj)} {σ:St} {H:Hp} {s:Shared} {R:It->Hp->Prop} {E:Value->Shared->Prop} {lo hi:Int} {t u v:Tok} {tk:Nat} (I:Inv X pins σ H s) (h1:-(2 ^ 62)<=lo) (h2:lo < 2 ^ 62) (h3:-(2 ^ 62)<=hi) (h4:hi < 2 ^ 62)
  (q:R (Itr lo (hi - lo).toNat) H):wpAny (model X.prog X.w) X.A (pyIter (.ref s.heap.objs.size)) (PIE X pins σ tg R) E { s with heap:=s.heap.push { cls:=.type "range",data:=.fields #[.int lo t,.int hi u,.int 1 v] },toks:=tk }:=by
 refine wpAny_pyIter_range (IsRange.new ..) (small_one h1 h2 h3 h4) ?_
 have I1:Inv X pins σ H { s with heap:=s.heap.push { cls:=.type "range",data:=.fields #[.int lo t,.int hi u,.int 1 v] },toks:=tk }:=I.kept fun b o e=>AD _ e
 refine⟨(s.heap.push { cls:=.type "range",data:=.fields #[.int lo t,.int hi u,.int 1 v] }).objs.size,[(s.heap.push { cls:=.type "range",data:=.fields #[.int lo t,.int hi u,.int 1 v] }).objs.size],_,_,H,rfl,
  I1.kept (t':=tk) fun b o e=>AD _ e,yU _ lo (hi - lo).toNat,?_,fun b hb=>?_,q⟩
 ·have e1:lo+((0:Nat):Int) * 1=lo:=by simp
  have e2:(((hi - lo).toNat:Nat):Int) - ((0:Nat):Int)=Builtin.Range.rangeSize lo hi 1:=by rw[rangeSize_one];split <;> omega
  show IsRangeIter _ _ (lo+((0:Nat):Int) * 1) ((((hi - lo).toNat:Nat):Int) - ((0:Nat):Int)) 1
  rw[e1,e2]
  exact AH _ rfl
 ·have e:b=(s.heap.push { cls:=.type "range",data:=.fields #[.int lo t,.int hi u,.int 1 v] }).objs.size:=by simpa using hb
  subst e
  exact I1.fpOk (AG _) (I1.hok.fresh (AG _))
def iRng1 (ta:TA):TI:=fun σ H R=>ta σ H fun vs H1=>∃ j:Int,vs=[.int j] /\ -(2 ^ 62)<=j/\j < 2 ^ 62/\R (Itr 0 j.toNat) H1
theorem qe {a:Expr} {ta:TA} {p pos:Pos} (hg:Gl X "range") (hm:X.mg "range" = none) (ha:PA X [a] ta) (hs:starEach [a] X.env=[(false,eval a X.env)]:=by rfl):PI X tg (.Call (.Name "range" p) [a] [] pos) (iRng1 ta):=by
 intro pins s σ H R I h
 refine Call_ (ZI I hg hm boot_range (BD (thn (ha pos pins s σ H _ I h) fun us s1 ⟨vs,H1,I1,r1,q1⟩=>?_) hs rfl))
 obtain⟨j,e,q1,q2,q⟩:=q1
 subst e
 cases r1 with
 | cons r rr=>
  cases rr
  obtain⟨t,rfl⟩:=r
  exact call_range_1 (range_it I1 (by omega) (by omega) q1 q2 (by simpa using q))
def tFor (wi:TI) (g:TG) (tb:TS):TS:=fun D σ H=>wi σ H fun J H1=>∃ W:Nat->Nat->St->Hp->Prop,(∃ m,W 0 m σ H1)/\∀ i m σ H,W i m σ H ->
 (J.stop i H/\D.nx σ H)\/(J.go i H/\∃ N:St->Hp->Prop,(∀ σ' H',N σ' H'->∃ m',m' < m/\W (i+1) m' σ' H')/\∀ x H',J.yld i H x H'->g x σ H' fun σ2 H2=>tb { D with nx:=N,ct:=N,bk:=D.nx } σ2 H2)
def wA (fp:List Addr) (h:Heap):List (Addr×Obj):=fp.filterMap fun b=>(h.get? b).map fun o=>(b,o)
theorem Zg {fp:List Addr} {h:Heap} {b:Addr} {o:Obj} (hb:b ∈ fp) (e:h.get? b=some o):(b,o) ∈ wA fp h:=Cm.mpr ⟨b,hb,by rw[e];rfl⟩
theorem Y0 {fp:List Addr} {h:Heap} {p:Addr×Obj} (hp:p ∈ wA fp h):p.1 ∈ fp/\h.get? p.1=some p.2:=by
 obtain⟨b,hb,e⟩:=Cm.mp hp
 cases q:h.get? b with
 | none=>rw[q] at e;cases e
 | some o=>
  rw[q] at e
  have e':(b,o)=p:=AL e
  subst e'
  exact⟨hb,q⟩
theorem Inv.pinned {pins:List (Addr×Obj)} {σ:St} {H:Hp} {s:Shared} {fp:List Addr} (I:Inv X pins σ H s) (hf:∀ b ∈ fp,YY X pins H b) (ho:∀ b ∈ fp,∃ o,s.heap.get? b=some o/\∀ v,o.data ≠ .cell v):Inv X (pins++wA fp s.heap) σ H s:=
 I.pins_of fun p hp=>(Aa.mp hp).elim (fun z=>I.pin p (Ai _ z)) fun z=>by
  obtain⟨hb,e⟩:=Y0 z
  obtain⟨f0,f1,f2,_⟩:=hf p.1 hb
  obtain⟨o,e',d⟩:=ho p.1 hb
  rw[e] at e';cases e'
  exact⟨e,f0,f1,f2,d⟩
theorem Inv.unpinned {pins pl:List (Addr×Obj)} {σ:St} {H:Hp} {s:Shared} (I:Inv X (pins++pl) σ H s):Inv X pins σ H s:=I.pins_of fun p hp=>I.pin p (Ai _ (A1 _ hp))
theorem jv {iter:Expr} {body:List Stmt} {wi:TI} {g:TG} {tb:TS} {pos:Pos} (hp:PassesOwn (model X.prog X.w) X.A X.env X.xe) (hc:X.calm=true) (hi:PI X tg iter wi) (hg:PG X tg g) (hb:PSs X body tb)
  (hs:∀ x,foldedSetIterable iter X.env x=pure x:=by intro _;rfl):PS X (.For tg iter body [] pos) (tFor wi g tb):=by
 intro pins s σ H D I h
 refine wpAny_For (thn (hi pins s σ H _ I h) fun v s1 h1=>thn h1 fun itv s2 h2=>?_) hs
 obtain⟨it,fp,tn,J,H2,e,I2,T,st2,f2,W,⟨m0,w0⟩,turn⟩:=h2
 subst e
 -- what stays true of the iterator's objects through the loop
 have stat:∀ {H':Hp},(∀ b ∈ fp,H' b=none)->∀ b ∈ fp,YY X pins H' b:=fun hn b hb=>⟨hn b hb,(f2 b hb).2⟩
 refine codeAny_forLoop_any (fun n s'=>∃ i σ' H',Inv X pins σ' H' s'/\tn i s'.heap/\(∀ b ∈ fp,H' b=none)/\W i n σ' H') ?_ m0 ⟨0,σ,H2,I2,st2,fun b hb=>(f2 b hb).1,w0⟩
 rintro n s3 ⟨i,σ3,H3,I3,st3,fr3,w3⟩
 rcases turn i n σ3 H3 w3 with ⟨stop,qn⟩ | ⟨go,N,hN,step⟩
 ·refine CC hp (thn (T.done X rfl rfl rfl hc i pins s3 σ3 H3 X.xe I3 (stat fr3) st3 stop) fun r s4 ⟨hr,I4⟩=>?_)
  subst hr
  exact CT ⟨σ3,H3,I4,qn⟩
 ·refine CC hp (thn (T.item X rfl rfl rfl hc i pins s3 σ3 H3 X.xe I3 (stat fr3) st3 go) fun r s4 ⟨u,hr,h4⟩=>?_)
  subst hr
  refine CC hp (thn h4 fun _ s5 ⟨x,H5,I5,r5,y5,st5,fr5⟩=>?_)
  have I5':=I5.pinned (stat fr5) (T.obj _ _ st5)
  refine CC hp (thn (hg _ s5 σ3 H5 x u _ I5' r5 (step x H5 y5)) fun _ s6 ⟨σ6,H6,I6,q6⟩=>?_)
  refine CC hp (thn (hb _ s6 σ6 H6 _ I6 q6) fun f s7 q7=>?_)
  have again:∀ {σ7:St} {H7:Hp},Inv X (pins++wA fp s5.heap) σ7 H7 s7->N σ7 H7->∃ m,m < n/\∃ i σ' H',Inv X pins σ' H' s7/\tn i s7.heap/\(∀ b ∈ fp,H' b=none)/\W i m σ' H':=fun {σ7 H7} I7 n7=>by
   obtain⟨m',hm,w7⟩:=hN σ7 H7 n7
   refine⟨m',hm,i+1,σ7,H7,I7.unpinned,T.keep _ _ _ st5 fun b hb o e=>(I7.pin (b,o) (Ai _ (Ai _ (Zg hb e)))).1,fun b hb=>?_,w7⟩
   obtain⟨o,e,d⟩:=T.obj _ _ st5 b hb
   exact (I7.pin (b,o) (Ai _ (Ai _ (Zg hb e)))).2.1
  cases f with
  | next=>obtain⟨σ7,H7,I7,n7⟩:=q7;exact again I7 n7
  | cont=>obtain⟨σ7,H7,I7,n7⟩:=q7;exact again I7 n7
  | brk=>obtain⟨σ7,H7,I7,q7⟩:=q7;exact⟨σ7,H7,I7.unpinned,q7⟩
  | ret v=>obtain⟨x7,σ7,H7,I7,r7,q7⟩:=q7;exact⟨x7,σ7,H7,I7.unpinned,r7,q7⟩
end
theorem jm {K:PySem.W.Frag} {a:Addr} {xs:List V} {g:TG} {tb:TS} {D:WJ} {σ:St} {H:Hp} (Pv:Nat->St->Hp->Prop) (h0:Pv 0 σ H) (hl:∀ i σ H,i<=xs.length->Pv i σ H->SqL K H a xs)
  (hs:∀ i x σ H,xs[i]? = some x->Pv i σ H->g x σ H fun σ2 H2=>tb { D with nx:=Pv (i+1),ct:=Pv (i+1),bk:=D.nx } σ2 H2) (hd:∀ σ H,Pv xs.length σ H->D.nx σ H) :
  ∃ W:Nat->Nat->St->Hp->Prop,(∃ m,W 0 m σ H)/\∀ i m σ H,W i m σ H ->
   ((Itl K a).stop i H/\D.nx σ H)\/((Itl K a).go i H/\∃ N:St->Hp->Prop,(∀ σ' H',N σ' H'->∃ m',m' < m/\W (i+1) m' σ' H')/\∀ x H',(Itl K a).yld i H x H'->g x σ H' fun σ2 H2=>tb { D with nx:=N,ct:=N,bk:=D.nx } σ2 H2):=by
 refine⟨fun i m σ H=>m=xs.length - i/\i<=xs.length/\Pv i σ H,⟨xs.length,by simp,A0 _,h0⟩,?_⟩
 rintro i m σ H ⟨rfl,hi,p⟩
 have q:=hl i σ H hi p
 by_cases hlt:i < xs.length
 ·refine .inr ⟨⟨xs,xs[i],q,by simp[hlt]⟩,Pv (i+1),fun σ' H' p'=>⟨xs.length - (i+1),by omega,rfl,hlt,p'⟩,fun x H' y=>?_⟩
  obtain⟨e,y⟩:=y
  subst e
  exact hs i x σ _ (y xs q) p
 ·have e:i=xs.length:=by omega
  subst e
  exact .inl ⟨⟨xs,q,AG _⟩,hd σ H p⟩
theorem for_tup {K:PySem.W.Frag} {a:Addr} {xs:List V} {g:TG} {tb:TS} {D:WJ} {σ:St} {H:Hp} (Pv:Nat->St->Hp->Prop) (h0:Pv 0 σ H) (hl:∀ i σ H,i<=xs.length->Pv i σ H->SqT K H a xs)
  (hs:∀ i x σ H,xs[i]? = some x->Pv i σ H->g x σ H fun σ2 H2=>tb { D with nx:=Pv (i+1),ct:=Pv (i+1),bk:=D.nx } σ2 H2) (hd:∀ σ H,Pv xs.length σ H->D.nx σ H) :
  ∃ W:Nat->Nat->St->Hp->Prop,(∃ m,W 0 m σ H)/\∀ i m σ H,W i m σ H ->
   ((Itt K a).stop i H/\D.nx σ H)\/((Itt K a).go i H/\∃ N:St->Hp->Prop,(∀ σ' H',N σ' H'->∃ m',m' < m/\W (i+1) m' σ' H')/\∀ x H',(Itt K a).yld i H x H'->g x σ H' fun σ2 H2=>tb { D with nx:=N,ct:=N,bk:=D.nx } σ2 H2):=by
 refine⟨fun i m σ H=>m=xs.length - i/\i<=xs.length/\Pv i σ H,⟨xs.length,by simp,A0 _,h0⟩,?_⟩
 rintro i m σ H ⟨rfl,hi,p⟩
 have q:=hl i σ H hi p
 by_cases hlt:i < xs.length
 ·refine .inr ⟨⟨xs,xs[i],q,by simp[hlt]⟩,Pv (i+1),fun σ' H' p'=>⟨xs.length - (i+1),by omega,rfl,hlt,p'⟩,fun x H' y=>?_⟩
  obtain⟨e,y⟩:=y
  subst e
  exact hs i x σ _ (y xs q) p
 ·have e:i=xs.length:=by omega
  subst e
  exact .inl ⟨⟨xs,q,AG _⟩,hd σ H p⟩
theorem ZJ {lo:Int} {n:Nat} {g:TG} {tb:TS} {D:WJ} {σ:St} {H:Hp} (Pv:Nat->St->Hp->Prop) (h0:Pv 0 σ H)
  (hs:∀ i σ H,i < n->Pv i σ H->g (.int (lo+i)) σ H fun σ2 H2=>tb { D with nx:=Pv (i+1),ct:=Pv (i+1),bk:=D.nx } σ2 H2) (hd:∀ σ H,Pv n σ H->D.nx σ H) :
  ∃ W:Nat->Nat->St->Hp->Prop,(∃ m,W 0 m σ H)/\∀ i m σ H,W i m σ H ->
   ((Itr lo n).stop i H/\D.nx σ H)\/((Itr lo n).go i H/\∃ N:St->Hp->Prop,(∀ σ' H',N σ' H'->∃ m',m' < m/\W (i+1) m' σ' H')/\∀ x H',(Itr lo n).yld i H x H'->g x σ H' fun σ2 H2=>tb { D with nx:=N,ct:=N,bk:=D.nx } σ2 H2):=by
 refine⟨fun i m σ H=>m=n - i/\i<=n/\Pv i σ H,⟨n,by simp,A0 _,h0⟩,?_⟩
 rintro i m σ H ⟨rfl,hi,p⟩
 by_cases hlt:i < n
 ·refine .inr ⟨hlt,Pv (i+1),fun σ' H' p'=>⟨n - (i+1),by omega,rfl,hlt,p'⟩,fun x H' y=>?_⟩
  obtain⟨e,y⟩:=y
  subst e y
  exact hs i σ _ hlt p
 ·have e:i=n:=by omega
  subst e
  exact .inl ⟨AG _,hd σ H p⟩
abbrev R2:=V->V->Hp->VK->Prop
def OpR (X:Cx) (f:Value->Value->Sem Value) (r:R2):Prop:=
 ∀ (pins:List (Addr×Obj)) (s:Shared) (σ:St) (H:Hp) (x y:V) (v u:Value) (Q:VK),Inv X pins σ H s->RelV x v->RelV y u->r x y H Q ->
  wpAny (model X.prog X.w) X.A (f v u) (EP X pins σ Q) X.xe s
def qA (X:Cx) (f:Value) (r:List V->Hp->VK->Prop):Prop:=
 ∀ (pins:List (Addr×Obj)) (s:Shared) (σ:St) (H:Hp) (xs:List V) (us:List Value) (Q:VK),Inv X pins σ H s->zX xs us->r xs H Q ->
  wpAny (model X.prog X.w) X.A (call f us) (EP X pins σ Q) X.xe s
def tOp (r:R2) (ta tb:TE):TE:=fun σ H Q=>ta σ H fun x H1=>tb σ H1 fun y H2=>r x y H2 Q
def rI (C:Int->Int->Prop) (g:Int->Int->V):R2:=fun x y H Q=>∃ i j,x=.int i/\y=.int j/\C i j/\Q (g i j) H
def rI0 (g:Int->Int->V):R2:=fun x y H Q=>∃ i j,x=.int i/\y=.int j/\Q (g i j) H
section
variable {X : Cx} {a b c : Expr} {ta tb tc : TE} {pos : Pos}
theorem binT (ha:PE X a ta) (hb:PE X b tb) {pins:List (Addr×Obj)} {s:Shared} {σ:St} {H:Hp} {R:V->V->Hp->Prop} (I:Inv X pins σ H s)
  (h:ta σ H fun x H1=>tb σ H1 fun y H2=>R x y H2) {Q:Value->Shared->Prop} {f:Value->Value->Sem Value}
  (hf:∀ v u s2 x y H2,Inv X pins σ H2 s2->RelV x v->RelV y u->R x y H2->wpAny (model X.prog X.w) X.A (f v u) Q X.xe s2) :
  wpAny (model X.prog X.w) X.A (eval a X.env) (fun v s₁=>wpAny (model X.prog X.w) X.A (eval b X.env) (fun u s₂=>wpAny (model X.prog X.w) X.A (f v u) Q X.xe s₂) X.xe s₁) X.xe s:=by
 refine thn (ha pins s σ H _ I h) fun v s1 ⟨x,H1,I1,r1,q1⟩=>?_
 refine thn (hb pins s1 σ H1 _ I1 q1) fun u s2 ⟨y,H2,I2,r2,q2⟩=>?_
 exact hf v u s2 x y H2 I2 r1 r2 q2
theorem zC {op:Operator} {r:R2} (ho:OpR X (binaryOp op) r) (ha:PE X a ta) (hb:PE X b tb):PE X (.BinOp a op b pos) (tOp r ta tb):=by
 intro pins s σ H Q I h
 exact wpAny_BinOp (binT ha hb I h fun v u s2 x y H2 I2 rx ry q=>ho pins s2 σ H2 x y v u Q I2 rx ry q)
theorem opI {f:Value->Value->Sem Value} {C:Int->Int->Prop} {g:Int->Int->Int}
  (rule:∀ (i j:Int) (t u:Tok) (s:Shared) (Q:Value->Shared->Prop) (E:Value->Shared->Prop),C i j->Q (.int (g i j) s.toks) { s with toks:=s.toks+1 }->wpAny (model X.prog X.w) X.A (f (.int i t) (.int j u)) Q E s) :
  OpR X f (rI C fun i j=>.int (g i j)):=by
 intro pins s σ H x y v u Q I rx ry h
 obtain⟨i,j,rfl,rfl,hc,q⟩:=h
 obtain⟨t,rfl⟩:=rx
 obtain⟨t',rfl⟩:=ry
 exact rule i j t t' s _ _ hc ⟨.int (g i j),H,I.tok _,⟨_,rfl⟩,q⟩
theorem opI0 {f:Value->Value->Sem Value} {g:Int->Int->Int}
  (rule:∀ (i j:Int) (t u:Tok) (s:Shared) (Q:Value->Shared->Prop) (E:Value->Shared->Prop),Q (.int (g i j) s.toks) { s with toks:=s.toks+1 }->wpAny (model X.prog X.w) X.A (f (.int i t) (.int j u)) Q E s) :
  OpR X f (rI0 fun i j=>.int (g i j)):=by
 intro pins s σ H x y v u Q I rx ry h
 obtain⟨i,j,rfl,rfl,q⟩:=h
 obtain⟨t,rfl⟩:=rx
 obtain⟨t',rfl⟩:=ry
 exact rule i j t t' s _ _ ⟨.int (g i j),H,I.tok _,⟨_,rfl⟩,q⟩
theorem opB0 {f:Value->Value->Sem Value} {g:Int->Int->Bool}
  (rule:∀ (i j:Int) (t u:Tok) (s:Shared) (Q:Value->Shared->Prop) (E:Value->Shared->Prop),Q (.bool (g i j)) s->wpAny (model X.prog X.w) X.A (f (.int i t) (.int j u)) Q E s) :
  OpR X f (rI0 fun i j=>.bl (g i j)):=by
 intro pins s σ H x y v u Q I rx ry h
 obtain⟨i,j,rfl,rfl,q⟩:=h
 obtain⟨t,rfl⟩:=rx
 obtain⟨t',rfl⟩:=ry
 exact rule i j t t' s _ _ ⟨.bl (g i j),H,I,rfl,q⟩
def CDiv (i j:Int):Prop:=0 < j/\j < 1073741824
def CPow (i j:Int):Prop:=0<=j/\j<=1000000/\i.natAbs < 2 ^ 64
def CMul (i j:Int):Prop:=(-(2 ^ 64) < i/\i < 2 ^ 64)\/(-(2 ^ 64) < j/\j < 2 ^ 64)
theorem CMul.ok {i j:Int} (h:CMul i j):IntMulOk i j:=by
 rcases h with ⟨h1,h2⟩ | ⟨h1,h2⟩
 ·exact .of_left (intBits_le_64 h1 h2)
 ·exact .of_right (intBits_le_64 h1 h2)
theorem ja:OpR X (binaryOp .Add) (rI0 fun i j=>.int (i+j)):=opI0 fun _ _ _ _ _ _ _ q=>add_int q
theorem wB:OpR X (binaryOp .Sub) (rI0 fun i j=>.int (i - j)):=opI0 fun _ _ _ _ _ _ _ q=>sub_int q
theorem ZK:OpR X (binaryOp .Mult) (rI CMul fun i j=>.int (i * j)):=opI fun _ _ _ _ _ _ _ hc q=>mul_int q hc.ok
theorem Y1:OpR X (binaryOp .FloorDiv) (rI CDiv fun i j=>.int (i / j)):=opI fun i j _ _ _ _ _ hc q=>by
 have h1:(0:Int) < j:=hc.1
 have h2:j < 1073741824:=hc.2
 exact floordiv_int (by omega) (by rw[Int.fdiv_eq_ediv_of_nonneg i (by omega)];exact q) (.inl (PyProof.noPylong_small (by omega)))
theorem Ql:OpR X (binaryOp .Mod) (rI (fun _ j=>0 < j) fun i j=>.int (i % j)):=opI fun i j _ _ _ _ _ hc q=>by
 have h1:(0:Int) < j:=hc
 exact mod_int' (by omega) (by rw[Int.fmod_eq_emod_of_nonneg i (by omega)];exact q)
theorem op_pow:OpR X (binaryOp .Pow) (rI CPow fun i j=>.int (i ^ j.toNat)):=opI fun _ _ _ _ _ _ _ hc q=>pow_int_small hc.1 hc.2.1 hc.2.2 q
end
def scal:V->V->Bool
 | .non,.non=>true | .non,.int _=>true | .int _,.non=>true | .non,.bl _=>true | .bl _,.non=>true | .non,.str _=>true | .str _,.non=>true
 | .int _,.int _=>true | .bl _,.bl _=>true | .str _,.str _=>true | .byt _,.byt _=>true
 | .int _,.str _=>true | .str _,.int _=>true | .bl _,.str _=>true | .str _,.bl _=>true
 | _,_=>false
def rEq:R2:=fun x y H Q=>scal x y=true/\Q (.bl (decide (x=y))) H
def rNe:R2:=fun x y H Q=>scal x y=true/\Q (.bl (!decide (x=y))) H
theorem Y2 {i j:Int}:decide (V.int i=V.int j)=(i == j):=by
 rw[DK]
 simp
theorem dec_bl {i j:Bool}:decide (V.bl i=V.bl j)=(i == j):=by
 rw[DK]
 simp
theorem Y3 {i j:Str}:decide (V.str i=V.str j)=(i == j):=by
 rw[DK]
 simp
theorem Y4 {i j:Array UInt8}:decide (V.byt i=V.byt j)=(i.toList == j.toList):=by
 rw[DK]
 cases i
 cases j
 simp
section
variable {X : Cx} {a b c : Expr} {ta tb tc : TE} {pos : Pos}
theorem zJ {pins:List (Addr×Obj)} {σ:St} {H:Hp} {s:Shared} {Q:VK} {k k':Bool} (I:Inv X pins σ H s) (q:Q (.bl k) H) (e:k=k'):EP X pins σ Q (.bool k') s:=by
 subst e
 exact⟨.bl k,H,I,rfl,q⟩
theorem Zj:OpR X (compareOp .Eq) rEq:=by
 intro pins s σ H x y v u Q I rx ry h
 obtain⟨hs,q⟩:=h
 cases x with
 | non=>
  cases rx
  cases y with
  | non=>cases ry;exact PySem.EqNone.eq_none_none (zJ I q (by simp))
  | bl j=>cases ry;exact PySem.EqNone.eq_none_bool (zJ I q (by simp))
  | int j=>obtain⟨t',rfl⟩:=ry;exact PySem.EqNone.eq_none_int (zJ I q (by simp))
  | str j=>obtain⟨t',rfl⟩:=ry;exact PySem.EqNone.eq_none_str (zJ I q (by simp))
  | _=>exact absurd (show false=true from hs) AY
 | bl i=>
  cases rx
  cases y with
  | non=>cases ry;exact PySem.EqNone.eq_bool_none (zJ I q (by simp))
  | bl j=>cases ry;exact eq_bool (zJ I q dec_bl)
  | str j=>obtain⟨t',rfl⟩:=ry;exact PySem.EqMixed.eq_bool_str (zJ I q (by simp))
  | _=>exact absurd (show false=true from hs) AY
 | int i=>
  obtain⟨t,rfl⟩:=rx
  cases y with
  | non=>cases ry;exact PySem.EqNone.eq_int_none (zJ I q (by simp))
  | int j=>obtain⟨t',rfl⟩:=ry;exact eq_int (zJ I q Y2)
  | str j=>obtain⟨t',rfl⟩:=ry;exact PySem.EqMixed.eq_int_str (zJ I q (by simp))
  | _=>exact absurd (show false=true from hs) AY
 | str i=>
  obtain⟨t,rfl⟩:=rx
  cases y with
  | non=>cases ry;exact PySem.EqNone.eq_str_none (zJ I q (by simp))
  | bl j=>cases ry;exact PySem.EqMixed.eq_str_bool (zJ I q (by simp))
  | int j=>obtain⟨t',rfl⟩:=ry;exact PySem.EqMixed.eq_str_int (zJ I q (by simp))
  | str j=>obtain⟨t',rfl⟩:=ry;exact eq_str (zJ I q Y3)
  | _=>exact absurd (show false=true from hs) AY
 | byt i=>
  obtain⟨t,rfl⟩:=rx
  cases y with
  | byt j=>obtain⟨t',rfl⟩:=ry;exact PySem.W.eq_bytes (zJ I q Y4)
  | _=>exact absurd (show false=true from hs) AY
 | _=>cases y <;> exact absurd (show false=true from hs) AY
theorem op_ne:OpR X (compareOp .NotEq) rNe:=by
 intro pins s σ H x y v u Q I rx ry h
 obtain⟨hs,q⟩:=h
 cases x with
 | non=>
  cases rx
  cases y with
  | non=>cases ry;exact PySem.EqNone.ne_none_none (zJ I q (by simp))
  | bl j=>cases ry;exact PySem.EqNone.ne_none_bool (zJ I q (by simp))
  | int j=>obtain⟨t',rfl⟩:=ry;exact PySem.EqNone.ne_none_int (zJ I q (by simp))
  | str j=>obtain⟨t',rfl⟩:=ry;exact PySem.EqNone.ne_none_str (zJ I q (by simp))
  | _=>exact absurd (show false=true from hs) AY
 | bl i=>
  cases rx
  cases y with
  | non=>cases ry;exact PySem.EqNone.ne_bool_none (zJ I q (by simp))
  | bl j=>cases ry;exact ne_bool (zJ I q (Be not dec_bl))
  | str j=>obtain⟨t',rfl⟩:=ry;exact PySem.EqMixed.ne_bool_str (zJ I q (by simp))
  | _=>exact absurd (show false=true from hs) AY
 | int i=>
  obtain⟨t,rfl⟩:=rx
  cases y with
  | non=>cases ry;exact PySem.EqNone.ne_int_none (zJ I q (by simp))
  | int j=>obtain⟨t',rfl⟩:=ry;exact ne_int (zJ I q (Be not Y2))
  | str j=>obtain⟨t',rfl⟩:=ry;exact PySem.EqMixed.ne_int_str (zJ I q (by simp))
  | _=>exact absurd (show false=true from hs) AY
 | str i=>
  obtain⟨t,rfl⟩:=rx
  cases y with
  | non=>cases ry;exact PySem.EqNone.ne_str_none (zJ I q (by simp))
  | bl j=>cases ry;exact PySem.EqMixed.ne_str_bool (zJ I q (by simp))
  | int j=>obtain⟨t',rfl⟩:=ry;exact PySem.EqMixed.ne_str_int (zJ I q (by simp))
  | str j=>obtain⟨t',rfl⟩:=ry;exact ne_str (zJ I q (Be not Y3))
  | _=>exact absurd (show false=true from hs) AY
 | byt i=>
  obtain⟨t,rfl⟩:=rx
  cases y with
  | byt j=>obtain⟨t',rfl⟩:=ry;exact PySem.W.ne_bytes (zJ I q (Be not Y4))
  | _=>exact absurd (show false=true from hs) AY
 | _=>cases y <;> exact absurd (show false=true from hs) AY
theorem op_lt:OpR X (compareOp .Lt) (rI0 fun i j=>.bl (decide (i < j))):=opB0 fun _ _ _ _ _ _ _ q=>lt_int q
theorem op_le:OpR X (compareOp .LtE) (rI0 fun i j=>.bl (decide (i<=j))):=opB0 fun _ _ _ _ _ _ _ q=>le_int q
theorem op_gt:OpR X (compareOp .Gt) (rI0 fun i j=>.bl (decide (j < i))):=opB0 fun _ _ _ _ _ _ _ q=>gt_int q
theorem op_ge:OpR X (compareOp .GtE) (rI0 fun i j=>.bl (decide (j<=i))):=opB0 fun _ _ _ _ _ _ _ q=>ge_int q
theorem op_notN:OpR X (compareOp .IsNot) (fun x y H Q=>y=.non/\Q (.bl (!decide (x=.non))) H):=by
 intro pins s σ H x y v u Q I rx ry h
 obtain⟨rfl,q⟩:=h
 cases ry
 refine isnot_none_gen (zJ I q ?_)
 cases x <;> first
  | (cases rx;rfl)
  | (obtain⟨t,rfl⟩:=rx;rfl)
theorem zH (b:Expr) {op:CmpOp} (h:op ≠ .In:=by decide) (h2:op ≠ .NotIn:=by decide):behindInMarks op b=false:=by
 have e1:(op == CmpOp.In)=false:=by cases op <;> first | rfl | exact absurd rfl h
 have e2:(op == CmpOp.NotIn)=false:=by cases op <;> first | rfl | exact absurd rfl h2
 cases b <;> simp[behindInMarks,e1,e2]
theorem jX {op:CmpOp} {r:R2} (ho:OpR X (compareOp op) r) (ha:PE X a ta) (hb:PE X b tb) (hm:behindInMarks op b=false):PE X (.Compare a [op] [b] pos) (tOp r ta tb):=by
 intro pins s σ H Q I h
 exact wpAny_Compare1 (binT ha hb I h fun v u s2 x y H2 I2 rx ry q=>ho pins s2 σ H2 x y v u Q I2 rx ry q) hm
def tTest (t:TE):TT:=fun σ H Q=>t σ H fun x H'=>∃ k,x=.bl k/\Q k H'
theorem zx {op:CmpOp} {r:R2} (ho:OpR X (compareOp op) r) (ha:PE X a ta) (hb:PE X b tb) (hm:behindInMarks op b=false):PT X (.Compare a [op] [b] pos) (tTest (tOp r ta tb)):=by
 intro pins s σ H Q I h
 refine wpAny_isTrue_Compare1 (thn (ha pins s σ H _ I h) fun v s1 ⟨x,H1,I1,r1,q1⟩=>thn (hb pins s1 σ H1 _ I1 q1) fun u s2 ⟨y,H2,I2,r2,q2⟩=>
  thn (ho pins s2 σ H2 x y v u _ I2 r1 r2 q2) fun c s3 ⟨z,H3,I3,r3,k,e,q3⟩=>?_) hm
 subst e
 cases r3
 exact CG ⟨H3,I3,q3⟩
def tChain (r r':R2) (ta tb tc:TE):TE:=fun σ H Q=>ta σ H fun x H1=>tb σ H1 fun y H2=>r x y H2 fun z H3=>∃ k,z=.bl k /\
 (if k=true then tc σ H3 fun w' H4=>r' y w' H4 Q else Q (.bl false) H3)
theorem pe_chain {op op':CmpOp} {r r':R2} (ho:OpR X (compareOp op) r) (ho':OpR X (compareOp op') r') (ha:PE X a ta) (hb:PE X b tb) (hc:PE X c tc)
  (hm:lastMarks [op,op'] [b,c]=false:=by with_unfolding_all rfl):PE X (.Compare a [op,op'] [b,c] pos) (tChain r r' ta tb tc):=by
 intro pins s σ H Q I h
 refine Compare_chain (thn (ha pins s σ H _ I h) fun v s1 ⟨x,H1,I1,r1,q1⟩=>chain_link (thn (hb pins s1 σ H1 _ I1 q1) fun u s2 ⟨y,H2,I2,r2,q2⟩=>
  thn (ho pins s2 σ H2 x y v u _ I2 r1 r2 q2) fun d s3 ⟨z,H3,I3,r3,k,e,q3⟩=>?_)) hm
 subst e
 cases r3
 refine CG ?_
 cases k with
 | false=>exact ite_ff ⟨.bl false,H3,I3,rfl,q3⟩
 | true=>exact ite_tt (chain_last (thn (hc pins s3 σ H3 _ I3 q3) fun w' s4 ⟨z',H4,I4,r4,q4⟩=>ho' pins s4 σ H4 y z' u w' Q I4 r2 r4 q4))
theorem wC:(sizeLine:Nat) < 2 ^ 63:=by rw[DH];decide
theorem yV:OpR X (binaryOp .Add) (fun x y H Q=>∃ i j,x=.str i/\y=.str j/\i.length+j.length<=sizeLine/\Q (.str (i++j)) H):=by
 intro pins s σ H x y v u Q I rx ry h
 obtain⟨i,j,rfl,rfl,hz,q⟩:=h
 obtain⟨t,rfl⟩:=rx
 obtain⟨t',rfl⟩:=ry
 exact add_str (fun t' tk=>⟨.str (i++j),H,I.tok _,⟨_,rfl⟩,q⟩) hz
theorem vals1 {x:V} {us:List Value} (r:zX [x] us):∃ u,us=[u]/\RelV x u:=by
 cases r with
 | cons r1 r2=>cases r2;exact⟨_,rfl,r1⟩
theorem Y5 {x y:V} {us:List Value} (r:zX [x,y] us):∃ u w',us=[u,w']/\RelV x u/\RelV y w':=by
 cases r with
 | cons r1 r2=>
  cases r2 with
  | cons r3 r4=>cases r4;exact⟨_,_,rfl,r1,r3⟩
theorem call_abs:qA X (.builtin "abs") (fun xs H Q=>∃ i,xs=[.int i]/\Q (.int (if i < 0 then -i else i)) H):=by
 intro pins s σ H xs us Q I r h
 obtain⟨i,rfl,q⟩:=h
 obtain⟨u,rfl,t,rfl⟩:=vals1 r
 exact call_abs_int fun u tk=>⟨.int (if i < 0 then -i else i),H,I.tok _,⟨_,rfl⟩,q⟩
theorem Y6 (hc:X.calm=true):qA X (.builtin "min") (fun xs H Q=>∃ i j,xs=[.int i,.int j]/\Q (.int (if j < i then j else i)) H):=by
 intro pins s σ H xs us Q I r h
 obtain⟨i,j,rfl,q⟩:=h
 obtain⟨u,w',rfl,⟨t,rfl⟩,⟨t',rfl⟩⟩:=Y5 r
 refine min_two_ints (I.ok.hd hc) fun h' tk k=>⟨_,H,I.kept k,?_,q⟩
 by_cases hj:j < i
 ·rw[if_pos hj,if_pos hj];exact⟨_,rfl⟩
 ·rw[if_neg hj,if_neg hj];exact⟨_,rfl⟩
theorem Y7:qA X (.type "int") (fun xs H Q=>(∃ i,xs=[.int i]/\Q (.int i) H)\/∃ k,xs=[.bl k]/\Q (.int (if k then 1 else 0)) H):=by
 intro pins s σ H xs us Q I r h
 rcases h with ⟨i,rfl,q⟩ | ⟨k,rfl,q⟩
 ·obtain⟨u,rfl,t,rfl⟩:=vals1 r
  exact call_int_int ⟨.int i,H,I,⟨_,rfl⟩,q⟩
 ·obtain⟨u,rfl,r1⟩:=vals1 r
  cases r1
  exact call_int_bool ⟨.int (if k then 1 else 0),H,I.tok _,⟨_,rfl⟩,q⟩
def LenV (K:PySem.W.Frag) (x:V) (H:Hp) (n:Nat):Prop:=
 match x with
 | .str y=>y.length<=sizeLine/\n=y.length
 | .byt y=>y.size<=sizeLine/\n=y.size
 | .ref p=>(∃ xs,SqL K H p xs/\n=xs.length)\/∃ xs,SqT K H p xs/\n=xs.length
 | _=>False
theorem call_len:qA X (.builtin "len") (fun xs H Q=>∃ x n,xs=[x]/\LenV X.K x H n/\Q (.int n) H):=by
 intro pins s σ H xs us Q I r h
 obtain⟨x,n,rfl,e,q⟩:=h
 obtain⟨u,rfl,rx⟩:=vals1 r
 have hl:=wC
 have hs:sizeLine=16777216:=DH
 cases x with
 | str y=>
  obtain⟨t,rfl⟩:=rx
  obtain⟨hy,e'⟩:y.length<=sizeLine/\n=y.length:=e
  subst e'
  exact len_str (by omega) ⟨.int _,H,I.tok _,⟨_,rfl⟩,q⟩
 | byt y=>
  obtain⟨t,rfl⟩:=rx
  obtain⟨hy,e'⟩:y.size<=sizeLine/\n=y.size:=e
  subst e'
  exact PySem.W.len_bytes (by omega) ⟨.int _,H,I.tok _,⟨_,rfl⟩,q⟩
 | ref p=>
  cases rx
  have e':(∃ xs,SqL X.K H p xs/\n=xs.length)\/∃ xs,SqT X.K H p xs/\n=xs.length:=e
  rcases e' with ⟨xs,hx,e'⟩ | ⟨xs,hx,e'⟩
  ·subst e'
   obtain⟨its,r',pl,hz⟩:=I.list hx
   have hlen:=r'.length
   exact Calls.call_len_list pl.isList (by simp only[List.size_toArray];omega) ⟨.int xs.length,H,I.tok _,⟨_,by simp only[List.size_toArray];rw[hlen]⟩,q⟩
  ·subst e'
   obtain⟨its,r',pl,hz⟩:=I.tuple hx
   have hlen:=r'.length
   exact len_tuple pl (by simp only[List.size_toArray];omega) ⟨.int xs.length,H,I.tok _,⟨_,by simp only[List.size_toArray];rw[hlen]⟩,q⟩
 | _=>exact (show False from e).elim
end
structure ObjM (h:Heap) (x dx C:Addr) (mA:Str->Option Value):Prop where
 obj:h.get? x=some (PySem.W.instObj C dx)
 ns:h.Ns1 dx mA
 ne:dx ≠ x
theorem Y8 {h:Heap} {dx:Addr} {mA:Str->Option Value} (n:h.Ns1 dx mA):∃ od,h.get? dx=some od/\∀ name,PySem.W.lookIn name od=some (mA name):=by
 obtain⟨o,es,ep,ho,hd,hk,_,hm⟩:=n
 refine⟨o,ho,fun name=>?_⟩
 have e:=hm name
 unfold nsFind findBy at e
 rw[<- Array.find?_toList] at e
 unfold PySem.W.lookIn
 rw[hd]
 dsimp only
 split
 ·rename_i y q
  rw[q] at e
  exact Be some e
 ·rename_i q
  rw[q] at e
  have a:es.toList.any (·.refKey)=false:=by
   rw[List.any_eq_false]
   intro y hy
   obtain⟨z,t,hkey⟩:=hk y (Array.mem_toList_iff.mp hy)
   simp[DictEntry.refKey,hkey]
  have a':¬ es.toList.any (·.refKey)=true:=by rw[a];exact AY
  rw[if_neg a']
  exact Be some e
theorem ObjM.look {h:Heap} {x dx C:Addr} {mA:Str->Option Value} (I:ObjM h x dx C mA):∃ od,PySem.W.InstAt h x (PySem.W.instObj C dx) C (some od)/\∀ name,PySem.W.lookIn name od=some (mA name):=
 let ⟨od,ho,hl⟩:=Y8 I.ns
 ⟨od,⟨I.obj,rfl,rfl,ho⟩,hl⟩
section
variable {prog : Program} {w : World} {A : Around} {E : Value -> Shared -> Prop} {s : Shared} {K : PySem.W.Frag} {x dx C f : Addr} {mA : Str -> Option Value} {name : Str} {v : Value}
end
theorem yo.some_of {v:V} {o:Option Value} (r:yo (some v) o):∃ u,o=some u/\RelV v u:=by
 cases o with
 | none=>exact (show False from r).elim
 | some u=>exact⟨u,rfl,r⟩
theorem Y9 {v:V} {u:Value} (r:RelV v u):PySem.W.handedIn u=true:=by
 cases v with
 | non=>cases (show u=Value.none from r);rfl
 | bl b=>cases (show u=Value.bool b from r);rfl
 | int i=>obtain⟨t,e⟩:=(show ∃ t,u=Value.int i t from r);cases e;rfl
 | str x=>obtain⟨t,e⟩:=(show ∃ t,u=Value.str x t from r);cases e;rfl
 | byt b=>obtain⟨t,e⟩:=(show ∃ t,u=Value.bytes b t from r);cases e;rfl
 | flt b=>obtain⟨t,e⟩:=(show ∃ t,u=Value.float b t from r);cases e;rfl
 | ref a=>cases (show u=Value.ref a from r);rfl
 | ty n=>cases (show u=Value.type n from r);rfl
section
variable {P : Program} {w : World} {H H' : Hp} {h h' : Heap} {a C dx : Addr} {fs fs' : List (Str × V)}
theorem ins_get (hok:HOk P w H h) (e:H a=some (.ins C dx fs)):∃ mA,ObjM h a dx C mA/\(∀ f,yo (fs.lookup f) (mA f))/\PySem.Within mA (fs.map (·.1))/\fs.length<=1000/\H dx=some (.own a):=by
 obtain⟨d,z,ne,ob,mA,n,r,q⟩:=(show qd P w H h a (.ins C dx fs) from hok a _ e)
 exact⟨mA,⟨ob,n,ne⟩,r,q,z,d⟩
end
structure Cls (K:PySem.W.Frag) (C:Addr):Prop where
 pg:PySem.W.plainGet K C Str.empty=true
 hd:PySem.W.hasDictIn K C=true
 po:PySem.W.plainOver K C=true
 sa:PySem.W.findIn K (.ref C) "__setattr__" = some (some (.builtin "object.__setattr__"))
theorem Cls.get {K:PySem.W.Frag} {C:Addr} (c:Cls K C) (f:Str):PySem.W.plainGet K C f=true:=c.pg
section
variable {X : Cx} {pins : List (Addr × Obj)} {σ : St} {H : Hp} {s : Shared} {a C dx : Addr} {fs : List (Str × V)} {f : Str} {v : V} {A : Around} {E : Value -> Shared -> Prop}
theorem attr_of {prog:Program} {w:World} {env:Env} {e:Expr} {f:Str} {pos:Pos} {s:Shared} {Q:Value->Shared->Prop} (hb:attributeBase e f env (eval e env)=eval e env)
  (h:wpAny (model prog w) A (eval e env) (fun o s₁=>wpAny (model prog w) A (getAttr o f true) Q E s₁) E s):wpAny (model prog w) A (eval (.Attribute e f pos) env) Q E s:=
 Attribute_any_ h (by rw[arm_eval_Attribute,hb])
end
section
variable {X : Cx} {o e value : Expr} {f : Str} {pos pos' tpos : Pos} {ta tv : TE}
end
section
variable {X : Cx} {pins : List (Addr × Obj)} {σ : St} {H : Hp} {s : Shared} {A : Around} {E : Value -> Shared -> Prop} {Q : Value -> Shared -> Prop} {c : Value} {b : Bool}
inductive yr (K:PySem.W.Frag) (H:Hp):V->Value->Prop where
 | non:yr K H .non (.type "NoneType")
 | bl (x:Bool):yr K H (.bl x) (.type "bool")
 | int (i:Int):yr K H (.int i) (.type "int")
 | str (x:Str):yr K H (.str x) (.type "str")
 | flt (x:UInt64):yr K H (.flt x) (.type "float")
 | lst {a:Addr} {xs:List V} (e:H a=some (.lst xs)):yr K H (.ref a) (.type "list")
 | frz {a:Addr} {o:Obj} {xs:List V} (e:H a=some (.frz o (.lst xs))):yr K H (.ref a) (.type "list")
 | tup {a:Addr} {xs:List V} (e:H a=some (.tup xs)):yr K H (.ref a) (.type "tuple")
 | dK {a:Addr} {kvs:List (Key×V)} (e:H a=some (.dK kvs)):yr K H (.ref a) (.type "dict")
 | dT {a:Addr} {kvs:List (List Key×V)} (e:H a=some (.dT kvs)):yr K H (.ref a) (.type "dict")
 | ins {a C dx:Addr} {fs:List (Str×V)} (e:H a=some (.ins C dx fs)) (cl:Cls K C) (ha:PySem.W.findIn K (.ref C) "__class__" = some (some (.builtin "object.__class__")))
   (hn:PySem.W.specialIn K (.builtin "object.__class__") "__get__" = some (some (.builtin "getset_descriptor.__get__"))) (htk:PySem.W.takesIn K (.builtin "object.__class__")=some true)
   (hm:PySem.W.mroIn K C (.type "object")=some true):yr K H (.ref a) (.ref C)
theorem xg {x:V} {u t:Value} (I:Inv X pins σ H s) (rx:RelV x u) (ty:yr X.K H x t) (e:PySem.W.kitOne X.K t c=some b) (h:∀ tk,Q (.bool b) { s with toks:=tk }) :
  wpAny (model X.prog X.w) A (call (.builtin "isinstance") [u,c]) Q E s:=by
 cases ty with
 | non=>cases (show u=Value.none from rx);exact A9 PySem.W.kitx_none I.kIn True.intro e (fun z=>nomatch z) h
 | bl y=>cases (show u=Value.bool y from rx);exact A9 PySem.W.kitx_bool I.kIn True.intro e (fun z=>nomatch z) h
 | int i=>obtain⟨t,q⟩:=(show ∃ t,u=Value.int i t from rx);cases q;exact A9 PySem.W.kitx_int I.kIn True.intro e (fun z=>nomatch z) h
 | str y=>obtain⟨t,q⟩:=(show ∃ t,u=Value.str y t from rx);cases q;exact A9 PySem.W.kitx_str I.kIn True.intro e (fun z=>nomatch z) h
 | flt y=>obtain⟨t,q⟩:=(show ∃ t,u=Value.float y t from rx);cases q;exact A9 PySem.W.kitx_float I.kIn True.intro e (fun z=>nomatch z) h
 | @lst a xs ea=>
  cases (show u=Value.ref a from rx)
  obtain⟨_,_,n,_,h1⟩:=(show qd X.prog X.w H s.heap a (.lst xs) from I.hok a _ ea)
  exact A9 PySem.W.kitx_list I.kIn ⟨_,h1,rfl⟩ e (fun z=>nomatch z) h
 | @frz a ob xs ea=>
  cases (show u=Value.ref a from rx)
  obtain⟨_,_,_,n,_,h1⟩:=(show qd X.prog X.w H s.heap a (.frz ob (.lst xs)) from I.hok a _ ea)
  exact A9 PySem.W.kitx_list I.kIn ⟨_,h1,rfl⟩ e (fun z=>nomatch z) h
 | @tup a xs ea=>
  cases (show u=Value.ref a from rx)
  obtain⟨_,_,_,p⟩:=(show qd X.prog X.w H s.heap a (.tup xs) from I.hok a _ ea)
  obtain⟨o,h1,h2,_⟩:=p
  exact A9 PySem.W.kitx_tuple I.kIn ⟨o,h1,h2⟩ e (fun z=>nomatch z) h
 | @dK a kvs ea=>
  cases (show u=Value.ref a from rx)
  obtain⟨_,_,vs,_,p⟩:=(show qd X.prog X.w H s.heap a (.dK kvs) from I.hok a _ ea)
  obtain⟨o,es,ep,h1,h2,_⟩:=p
  exact A9 PySem.W.kitx_dict I.kIn ⟨o,h1,h2.1⟩ e (fun z=>nomatch z) h
 | @dT a kvs ea=>
  cases (show u=Value.ref a from rx)
  obtain⟨_,_,xs,_,o,es,ep,h1,h2,_⟩:=(show qd X.prog X.w H s.heap a (.dT kvs) from I.hok a _ ea)
  exact A9 PySem.W.kitx_dict I.kIn ⟨o,h1,h2.1⟩ e (fun z=>nomatch z) h
 | @ins a C dx fs ea cl ha hn htk hm=>
  cases (show u=Value.ref a from rx)
  obtain⟨mA,O,_⟩:=ins_get I.hok ea
  obtain⟨od,J,_⟩:=O.look
  exact A9 (PySem.W.kitx_own (cl.get _) cl.hd ha hn htk hm) I.kIn J e (fun z=>nomatch z) h
end
structure jV (k:Nat) (A:Around):Prop where
 hd:A.handled=none
 dp:A.depth+3 * k+5 < recursionLimit
 un:A.units+16 * k+200 < cLine
theorem jV.mono {j k:Nat} {A:Around} (r:jV k A) (h:j<=k):jV j A:=⟨r.hd,by have:=r.dp;omega,by have:=r.un;omega⟩
theorem jV.deeper {k:Nat} {A:Around} (r:jV (k+1) A) (env:Env):jV k (A.deeper env):=
 ⟨r.hd,by have:=r.dp;show A.depth+1+3 * k+5 < _;omega,by have:=r.un;show A.units+3+16 * k+200 < _;omega⟩
theorem yW {A:Around} {C:Addr} {us:List Value} {kw:List (Str×Value)}:(A.under (.builtin "type.__call__" ⟨.ref C :: us,kw⟩)).depth=A.depth+1:=by
 first | rfl | simp[Around.under,Code.weight,Code.isCreation,Code.isGuard,Code.isCaller,Code.frames,Code.isFrame,guardIds]
theorem yX {A:Around} {C:Addr} {us:List Value} {kw:List (Str×Value)}:(A.under (.builtin "type.__call__" ⟨.ref C :: us,kw⟩)).units=A.units+1:=by
 first | rfl | simp[Around.under,Code.cUnits,Code.frames,Code.isFrame]
theorem jV.make {k:Nat} {A:Around} (r:jV (k+1) A) (C:Addr) (us:List Value) (kw:List (Str×Value)):jV k (A.under (.builtin "type.__call__" ⟨.ref C :: us,kw⟩)):=
 ⟨r.hd,by have:=r.dp;rw[yW];omega,by have:=r.un;rw[yX];omega⟩
theorem jV.depth {k:Nat} {A:Around} (r:jV k A):A.depth < recursionLimit:=by have:=r.dp;omega
theorem jV.units {k:Nat} {A:Around} (r:jV k A):A.units+64 < cLine:=by have:=r.un;omega
def tNil:TA:=fun _ H Q=>Q [] H
def tCons (ta:TE) (tr:TA):TA:=fun σ H Q=>ta σ H fun x H1=>tr σ H1 fun xs H2=>Q (x :: xs) H2
section
variable {X : Cx} {e : Expr} {es : List Expr} {te : TE} {t : TA} {pos : Pos}
theorem zb:PA X [] tNil:=fun _ _ _ _ H Q I h=>Calls.spliced_nil ⟨[],H,I,.nil,h⟩
theorem za (ha:PE X e te) (hr:PA X es t) (hs:starEach (e :: es) X.env=(false,eval e X.env) :: starEach es X.env:=by rfl):PA X (e :: es) (tCons te t):=by
 intro pos pins s σ H Q I h
 rw[hs]
 show wpAny _ _ (spliced ((false,eval e X.env) :: backTo pos (starEach es X.env))) _ _ s
 refine Calls.spliced_cons (thn (ha pins s σ H _ I h) fun u s1 ⟨x,H1,I1,r1,q1⟩=>?_)
 exact thn (hr pos pins s1 σ H1 _ I1 q1) fun us s2 ⟨xs,H2,I2,r2,q2⟩=>⟨x :: xs,H2,I2,.cons r1 r2,q2⟩
def tTup (t:TA):TE:=fun σ H Q=>t σ H fun xs H1=>xs.length<=sizeLine/\∀ p,H1 p=none->Q (.ref p) (upd H1 p (.tup xs))
def tLst (t:TA):TE:=fun σ H Q=>t σ H fun xs H1=>xs.length<=sizeLine/\∀ p,H1 p=none->Q (.ref p) (upd H1 p (.lst xs))
theorem zI {x1} (h:PA X es t):PE X (.Tuple es x1 pos) (tTup t):=by
 intro pins s σ H Q I hq
 refine wpAny_Tuple_spliced (thn (h pos pins s σ H _ I hq) fun us s1 ⟨xs,H1,I1,r,z,q⟩=>⟨by rw[<- r.length];exact z,?_⟩)
 have hf:H1 s1.heap.objs.size=none:=I1.hok.fresh (AG _)
 refine⟨.ref s1.heap.objs.size,upd H1 s1.heap.objs.size (.tup xs),I1.laid (t':=s1.toks) (fun b u e=>AD _ e) (AG _) ?_,rfl,q _ hf⟩
 exact⟨z,us,r,⟨_,AH _ rfl,rfl,⟨_,rfl⟩,rfl⟩⟩
theorem zK (h:PA X es t):PE X (.List es pos) (tLst t):=by
 intro pins s σ H Q I hq
 refine wpAny_List_spliced (thn (h pos pins s σ H _ I hq) fun us s1 ⟨xs,H1,I1,r,z,q⟩=>⟨by rw[<- r.length];exact z,?_⟩)
 have hf:H1 s1.heap.objs.size=none:=I1.hok.fresh (AG _)
 refine⟨.ref s1.heap.objs.size,upd H1 s1.heap.objs.size (.lst xs),I1.laid (t':=s1.toks) (fun b u e=>AD _ e) (AG _) ?_,rfl,q _ hf⟩
 exact⟨z,us,0,r,AH _ rfl⟩
end
abbrev Sp:=List V->Hp->VK->XK->Prop
abbrev CXT:=List Env->Hp->Shared->XK->Value->Shared->Prop
structure Env0 (P:Program) (w:World) (K:PySem.W.Frag) (mg:Str->Option Value) (base:Heap) (A:Around) (outer:List Env) (s:Shared) (H:Hp):Prop where
 frames:A.frames=some outer
 mod:Mod K mg base
 bs:∀ b o,base.get? b=some o->s.heap.get? b=some o/\H b=none
 bsz:base.objs.size<=s.heap.objs.size
 funs:s.heap.FunFrames base outer
 frf:∀ b ∈ frs outer,H b=none
 hok:HOk P w H s.heap
 bare:AllBare s.gens
def CE (outer:List Env) (P:Program) (w:World) (H:Hp) (s:Shared) (Q:VK) (u:Value) (s':Shared):Prop:=
 ∃ v H',s'.os=s.os/\AllBare s'.gens/\Un (frs outer) [] H H' s.heap s'.heap/\HOk P w H' s'.heap/\RelV v u/\Q v H'
def CR (CX:CXT) (outer:List Env) (P:Program) (w:World) (H:Hp) (s:Shared) (Q:VK) (E:XK) (r:Result) (s':Shared):Prop:=
 match r with
 | .ok (.ret u)=>CE outer P w H s Q u s'
 | .ok _=>False
 | .error e=>CX outer H s E e s'
structure jj (P:Program) (w:World) (K:PySem.W.Frag) (mg:Str->Option Value) (base:Heap) (CX:CXT) (k:Nat) (f:Addr) (fd:FuncData) (ps:List Str) (sp:Sp):Prop where
 len:∀ vs H Q E,sp vs H Q E->vs.length=ps.length
 run:∀ (A:Around) (outer:List Env) (s:Shared) (H:Hp) (args:Args) (us:List Value) (vs:List V) (Q:VK) (E:XK),jV k A->Env0 P w K mg base A outer s H->BindsTo s fd args (ps.zip us)->zX vs us->sp vs H Q E ->
  codeAny (model P w) A (.call (.ref f) args) (CR CX outer P w H s Q E) s
theorem Env0.make {P:Program} {w:World} {K:PySem.W.Frag} {mg:Str->Option Value} {base:Heap} {A:Around} {outer:List Env} {s:Shared} {H:Hp} (e:Env0 P w K mg base A outer s H) (C:Addr) (us:List Value) (kw:List (Str×Value)) :
  Env0 P w K mg base (A.under (.builtin "type.__call__" ⟨.ref C :: us,kw⟩)) outer s H:=⟨by first | exact e.frames | (simpa [Around.under,Code.envs,Code.isFrame,pushEnvs] using e.frames),e.mod,e.bs,e.bsz,e.funs,e.frf,e.hok,e.bare⟩
section
variable {X : Cx} {pins : List (Addr × Obj)} {σ : St} {H : Hp} {s s' : Shared}
theorem Inv.env0 (I:Inv X pins σ H s):Env0 X.prog X.w X.K X.mg X.base X.A X.stack s H:=
 ⟨I.ok.frames,I.ok.mod,I.bs,Ag I.ok.bsz I.sz,I.stack,I.stkFree,I.hok,I.bare⟩
theorem Inv.after {Q:VK} {u:Value} (I:Inv X pins σ H s) (h:CE X.stack X.prog X.w H s Q u s'):EP X pins σ Q u s':=by
 obtain⟨v,H',os,bare,un,hok,r,q⟩:=h
 obtain⟨hh,g,d,t,os'⟩:=s'
 obtain rfl:os'=s.os:=os
 exact⟨v,H',I.call (h':=hh) (g':=g) (d':=d) (t':=t) (ch:=[]) un hok bare (fun b z=>absurd z (by simp)),r,q⟩
end
def tCall (sp:Sp) (dvs:List V) (E:XK) (t:TA):TE:=fun σ H Q=>t σ H fun vs H1=>sp (vs++dvs) H1 Q E
def Binds (K:PySem.W.Frag) (fd:FuncData) (ps:List Str) (ds:List Value):Prop:=
 ∀ (s:Shared) (us:List Value),K.In s.heap->(us++ds).length=ps.length->BindsTo s fd ⟨us,[]⟩ (ps.zip (us++ds))
theorem Binds.all {K:PySem.W.Frag} {fd:FuncData} {ps:List Str} (h:∀ us:List Value,us.length=ps.length->bindArgs fd ⟨us,[]⟩=pure (ps.zip us)):Binds K fd ps []:=fun s us _ hl=>by
 rw[BY] at hl ⊢
 exact .of_eq (h us hl)
def wD (CX:CXT) (X:Cx) (E:XK):Prop:=∀ (pins:List (Addr×Obj)) (σ:St) (H:Hp) (s:Shared) (e:Value) (s':Shared),Inv X pins σ H s->CX X.stack H s E e s'->X.xe e s'
section
variable {X : Cx} {CX : CXT} {k : Nat} {f C : Addr} {fd : FuncData} {ps : List Str} {sp : Sp} {dvs : List V} {ds : List Value} {E : XK} {x m : Str} {p pos apos : Pos} {e o : Expr} {es : List Expr} {ta : TE} {t : TA}
theorem run_fn {pins:List (Addr×Obj)} {σ:St} {H:Hp} {s:Shared} {Q:VK} {us:List Value} {vs:List V} (F:jj X.prog X.w X.K X.mg X.base CX k f fd ps sp) (hr:jV k X.A) (hb:Binds X.K fd ps ds) (hd:zX dvs ds) (hx:wD CX X E)
  (I:Inv X pins σ H s) (r:zX vs us) (h:sp (vs++dvs) H Q E):wpAny (model X.prog X.w) X.A (call (.ref f) us) (EP X pins σ Q) X.xe s:=by
 have r2:zX (vs++dvs) (us++ds):=r.append hd
 have hl:(us++ds).length=ps.length:=by rw[<- r2.length];exact F.len _ _ _ _ h
 refine B7 (Bf (F.run X.A X.stack s H ⟨us,[]⟩ (us++ds) (vs++dvs) Q E hr I.env0 (hb s us I.kIn hl) r2 h) fun r s' hq=>?_)
 cases r with
 | error e=>exact hx pins σ H s e s' I hq
 | ok fl=>
  cases fl with
  | ret u=>exact I.after hq
  | next=>exact False.elim hq
  | brk=>exact False.elim hq
  | cont=>exact False.elim hq
theorem xh (F:jj X.prog X.w X.K X.mg X.base CX k f fd ps sp) (hr:jV k X.A) (hg:Gl X x) (hm:X.mg x=some (.ref f)) (hk:PySem.W.keepIn X.K (.ref f)=true) (hb:Binds X.K fd ps ds) (hd:zX dvs ds) (hx:wD CX X E)
  (ha:PA X (e :: es) t) (hdb:(x == ("__debug__" : Str))=false:=by decide) (he:starEach (e :: es) X.env=(false,eval e X.env) :: starEach es X.env:=by rfl) (hpl:(backTo pos (starEach es X.env)).any (·.1)=false:=by rfl) :
  PE X (.Call (.Name x p) (e :: es) [] pos) (tCall sp dvs E t):=by
 intro pins s σ H Q I h
 refine CV (Z6 I hg hm ?_ hdb)
 refine DZ (h₀:=X.base) I.ok.mod.kin hk (thn (ha pos pins s σ H _ I h) fun us s1 ⟨vs,H1,I1,r,q⟩=>⟨I1.kIn,?_⟩) he hpl
 exact run_fn F hr hb hd hx I1 r q
end
section
variable {X : Cx} {CX : CXT} {k : Nat} {f C : Addr} {fd : FuncData} {ps ks : List Str} {sp : Sp} {E : XK} {x m : Str} {p pos apos kpos : Pos} {e o : Expr} {es : List Expr} {kws : List Keyword} {te ta : TE} {t tk : TA} {nm : Option Str}
variable {g : List Value -> List Value -> List Value} {gV : List V -> List V -> List V}
end
structure zv (N P:List Str) (sc:Scope):Prop where
 kind:sc.kind=.function
 co:sc.isCoroutine=false
 gen:sc.isGenerator=false
 nd:N.Nodup
 pre:N.take P.length=P
 par:∀ x ∈ P,sc.names.lookup x=some .local\/sc.names.lookup x=some .cell
 nofree:∀ y ∈ sc.names,y.2 ≠ .free
theorem wE {kindOf:Str->Option NameKind} {x:Str}:∀ {binds:List (Str×Value)} {m:Str->Option Value},(∀ v,(x,v) ∉ binds)->bindL kindOf binds m x=m x
 | [],_,_=>rfl
 | (n,v) :: r,m,h=>by
  unfold bindL
  rw[wE fun w hw=>h w (AU _ hw)]
  split
  ·have:x ≠ n:=by rintro rfl;exact h v AO
   simp[this]
  ·rfl
theorem wF {kindOf:Str->Option NameKind} {x:Str}:∀ {binds:List (Str×Value)} {m:Str->Option Value},(∀ v,(x,v) ∉ binds)->bindC kindOf binds m x=m x
 | [],_,_=>rfl
 | (n,v) :: r,m,h=>by
  unfold bindC
  rw[wF fun w hw=>h w (AU _ hw)]
  split
  ·rfl
  ·have:x ≠ n:=by rintro rfl;exact h v AO
   simp[this]
theorem wG {kindOf:Str->Option NameKind} {x:Str} {v:Value}:∀ {P:List Str} {vs:List Value} {i:Nat} {m:Str->Option Value},P.Nodup->P[i]? = some x->vs[i]? = some v->kindOf x=some .local ->
  bindL kindOf (P.zip vs) m x=some v
 | [],_,_,_,_,h,_,_=>by simp at h
 | _ :: _,[],_,_,_,_,h,_=>by simp at h
 | p :: P,w :: vs,0,m,nd,h1,h2,hk=>by
  simp at h1 h2;subst h1;subst h2
  show bindL kindOf ((p,w) :: P.zip vs) m p=_
  unfold bindL
  rw[wE fun v hv=>(BA.mp nd).1 (D5 hv).1,if_pos hk]
  simp
 | p :: P,w :: vs,i+1,m,nd,h1,h2,hk=>by
  show bindL kindOf ((p,w) :: P.zip vs) m x=_
  unfold bindL
  exact wG (i:=i) (BA.mp nd).2 (by simpa using h1) (by simpa using h2) hk
theorem wH {kindOf:Str->Option NameKind} {x:Str} {v:Value}:∀ {P:List Str} {vs:List Value} {i:Nat} {m:Str->Option Value},P.Nodup->P[i]? = some x->vs[i]? = some v->kindOf x ≠ some .local ->
  bindC kindOf (P.zip vs) m x=some v
 | [],_,_,_,_,h,_,_=>by simp at h
 | _ :: _,[],_,_,_,_,h,_=>by simp at h
 | p :: P,w :: vs,0,m,nd,h1,h2,hk=>by
  simp at h1 h2;subst h1;subst h2
  show bindC kindOf ((p,w) :: P.zip vs) m p=_
  unfold bindC
  rw[wF fun v hv=>(BA.mp nd).1 (D5 hv).1,if_neg hk]
  simp
 | p :: P,w :: vs,i+1,m,nd,h1,h2,hk=>by
  show bindC kindOf ((p,w) :: P.zip vs) m x=_
  unfold bindC
  exact wH (i:=i) (BA.mp nd).2 (by simpa using h1) (by simpa using h2) hk
def start (N:List Str) (vs:List V):St:=vs.map some++List.replicate (N.length - vs.length) none
def YM (CX:CXT) (P:Program) (w:World) (K:PySem.W.Frag) (mg:Str->Option Value) (base:Heap) (N:List Str) (qual:Str) (scope:Scope) (f:Addr) (cd:Value) (A:Around) (outer:List Env) (s:Shared) (H:Hp) (E:XK):Cx where
 prog:=P
 w:=w
 K:=K
 mg:=mg
 base:=base
 A:=A.deeper (envOfC qual scope s.heap.objs.size f cd)
 N:=N
 s₀:=s
 H₀:=H
 env:=envOfC qual scope s.heap.objs.size f cd
 outer:=outer
 stack:=envOfC qual scope s.heap.objs.size f cd :: outer
 ex:=[]
 calm:=true
 fn:=fun _=>true
 pn:=[]
 xe:=fun e s'=>wpAny (model P w) (A.deeper (envOfC qual scope s.heap.objs.size f cd)) (leaving (envOfC qual scope s.heap.objs.size f cd) e) (fun _ s''=>CX outer H s E e s'') (fun e' s''=>CX outer H s E e' s'') s'
theorem yt {sc:Scope} {n:Nat} {x:Str} (h:sc.names.lookup x=some .cell):∃ c,(cellsFrom n sc.names []).lookup x=some c:=by
 have q:=PySem.W.cellsFrom_some sc.names n [] (.inl h)
 exact C4.mp q
theorem xj {CX:CXT} {P:Program} {w:World} {K:PySem.W.Frag} {mg:Str->Option Value} {base:Heap} {N ps:List Str} {qual:Str} {scope:Scope} {f:Addr} {cd:Value} {A:Around} {outer:List Env} {s s1:Shared} {H:Hp} {E:XK} {us:List Value} {vs:List V}
  (S:zv N ps scope) (hd:A.handled=none) (e0:Env0 P w K mg base A outer s H) (hl:vs.length=ps.length) (r:zX vs us)
  (x:InCallC s s.heap.objs.size (bindL (envOfC qual scope s.heap.objs.size f cd).kindOf (ps.zip us) fun _=>none) (cellsFrom (s.heap.objs.size+1) scope.names []) (bindC (envOfC qual scope s.heap.objs.size f cd).kindOf (ps.zip us) fun _=>none) s1) :
  Inv (YM CX P w K mg base N qual scope f cd A outer s H E) [] (start N vs) H s1:=by
 have hpl:ps.length<=N.length:=by have:=Be List.length S.pre;rw[AZ] at this;omega
 obtain⟨h1,tk,rfl,hk⟩:=x.done
 have noA:∀ b:Addr,b ∉ (YM CX P w K mg base N qual scope f cd A outer s H E).ex:=fun b z=>absurd (show b ∈ ([]:List Addr) from z) (by simp)
 refine⟨⟨e0.mod,S.kind,rfl,rfl,AG _,fun y z c h1 h2=>?_,fun y hy=>?_,fun y c _ h=>?_,fun _=>hd,Around.frames_deeper e0.frames,.inr ⟨rfl,rfl⟩,fun b z=>absurd z (noA b),e0.bs,e0.bsz,fun b _ _=>noA b,fun b z=>absurd z (noA b),e0.funs,e0.frf⟩,
  rfl,e0.bare,Un.kept hk,⟨_,x.toInCall.ns,fun i y v h1 h2 h3=>?_⟩,fun y c h=>⟨_,x.cell y c h⟩,e0.hok.fresh (AG _),fun y c h=>?_,fun p hp=>absurd (show p ∈ ([]:List (Addr×Obj)) from hp) (by simp),e0.hok.kept hk,?_⟩
 ·exact name_of_addr x.apart (BK h1) (BK h2)
 ·have hy:scope.names.lookup y=some .cell\/scope.names.lookup y=some .free:=hy
  rcases hy with hy | hy
  ·exact yt hy
  ·exact absurd rfl (S.nofree _ (BK hy))
 ·exact B8 (x.above y c (BK h))
 ·have hi:i < vs.length:=by
   unfold start at h2
   by_cases hi:i < vs.length
   ·exact hi
   ·rw[CD (by simpa using hi)] at h2
    rw[List.getElem?_replicate] at h2
    split at h2 <;> cases h2
  have ha:vs[i]? = some v:=by
   unfold start at h2
   rw[Bt (by simpa using hi),AW] at h2
   cases e:vs[i]? with
   | none=>rw[e] at h2;cases h2
   | some a=>rw[e] at h2;cases h2;rfl
  obtain⟨u,hu,rv⟩:=r.get ha
  have hp:ps[i]? = some y:=by
   rw[<- S.pre,List.getElem?_take_of_lt (by omega)];exact h1
  have ndP:ps.Nodup:=by rw[<- S.pre];exact S.nd.sublist (List.take_sublist _ _)
  refine⟨u,rv,?_⟩
  rcases S.par y (AV hp) with k | k
  ·exact .inl ⟨k,wG ndP hp hu k⟩
  ·obtain⟨c,e⟩:=yt (n:=s.heap.objs.size+1) k
   refine .inr ⟨.inl k,c,e,?_⟩
   have q:=x.cell y c e
   rw[wH ndP hp hu (by show scope.names.lookup y ≠ _;rw[k];decide)] at q
   exact q
 ·exact e0.hok.fresh (B8 (x.above y c (BK h)))
 ·unfold start
  show _=N.length
  rw[AI,AC,List.length_replicate]
  omega
theorem fn_of {CX:CXT} {P:Program} {w:World} {K:PySem.W.Frag} {mg:Str->Option Value} {base:Heap} {k:Nat} {f:Addr} {name qual:Str} {params:Arguments} {body:List Stmt} {scope:Scope} {dV kV doc pm cdv ct oc:Value} {an od:Option Addr}
  {osl:Array (Option Value)} {N ps:List Str} {sp:Sp} (lk:K.lookup f=some ⟨oc,od,.func (PySem.W.fnOf name qual params body scope dV kV doc pm an cdv ct),osl⟩) (hcd:PySem.W.codeIn K cdv qual=true) (S:zv N ps scope)
  (len:∀ vs H Q E,sp vs H Q E->vs.length=ps.length)
  (hbody:∀ (A:Around) (outer:List Env) (s:Shared) (H:Hp) (vs:List V) (Q:VK) (E:XK),jV k (A.deeper (envOfC qual scope s.heap.objs.size f cdv))->sp vs H Q E ->
   ∃ t,PSs (YM CX P w K mg base N qual scope f cdv A outer s H E) body t/\t { nx:=fun _ H'=>Q .non H',rt:=Q } (start N vs) H) :
  jj P w K mg base CX (k+1) f (PySem.W.fnOf name qual params body scope dV kV doc pm an cdv ct) ps sp:=by
 refine⟨len,fun A outer s H args us vs Q E hr e0 hb r hsp=>?_⟩
 have hl:=len _ _ _ _ hsp
 have KX:K.In s.heap:=e0.mod.kin.keeps fun b o e=>(e0.bs b o e).1
 have lim:s.heap.NoLimit:=e0.mod.nolimit.keeps fun b o e=>(e0.bs b o e).1
 have hkind:∀ y ∈ ps.zip us,scope.names.lookup y.1=some .local\/(scope.names.lookup y.1=some .cell/\((cellsFrom (s.heap.objs.size+1) scope.names []).lookup y.1).isSome=true):=fun ⟨n,v⟩ hy=>by
  rcases S.par n (D5 hy).1 with q | q
  ·exact .inl q
  ·exact .inr ⟨q,PySem.W.cellsFrom_some _ _ _ (.inl q)⟩
 refine codeAny_call_function hr.depth (KX _ _ lk) rfl S.co S.gen rfl (PySem.W.codeRec_of KX hcd) (hb _ _ _ _ ?_)
 refine wpAny_newFunctionEnv_cells S.kind hkind fun env he s1 x=>?_
 subst he
 refine⟨lim.keeps x.toInCall.keep,codeAny_func ?_⟩
 obtain⟨t,ht,hq⟩:=hbody A outer s H vs Q E (hr.deeper _) hsp
 have I:Inv (YM CX P w K mg base N qual scope f cdv A outer s H E) [] (start N vs) H s1:=xj S hr.hd e0 hl r x
 refine Bv (ht [] s1 (start N vs) H _ I hq) (fun fl s' hs=>?_) fun e s' hs=>hs
 have fin:∀ {σ':St} {H':Hp} {v:V} {u:Value},Inv (YM CX P w K mg base N qual scope f cdv A outer s H E) [] σ' H' s'->RelV v u->Q v H'->CE outer P w H s Q u s':=
  fun {σ' H' v u} J rv q=>⟨v,H',J.os,J.bare,J.base,J.hok,rv,q⟩
 cases fl with
 | ret u=>
  obtain⟨v,σ',H',J,rv,q⟩:=hs
  exact fin J rv q
 | next=>
  obtain⟨σ',H',J,q⟩:=hs
  exact fin (v:=V.non) (u:=Value.none) J rfl q
 | brk=>
  obtain⟨_,_,_,q⟩:=hs
  exact False.elim q
 | cont=>
  obtain⟨_,_,_,q⟩:=hs
  exact False.elim q
section
variable {X : Cx} {x : Str} {p pos : Pos} {e : Expr} {es : List Expr} {t : TA} {id T : String} {r : List V -> Hp -> VK -> Prop}
def tCB (r:List V->Hp->VK->Prop) (t:TA):TE:=fun σ H Q=>t σ H fun vs H1=>r vs H1 Q
theorem zo (hc:qA X (.builtin id) r) (hg:Gl X x) (hm:X.mg x=none) (hv:bootBuiltins x=some (.builtin id)) (ha:PA X (e :: es) t) (hn:x ≠ "__name__":=by decide) (hdb:(x == ("__debug__" : Str))=false:=by decide)
  (he:starEach (e :: es) X.env=(false,eval e X.env) :: starEach es X.env:=by rfl) (hpl:(backTo pos (starEach es X.env)).any (·.1)=false:=by rfl):PE X (.Call (.Name x p) (e :: es) [] pos) (tCB r t):=by
 intro pins s σ H Q I h
 refine CV (ZI I hg hm hv ?_ hn hdb)
 exact Dt (thn (ha pos pins s σ H _ I h) fun us s1 ⟨vs,H1,I1,r1,q1⟩=>hc pins s1 σ H1 vs us Q I1 r1 q1) he hpl
theorem zE (hc:qA X (.type T) r) (hg:Gl X x) (hm:X.mg x=none) (hv:bootBuiltins x=some (.type T)) (ha:PA X (e :: es) t) (hn:x ≠ "__name__":=by decide) (hdb:(x == ("__debug__" : Str))=false:=by decide)
  (he:starEach (e :: es) X.env=(false,eval e X.env) :: starEach es X.env:=by rfl) (hpl:(backTo pos (starEach es X.env)).any (·.1)=false:=by rfl):PE X (.Call (.Name x p) (e :: es) [] pos) (tCB r t):=by
 intro pins s σ H Q I h
 refine CV (ZI I hg hm hv ?_ hn hdb)
 exact BD (thn (ha pos pins s σ H _ I h) fun us s1 ⟨vs,H1,I1,r1,q1⟩=>hc pins s1 σ H1 vs us Q I1 r1 q1) he hpl
end
end L2
namespace HT
open PySem PyProof.Rows
section
open PySem.SeqAt
open PySem.AutoSeq1 (wpAny_loadPart')
open PySem.MeetsSeq PySem.MeetsSeq2 PySem.MeetsSeq3
end
section
variable {prog : Program} {w : World} {A : Around} {E : Value -> Shared -> Prop} {s : Shared}
theorem cat_tup {t b:Addr} {vs ws:List Value} {Q:Value->Shared->Prop} (ht:IsTup s.heap t vs.toArray) (hb:IsTup s.heap b ws.toArray) (hv:vs ≠ [])
  (h1:ws=[]->Q (.ref t) s) (h2:ws ≠ []->Q (.ref s.heap.objs.size) { s with heap:=s.heap.push { cls:=.type "tuple",data:=.seq (vs++ws).toArray } })
  (hsz:vs.length+ws.length<=sizeLine):wpAny (model prog w) A (binaryOp .Add (.ref t) (.ref b)) Q E s:=by
 obtain⟨⟨cls,dd,data,sl⟩,ho,hc,n,hd⟩:=id ht
 obtain⟨⟨cls2,dd2,data2,sl2⟩,ho2,hc2,n2,hd2⟩:=id hb
 simp only at hc hd hc2 hd2
 subst hc hd hc2 hd2
 have e:vs.toArray++ws.toArray=(vs++ws).toArray:=by simp
 by_cases hw:ws=[]
 ·exact concat_meets ⟨_,ho,rfl⟩ ⟨_,ho2,rfl⟩ noFill_tuple_add seq_tuple_add DB C8 (C3 _ _)
   (tuple_addW1 t b vs.toArray ws.toArray n n2 dd dd2 sl sl2 (by simpa using hv) (by simp[hw])) ⟨ho,ho2,h1 hw⟩
 ·refine concat_meets ⟨_,ho,rfl⟩ ⟨_,ho2,rfl⟩ noFill_tuple_add seq_tuple_add DB C8 (C3 _ _)
   (tuple_addW2 t b vs.toArray ws.toArray n n2 dd dd2 sl sl2 (by simpa using hv) (by simpa using hw) (by rw[List.size_toArray,List.size_toArray];exact hsz)) ⟨ho,ho2,?_⟩
  rw[e]
  exact h2 hw
def sIx (n d:Nat):Option Int->Nat
 | none=>d
 | some v=>if v < 0 then (v+(n:Int)).toNat else min v.toNat n
theorem sIx_none (n d:Nat):sIx n d none=d:=rfl
theorem sIx_nat (n d k:Nat):sIx n d (some (k:Int))=min k n:=by
 show (if (k:Int) < 0 then ((k:Int)+(n:Int)).toNat else min (k:Int).toNat n)=min k n
 rw[if_neg (by omega),BW]
theorem sIx_le (n d:Nat) (hd:d<=n) (o:Option Int):sIx n d o<=n:=by
 cases o with
 | none=>exact hd
 | some v=>
  show (if v < 0 then (v+(n:Int)).toNat else min v.toNat n)<=n
  by_cases hv:v < 0
  ·rw[if_pos hv];omega
  ·rw[if_neg hv];exact Nat.min_le_right _ _
theorem clip_eq (v:Int) (n d:Nat):(if v < 0 then max (v+(n:Int)) 0 else min v (n:Int))=((sIx n d (some v):Nat):Int):=by
 show (if v < 0 then max (v+(n:Int)) 0 else min v (n:Int))=(((if v < 0 then (v+(n:Int)).toNat else min v.toNat n):Nat):Int)
 by_cases hv:v < 0
 ·simp only[if_pos hv];omega
 ·simp only[if_neg hv];omega
theorem adjust_gen (lo hi:Option Int) (n:Nat):Builtin.Slice.sliceAdjust lo hi 1 (n:Int)=(((sIx n 0 lo:Nat):Int),((sIx n n hi:Nat):Int)):=by
 have h1:¬ ((1:Int) < 0):=by omega
 unfold Builtin.Slice.sliceAdjust
 simp only[h1,if_false]
 refine Prod.ext ?_ ?_
 ·cases lo with
  | none=>rfl
  | some v=>exact clip_eq v n 0
 ·cases hi with
  | none=>rfl
  | some v=>exact clip_eq v n n
theorem places_gen (i j:Nat):Builtin.Slice.slicePlaces (i:Int) (j:Int) 1=j - i:=by
 unfold Builtin.Slice.slicePlaces
 have h1:(1:Int) > 0:=by omega
 simp only[h1,if_true,Int.ediv_one]
 split <;> omega
theorem slicePart_ {v:Value} {o:Option Int} {Q:Option Int->Shared->Prop} (p:IsPart v o) (h:Q o s):wpAny (model prog w) A (Builtin.Slice.slicePartIndex v) Q E s:=by
 cases p with
 | none=>exact slicePart_none h
 | int i t=>exact slicePart_int h
theorem sliceApplied_gen {sl:Addr} {vl vu:Value} {lo hi:Option Int} {n:Nat} {Q:Int×Int×Nat->Shared->Prop} (hs:s.heap.IsSliceOf sl vl vu .none) (pl:IsPart vl lo) (pu:IsPart vu hi)
  (h:Q (((sIx n 0 lo:Nat):Int),1,sIx n n hi - sIx n 0 lo) s):wpAny (model prog w) A (Builtin.Slice.sliceApplied (.ref sl) (pure (n:Int))) Q E s:=by
 obtain⟨os,hos,hcs,hds⟩:=id hs
 unfold Builtin.Slice.sliceApplied Builtin.Slice.sliceFields
 refine AA (AA (Bq hos hds (x:=vl) rfl (AA (Bq hos hds (x:=vu) rfl (AA (Bq hos hds (x:=.none) rfl (AB ?_)))))))
 refine AA (slicePart_none ?_)
 show wpAny _ _ (if ((1:Int) == 0)=true then _ else _) _ _ s
 rw[if_neg (by decide)]
 refine AA (slicePart_ pl (AA (slicePart_ pu (AA (AB ?_)))))
 show wpAny _ _ (match Builtin.Slice.sliceAdjust lo hi 1 (n:Int) with | (lo,hi)=>pure (lo,(1:Int),Builtin.Slice.slicePlaces lo hi 1)) _ _ s
 rw[adjust_gen lo hi n]
 show wpAny _ _ (pure (((sIx n 0 lo:Nat):Int),(1:Int),Builtin.Slice.slicePlaces ((sIx n 0 lo:Nat):Int) ((sIx n n hi:Nat):Int) 1)) _ _ s
 rw[places_gen]
 exact AB h
theorem pick_gen (xs:Array Value) (i k:Nat):((List.range k).filterMap fun (m:Nat)=>xs[((i:Int)+(m:Int) * 1).toNat]?).toArray=((xs.toList.drop i).take k).toArray:=by
 have e:(fun (m:Nat)=>xs[((i:Int)+(m:Int) * 1).toNat]?)=fun m=>xs[i+m]?:=by
  funext m
  have:((i:Int)+(m:Int) * 1).toNat=i+m:=by omega
  rw[this]
 rw[e]
 have:=pick_run xs i k
 rw[List.filterMap_map] at this
 have e2:((fun x=>xs[x]?) ∘ fun x=>i+x)=fun m=>xs[i+m]?:=rfl
 rw[e2] at this
 rw[this]
theorem getItem_tuple_cut {t sl:Addr} {items:Array Value} {vl vu:Value} {lo hi:Option Int} {Q:Value->Shared->Prop} (ht:IsTup s.heap t items) (hs:s.heap.IsSliceOf sl vl vu .none) (pl:IsPart vl lo) (pu:IsPart vu hi)
  (hw:¬ (sIx items.size 0 lo=0/\sIx items.size items.size hi=items.size))
  (h:Q (.ref s.heap.objs.size) { s with heap:=s.heap.push { cls:=.type "tuple",data:=.seq ((items.toList.drop (sIx items.size 0 lo)).take (sIx items.size items.size hi - sIx items.size 0 lo)).toArray } })
  (hsz:items.size<=sizeLine):wpAny (model prog w) A (getItem (.ref t) (.ref sl)) Q E s:=by
 have htake:sizeOk (.seq ((items.toList.drop (sIx items.size 0 lo)).take (sIx items.size items.size hi - sIx items.size 0 lo)).toArray):=by
  show ((items.toList.drop (sIx items.size 0 lo)).take (sIx items.size items.size hi - sIx items.size 0 lo)).toArray.size<=sizeLine
  rw[Af,AZ,BS,Ad]
  omega
 have hj:sIx items.size items.size hi<=items.size:=sIx_le _ _ (AG _) hi
 obtain⟨os,hos,hcs,hds⟩:=id hs
 have hTs:s.TypeIs (.ref sl) "slice":=⟨os,hos,hcs⟩
 unfold getItem
 try with_reducible refine Ah ?_
 first | refine AA (AB ?_) | skip
 refine AA (wpAny_sequenceKey ht.typeIs (by decide) ?_)
 refine AA (wpAny_callSpecial?_slot (name:=Str.ofString "__getitem__") ht.typeIs BG
  (An BG ht.typeIs entry_tuple_getitem ?_ (args_tuple_getitem _ _)))
 show wpAny _ _ (Builtin.Tuple.tupleItemsOf (.ref t) >>= _) _ _ s
 refine AA (tupleItemsOf_ ht ?_)
 refine AA (Bp hTs ?_)
 rw[if_pos (by decide)]
 refine AA (sliceApplied_gen hs pl pu ?_)
 have hno:¬ ((((sIx items.size 0 lo:Nat):Int) == 0 && (1:Int) == 1 && (sIx items.size items.size hi - sIx items.size 0 lo) == items.size)=true):=by
  intro q
  rw[B6,B6] at q
  have q1:((sIx items.size 0 lo:Nat):Int)=0:=eq_of_beq q.1.1
  have q2:sIx items.size items.size hi - sIx items.size 0 lo=items.size:=eq_of_beq q.2
  exact hw ⟨by omega,by omega⟩
 show wpAny _ _ (if (((sIx items.size 0 lo:Nat):Int) == 0 && (1:Int) == 1 && (sIx items.size items.size hi - sIx items.size 0 lo) == items.size)=true then _ else _) _ _ s
 rw[if_neg hno,pick_gen]
 first
  | exact AA (m:=Builtin.Tuple.tupleExact _) (Aj (AB ⟨_,rfl,AB h⟩) htake)
  | exact AA (m:=Builtin.Tuple.tupleExact _) (Aj (AA (AB (AB ⟨_,rfl,AB h⟩))) htake)
  | exact AA (AA (m:=Builtin.Tuple.tupleExact _) (Aj (AB (AB ⟨_,rfl,AB h⟩)) htake))
  | exact AA (AA (m:=Builtin.Tuple.tupleExact _) (Aj (AB ⟨_,rfl,AB h⟩) htake))
end
end HT
namespace L2
open PySem PySem.Spec PyProof.Rows
abbrev TO:=St->Hp->(Option Int->Hp->Prop)->Prop
def PO (X:Cx) (e:Option Expr) (t:TO):Prop:=
 ∀ (pins:List (Addr×Obj)) (s:Shared) (σ:St) (H:Hp) (Q:Option Int->Hp->Prop),Inv X pins σ H s->t σ H Q ->
  wpAny (model X.prog X.w) X.A (evalPart e X.env) (fun u s'=>∃ o H',Inv X pins σ H' s'/\IsPart u o/\Q o H') X.xe s
def xk:TO:=fun _ H Q=>Q none H
def tPart (t:TE):TO:=fun σ H Q=>t σ H fun x H1=>∃ i,x=.int i/\Q (some i) H1
theorem intsAre_of {ns:List Int}:∀ {us:List Value},zX (ns.map V.int) us->IntsAre us ns:=by
 induction ns with
 | nil=>intro us r;rw[DD] at r;cases r;exact .nil
 | cons n ns ih=>
  intro us r
  rw[AQ] at r
  cases r with
  | cons r1 r2=>
   obtain⟨t,e⟩:=r1
   subst e
   exact .cons n t (ih r2)
section
variable {X : Cx} {e : Expr} {te : TE} {lo hi : Option Expr} {tl th : TO} {pos p2 : Pos}
theorem jb:PO X none xk:=by
 intro pins s σ H Q I h
 rw[evalPart_none]
 exact AB ⟨none,H,I,.none,h⟩
theorem jc (h:PE X e te):PO X (some e) (tPart te):=by
 intro pins s σ H Q I hw
 rw[evalPart_some]
 refine thn (h pins s σ H _ I hw) fun u s1 ⟨x,H1,I1,r1,q1⟩=>?_
 obtain⟨i,rfl,q⟩:=q1
 obtain⟨t,rfl⟩:=r1
 exact⟨some i,H1,I1,.int i t,q⟩
def SlR (X:Cx) (r:V->Option Int->Option Int->Hp->VK->Prop):Prop:=
 ∀ (pins:List (Addr×Obj)) (s:Shared) (σ:St) (H:Hp) (x:V) (v vl vu:Value) (lo hi:Option Int) (sl:Addr) (Q:VK),Inv X pins σ H s->RelV x v->s.heap.IsSliceOf sl vl vu .none->IsPart vl lo->IsPart vu hi->r x lo hi H Q ->
  ∃ T id,typeLookup (.type T) "__getitem__" = pure (some (.builtin id))/\s.TypeIs v T/\wpAny (model X.prog X.w) X.A (getItem v (.ref sl)) (EP X pins σ Q) X.xe s
theorem SlR.or {r r':V->Option Int->Option Int->Hp->VK->Prop} (h:SlR X r) (h':SlR X r'):SlR X (fun x lo hi H Q=>r x lo hi H Q\/r' x lo hi H Q):=by
 intro pins s σ H x v vl vu lo hi sl Q I rx hs pl pu q
 rcases q with q | q
 ·exact h pins s σ H x v vl vu lo hi sl Q I rx hs pl pu q
 ·exact h' pins s σ H x v vl vu lo hi sl Q I rx hs pl pu q
def tSl (r:V->Option Int->Option Int->Hp->VK->Prop) (te:TE) (tl th:TO):TE:=fun σ H Q=>te σ H fun x H1=>tl σ H1 fun l H2=>th σ H2 fun u H3=>r x l u H3 Q
theorem qx {r:V->Option Int->Option Int->Hp->VK->Prop} (hr:SlR X r) (he:PE X e te) (hl:PO X lo tl) (hu:PO X hi th):PE X (.Subscript e (.Slice lo hi none p2) pos) (tSl r te tl th):=by
 intro pins s σ H Q I h
 refine Subscript_ (thn (he pins s σ H _ I h) fun v s1 ⟨x,H1,I1,r1,q1⟩=>?_)
 refine wpAny_Slice (thn (hl pins s1 σ H1 _ I1 q1) fun vl s2 ⟨l,H2,I2,pl,q2⟩=>thn (hu pins s2 σ H2 _ I2 q2) fun vu s3 ⟨u,H3,I3,pu,q3⟩=>?_)
 rw[evalPart_none]
 refine AB ?_
 have I4:Inv X pins σ H3 { s3 with heap:=s3.heap.push { cls:=.type "slice",data:=.fields #[vl,vu,.none] } }:=I3.kept (t':=s3.toks) fun b ob q=>AD _ q
 obtain⟨T,id,hT,ht,hg⟩:=hr pins { s3 with heap:=s3.heap.push { cls:=.type "slice",data:=.fields #[vl,vu,.none] } } σ H3 x v vl vu l u s3.heap.objs.size Q I4 r1 (Heap.IsSliceOf.new ..) pl pu q3
 show wpAny (model X.prog X.w) X.A (subscriptTail e (.Slice lo hi none p2) v (.ref s3.heap.objs.size)) (EP X pins σ Q) X.xe { s3 with heap:=s3.heap.push { cls:=.type "slice",data:=.fields #[vl,vu,.none] } }
 exact tail_any (ops:=[.ref s3.heap.objs.size,v]) ht hT hg (by with_unfolding_all rfl)
def wu (xs:List V) (lo hi:Option Int):List V:=(xs.drop (HT.sIx xs.length 0 lo)).take (HT.sIx xs.length xs.length hi - HT.sIx xs.length 0 lo)
theorem Zu (xs:List V) (lo hi:Option Int):(wu xs lo hi).length<=xs.length:=by
 unfold wu
 rw[AZ,BS]
 omega
def rSlT (K:PySem.W.Frag):V->Option Int->Option Int->Hp->VK->Prop:=fun x lo hi H Q=>∃ a xs,x=.ref a/\SqT K H a xs /\
 ¬ (HT.sIx xs.length 0 lo=0/\HT.sIx xs.length xs.length hi=xs.length)/\∀ p,H p=none->Q (.ref p) (upd H p (.tup (wu xs lo hi)))
theorem sl_tup:SlR X (rSlT X.K):=by
 intro pins s σ H x v vl vu lo hi sl Q I rx hs pl pu h
 obtain⟨a,xs,rfl,hx,hw,q⟩:=h
 cases rx
 obtain⟨its,r,ht,hz⟩:=I.tuple hx
 have hlen:its.toArray.size=xs.length:=by rw[Af];exact r.length.symm
 refine⟨"tuple",_,BG.lookup,ht.typeIs,?_⟩
 refine HT.getItem_tuple_cut ht hs pl pu (by rw[hlen];exact hw) ?_ (by rw[hlen];exact hz)
 rw[hlen]
 refine⟨.ref s.heap.objs.size,_,I.laid (t':=s.toks) (o:=.tup (wu xs lo hi)) (fun b ob q=>AD _ q) (AG _) ?_,rfl,q _ (I.hok.fresh (AG _))⟩
 exact⟨Ag (Zu xs lo hi) hz,_,(r.drop (HT.sIx xs.length 0 lo)).take (HT.sIx xs.length xs.length hi - HT.sIx xs.length 0 lo),PTup.new _ _⟩
def rCatT (K:PySem.W.Frag):R2:=fun x y H Q=>∃ a b xs ys,x=.ref a/\y=.ref b/\SqT K H a xs/\SqT K H b ys/\xs ≠ []/\xs.length+ys.length<=sizeLine /\
 (ys=[]->Q (.ref a) H)/\(ys ≠ []->∀ p,H p=none->Q (.ref p) (upd H p (.tup (xs++ys))))
theorem zX.nil_iff {xs:List V} {us:List Value} (r:zX xs us):us=[] ↔ xs=[]:=by
 cases r with
 | nil=>simp
 | cons _ _=>simp
theorem op_catT:OpR X (binaryOp .Add) (rCatT X.K):=by
 intro pins s σ H x y v u Q I rx ry h
 obtain⟨a,b,xs,ys,rfl,rfl,ha,hb,hx,hz,q1,q2⟩:=h
 cases rx
 cases ry
 obtain⟨its,r1,p1,_⟩:=I.tuple ha
 obtain⟨its2,r2,p2,_⟩:=I.tuple hb
 refine HT.cat_tup p1 p2 (fun z=>hx (r1.nil_iff.mp z)) (fun z=>⟨.ref a,H,I,rfl,q1 (r2.nil_iff.mp z)⟩) (fun z=>?_) (by rw[<- r1.length,<- r2.length];exact hz)
 refine⟨.ref s.heap.objs.size,_,I.laid (t':=s.toks) (o:=.tup (xs++ys)) (fun b ob q=>AD _ q) (AG _) ?_,rfl,q2 (fun w=>z (r2.nil_iff.mpr w)) _ (I.hok.fresh (AG _))⟩
 exact⟨by rw[AI];exact hz,_,r1.append r2,PTup.new _ _⟩
end
def ixN (n:Nat) (i:Int):Option Nat:=if 0<=i then (if i < n then some i.toNat else none) else if -(n:Int)<=i then some (i+n).toNat else none
def atI {α:Type} (xs:List α) (i:Int):Option α:=(ixN xs.length i).bind fun j=>xs[j]?
theorem xl {n:Nat} {i:Int} {j:Nat} (h:ixN n i=some j):seqIndex? i n=some j/\j < n /\ -(n:Int)<=i/\i < n:=by
 unfold ixN at h
 by_cases h0:0<=i
 ·rw[if_pos h0] at h
  by_cases h1:i < n
  ·rw[if_pos h1] at h
   have e:i.toNat=j:=AL h
   exact⟨by rw[seqIndex_of h0 h1,e],by omega,by omega,h1⟩
  ·rw[if_neg h1] at h;cases h
 ·rw[if_neg h0] at h
  by_cases h1:-(n:Int)<=i
  ·rw[if_pos h1] at h
   have e:(i+n).toNat=j:=AL h
   exact⟨by rw[seqIndex_neg (by omega) h1,e],by omega,h1,by omega⟩
  ·rw[if_neg h1] at h;cases h
theorem WL {α:Type} {xs:List α} {i:Int} {v:α} (h:atI xs i=some v):∃ j,seqIndex? i xs.length=some j/\xs[j]? = some v/\j < xs.length /\ -(xs.length:Int)<=i/\i < xs.length:=by
 unfold atI at h
 cases e:ixN xs.length i with
 | none=>rw[e] at h;cases h
 | some j=>
  rw[e] at h
  obtain⟨h1,h2,h3,h4⟩:=xl e
  exact⟨j,h1,h,h2,h3,h4⟩
theorem qQ {α:Type} {xs:List α} {j:Nat} {v:α} (h:xs[j]? = some v):atI xs (j:Int)=some v:=by
 have hj:j < xs.length:=(AE.mp h).1
 have e:ixN xs.length (j:Int)=some j:=by
  unfold ixN
  rw[if_pos (by omega),if_pos (by omega)];simp
 unfold atI;rw[e];exact h
def PlainIx (b:Expr):Prop:=∀ o i,subscripted b false o i=operate [o,i] (getItem o i)
def IxR (X:Cx) (r:R2):Prop:=
 ∀ (value slice:Expr) (pins:List (Addr×Obj)) (s:Shared) (σ:St) (H:Hp) (x y:V) (v u:Value) (Q:VK),Inv X pins σ H s->RelV x v->RelV y u->r x y H Q ->
  subscripted slice false v u=operate [v,u] (getItem v u)->wpAny (model X.prog X.w) X.A (subscriptTail value slice v u) (EP X pins σ Q) X.xe s
def MtR (X:Cx) (id:String) (r:V->List V->Hp->VK->Prop):Prop:=
 ∀ (pins:List (Addr×Obj)) (s:Shared) (σ:St) (H:Hp) (x:V) (xs:List V) (v:Value) (us:List Value) (Q:VK),Inv X pins σ H s->RelV x v->zX xs us->r x xs H Q ->
  wpAny (model X.prog X.w) X.A (call (.builtin id) (v :: us)) (EP X pins σ Q) X.xe s
section
variable {X : Cx} {a b : Expr} {ta tb : TE} {pos : Pos}
theorem IxR.or {r r':R2} (h:IxR X r) (h':IxR X r'):IxR X (fun x y H Q=>r x y H Q\/r' x y H Q):=by
 intro value slice pins s σ H x y v u Q I rx ry q hs
 rcases q with q | q
 ·exact h value slice pins s σ H x y v u Q I rx ry q hs
 ·exact h' value slice pins s σ H x y v u Q I rx ry q hs
theorem zu {r:R2} (hr:IxR X r) (ha:PE X a ta) (hb:PE X b tb) (hs:PlainIx b):PE X (.Subscript a b pos) (tOp r ta tb):=by
 intro pins s σ H Q I h
 exact Subscript_ (binT ha hb I h fun v u s2 x y H2 I2 rx ry q=>hr a b pins s2 σ H2 x y v u Q I2 rx ry q (hs _ _))
def rIxL (K:PySem.W.Frag):R2:=fun x y H Q=>∃ p xs i v,x=.ref p/\y=.int i/\SqL K H p xs/\atI xs i=some v/\Q v H
def rIxT (K:PySem.W.Frag):R2:=fun x y H Q=>∃ p xs i v,x=.ref p/\y=.int i/\SqT K H p xs/\atI xs i=some v/\Q v H
def rIxS:R2:=fun x y H Q=>∃ z i c,x=.str z/\y=.int i/\z.length<=sizeLine/\atI z.cps.toList i=some c/\Q (.str ⟨#[c]⟩) H
theorem ix_list:IxR X (rIxL X.K):=by
 intro value slice pins s σ H x y v u Q I rx ry h hs
 obtain⟨p,xs,i,z,rfl,rfl,hq,he,q⟩:=h
 cases rx
 obtain⟨t,rfl⟩:=ry
 obtain⟨its,r,pl,hz⟩:=I.list hq
 obtain⟨j,h1,h2,h3,h4,h5⟩:=WL he
 obtain⟨w,ew,rw'⟩:=r.get h2
 have hl:=r.length
 have hn:=wC
 have fin:EP X pins σ Q w s:=⟨z,H,I,rw',q⟩
 by_cases h0:0<=i
 ·have hj:i.toNat=j:=by
   rw[seqIndex_of h0 h5] at h1
   exact AL h1
  exact item_listR pl.isList h0 (by omega) (by rw[hj];simpa using ew) fin hs
 ·have hj:(i+(its.toArray.size:Int)).toNat=j:=by
   rw[seqIndex_neg (by omega) h4] at h1
   rw[Af,<- hl]
   exact AL h1
  exact subscriptTail_builtinR (x:=w) pl.isList.typeIs slot_list_getitem.lookup
   (wpAny_getItem_list_neg (Q:=fun r s'=>r=w/\EP X pins σ Q r s') pl.isList (by omega) (by rw[Af] <;> omega) (by omega) (by rw[hj];simpa using ew) ⟨rfl,fin⟩) hs
theorem ix_tup:IxR X (rIxT X.K):=by
 intro value slice pins s σ H x y v u Q I rx ry h hs
 obtain⟨p,xs,i,z,rfl,rfl,hq,he,q⟩:=h
 cases rx
 obtain⟨t,rfl⟩:=ry
 obtain⟨its,r,pl,hz⟩:=I.tuple hq
 obtain⟨j,h1,h2,h3,h4,h5⟩:=WL he
 obtain⟨w,ew,rw'⟩:=r.get h2
 have hl:=r.length
 have hn:=wC
 have fin:EP X pins σ Q w s:=⟨z,H,I,rw',q⟩
 exact subscriptTail_builtinR (x:=w) pl.typeIs slot_tuple_getitem.lookup
  (getItem_tuple (j:=j) (Q:=fun r s'=>r=w/\EP X pins σ Q r s') pl (by omega) (by omega) (by rw[Af,<- hl];exact h1) (by simpa using ew) ⟨rfl,fin⟩) hs
theorem ix_str:IxR X rIxS:=by
 intro value slice pins s σ H x y v u Q I rx ry h hs
 obtain⟨z,i,c,rfl,rfl,hz,he,q⟩:=h
 obtain⟨t,rfl⟩:=rx
 obtain⟨t',rfl⟩:=ry
 obtain⟨j,h1,h2,h3,h4,h5⟩:=WL he
 have hl:z.cps.toList.length=z.length:=by simp[Str.length]
 rw[hl] at h1 h4 h5
 have hn:=wC
 exact tail_any (typeIs_str s z t) slot_str_getitem.lookup (getItem_str (c:=c) (by
  have e1:decide (i < -(2 ^ 63:Int))=false:=Ay (by omega)
  have e2:decide (i ≥ 2 ^ 63)=false:=Ay (by omega)
  rw[e1,e2,Bool.or_false]) (by rw[h1];simpa using h2) ⟨.str ⟨#[c]⟩,H,I.tok _,⟨_,rfl⟩,q⟩) hs
def rIx (K:PySem.W.Frag):R2:=fun x y H Q=>rIxL K x y H Q\/rIxT K x y H Q\/rIxS x y H Q
theorem ix_seq:IxR X (rIx X.K):=ix_list.or (ix_tup.or ix_str)
theorem yY (its:List Value) (n j:Nat) (u:Value):Obj.mapSeq (·.setIfInBounds j u) { cls:=.type "list",data:=.seq its.toArray n } = { cls:=.type "list",data:=.seq (its.set j u).toArray n }:=by
 simp[Obj.mapSeq]
theorem Inv.lst {pins:List (Addr×Obj)} {σ:St} {H:Hp} {s:Shared} {p:Addr} {xs:List V} (I:Inv X pins σ H s) (h:H p=some (.lst xs)) :
  ∃ (its:List Value) (n:Nat),zX xs its/\s.heap.get? p=some { cls:=.type "list",data:=.seq its.toArray n }/\xs.length<=sizeLine:=by
 obtain⟨z,its,n,r,e⟩:=I.hok p _ h
 exact⟨its,n,r,e,z⟩
theorem Inv.lstUpd {pins:List (Addr×Obj)} {σ:St} {H:Hp} {s:Shared} {p:Addr} {xs ys:List V} {its its':List Value} {n n':Nat} {f:Obj->Obj} (I:Inv X pins σ H s) (h:H p=some (.lst xs))
  (ho:s.heap.get? p=some { cls:=.type "list",data:=.seq its.toArray n }) (hf:f { cls:=.type "list",data:=.seq its.toArray n } = { cls:=.type "list",data:=.seq its'.toArray n' }) (r:zX ys its') (hz:ys.length<=sizeLine) (t:Nat) :
  Inv X pins σ (upd H p (.lst ys)) { s with heap:=s.heap.update p f,toks:=t }:=by
 have e:(s.heap.update p f).get? p=some { cls:=.type "list",data:=.seq its'.toArray n' }:=by
  rw[Ae f ho (by rw[hf] <;> rfl),hf]
 refine I.write (x:=p) (e:=p) (by rw[h];trivial) (.inl rfl) (fun b u hb q=>(A4 _ _ (Am hb)).trans q) ⟨_,e⟩ ?_
 exact⟨hz,its',n',r,e⟩
def rSetL:V->V->V->Hp->(Hp->Prop)->Prop:=fun o i v H Q=>∃ p xs k j,o=.ref p/\i=.int k/\H p=some (.lst xs)/\ixN xs.length k=some j/\Q (upd H p (.lst (xs.set j v)))
theorem JS:PSet X rSetL:=by
 intro pins s σ H o i v ov iv u Q I ro ri rv h
 obtain⟨p,xs,k,j,rfl,rfl,hp,hj,q⟩:=h
 cases ro
 obtain⟨t,rfl⟩:=ri
 obtain⟨its,n,r,ho,hz⟩:=I.lst hp
 obtain⟨h1,h2,h3,h4⟩:=xl hj
 have hl:=r.length
 have hn:=wC
 have I':Inv X pins σ (upd H p (.lst (xs.set j v))) { s with heap:=s.heap.update p (Obj.mapSeq (·.setIfInBounds j u)) }:=
  I.lstUpd hp ho (yY its n j u) (r.set rv j) (by rw[List.length_set];exact hz) s.toks
 by_cases h0:0<=k
 ·have hk:k.toNat=j:=by
   rw[seqIndex_of h0 h4] at h1
   exact AL h1
  exact PySem.W.ki_setAt ho h0 (by omega) (by rw[Af,<- hl];exact h4) (by rw[hk];exact⟨_,I',q⟩)
 ·have hk:(k+(its.toArray.size:Int)).toNat=j:=by
   rw[seqIndex_neg (by omega) h3] at h1
   rw[Af,<- hl]
   exact AL h1
  exact PySem.W.ki_setBack ho (by omega) (by rw[Af,<- hl];exact h3) (by omega) (by rw[hk];exact⟨_,I',q⟩)
theorem wI (lo hi:Option Int) (n:Nat):(sliceBounds lo hi none n).1=((HT.sIx n 0 lo:Nat):Int)/\(sliceBounds lo hi none n).2.1=((HT.sIx n n hi:Nat):Int)/\(sliceBounds lo hi none n).2.2=1:=by
 refine⟨?_,?_,rfl⟩
 ·cases lo with
  | none=>simp[sliceBounds,HT.sIx]
  | some i=>
   simp only[sliceBounds,HT.sIx,Option.getD_none,show (1:Int) > 0 by decide,if_true]
   by_cases h:i < 0
   ·simp only[h,if_true] <;> omega
   ·simp only[h,if_false] <;> omega
 ·cases hi with
  | none=>simp[sliceBounds,HT.sIx]
  | some i=>
   simp only[sliceBounds,HT.sIx,Option.getD_none,show (1:Int) > 0 by decide,if_true]
   by_cases h:i < 0
   ·simp only[h,if_true] <;> omega
   ·simp only[h,if_false] <;> omega
theorem JT (its:List Value) (lo hi:Option Int):slicePick its.toArray lo hi none=((its.drop (HT.sIx its.length 0 lo)).take (HT.sIx its.length its.length hi - HT.sIx its.length 0 lo)).toArray:=by
 obtain⟨h1,h2,h3⟩:=wI lo hi its.toArray.size
 unfold slicePick
 rw[h1,h2,h3]
 simp only[sliceRange_one,pick_run,List.size_toArray] <;> rfl
def rSlL (K:PySem.W.Frag):V->Option Int->Option Int->Hp->VK->Prop:=fun x lo hi H Q=>∃ a xs,x=.ref a/\SqL K H a xs/\∀ p,H p=none->Q (.ref p) (upd H p (.lst (wu xs lo hi)))
theorem sl_list:SlR X (rSlL X.K):=by
 intro pins s σ H x v vl vu lo hi sl Q I rx hs pl pu h
 obtain⟨a,xs,rfl,hx,q⟩:=h
 cases rx
 obtain⟨its,r,ht,hz⟩:=I.list hx
 have hlen:=r.length
 refine⟨"list",_,slot_list_getitem.lookup,ht.isList.typeIs,?_⟩
 refine wpAny_getItem_list_slice ht.isList hs pl pu .none (by simp) ?_ (by rw[List.size_toArray] <;> omega)
 rw[JT,<- hlen]
 refine⟨.ref s.heap.objs.size,_,I.laid (t':=s.toks) (o:=.lst (wu xs lo hi)) (fun b ob q=>AD _ q) (AG _) ?_,rfl,q _ (I.hok.fresh (AG _))⟩
 exact⟨Ag (Zu xs lo hi) hz,_,0,(r.drop (HT.sIx xs.length 0 lo)).take (HT.sIx xs.length xs.length hi - HT.sIx xs.length 0 lo),AH _ rfl⟩
def Zv:V->Bool
 | .non=>true
 | .bl _=>true
 | .int _=>true
 | .str _=>true
 | _=>false
def eqV:V->V->Bool
 | .non,.non=>true
 | .bl a,.bl b=>a == b
 | .bl a,.int b=>(if a then 1 else 0) == b
 | .int a,.bl b=>a == (if b then 1 else 0)
 | .int a,.int b=>a == b
 | .str a,.str b=>a == b
 | _,_=>false
theorem eqAt_V {A:Around} {s:Shared} {y x:V} {u v:Value} (ry:RelV y u) (rx:RelV x v) (fy:Zv y=true) (fx:Zv x=true):SeqAt.EqAt A s u v (eqV y x):=by
 cases y with
 | non=>
  cases ry
  cases x with
  | non=>cases rx;exact SeqAt.EqAt.same _
  | bl b=>cases rx;exact SeqAt.EqAt.none_bool b
  | int b=>obtain⟨t,rfl⟩:=rx;exact SeqAt.EqAt.none_int b t
  | str b=>obtain⟨t,rfl⟩:=rx;exact SeqAt.EqAt.none_str b t
  | _=>exact absurd (show false=true from fx) AY
 | bl a=>
  cases ry
  cases x with
  | non=>cases rx;exact SeqAt.EqAt.bool_none a
  | bl b=>cases rx;exact SeqAt.EqAt.bool_bool a b
  | int b=>obtain⟨t,rfl⟩:=rx;exact SeqAt.EqAt.bool_int a b t
  | str b=>obtain⟨t,rfl⟩:=rx;exact SeqAt.EqAt.bool_str a b t
  | _=>exact absurd (show false=true from fx) AY
 | int a=>
  obtain⟨t',rfl⟩:=ry
  cases x with
  | non=>cases rx;exact SeqAt.EqAt.int_none a t'
  | bl b=>cases rx;exact SeqAt.EqAt.int_bool a t' b
  | int b=>obtain⟨t,rfl⟩:=rx;exact SeqAt.EqAt.int_int a t' b t
  | str b=>obtain⟨t,rfl⟩:=rx;exact SeqAt.EqAt.int_str a t' b t
  | _=>exact absurd (show false=true from fx) AY
 | str a=>
  obtain⟨t',rfl⟩:=ry
  cases x with
  | non=>cases rx;exact SeqAt.EqAt.str_none a t'
  | bl b=>cases rx;exact SeqAt.EqAt.str_bool a t' b
  | int b=>obtain⟨t,rfl⟩:=rx;exact SeqAt.EqAt.str_int a t' b t
  | str b=>obtain⟨t,rfl⟩:=rx;exact SeqAt.EqAt.str_str a t' b t
  | _=>exact absurd (show false=true from fx) AY
 | _=>exact absurd (show false=true from fy) AY
def eqU (x:V) (u:Value):Bool:=match u with
 | .none=>eqV .non x
 | .bool b=>eqV (.bl b) x
 | .int i _=>eqV (.int i) x
 | .str z _=>eqV (.str z) x
 | _=>false
theorem eqU_of {x y:V} {u:Value} (r:RelV y u) (f:Zv y=true):eqU x u=eqV y x:=by
 cases y with
 | non=>cases r;rfl
 | bl b=>cases r;rfl
 | int i=>obtain⟨t,rfl⟩:=r;rfl
 | str z=>obtain⟨t,rfl⟩:=r;rfl
 | _=>exact absurd (show false=true from f) AY
theorem QH {x:V}:∀ {xs:List V} {us:List Value},zX xs us->xs.all Zv=true->us.any (eqU x)=xs.any fun y=>eqV y x
 | _,_,.nil,_=>rfl
 | y :: xs,u :: us,.cons r t,f=>by
  rw[Cc,B6] at f
  rw[B1,B1,eqU_of r f.1,QH t f.2]
theorem ZL {A:Around} {s:Shared} {x:V} {v:Value} (rx:RelV x v) (fx:Zv x=true):∀ {xs:List V} {us:List Value},zX xs us->xs.all Zv=true->∀ u ∈ us,SeqAt.EqAt A s u v (eqU x u)
 | _,_,.nil,_=>fun u hu=>by cases hu
 | y :: xs,u :: us,.cons r t,f=>fun u' hu=>by
  rw[Cc,B6] at f
  rcases AR.mp hu with rfl | hu
  ·rw[eqU_of r f.1];exact eqAt_V r rx f.1 fx
  ·exact ZL rx fx t f.2 u' hu
def inV (x:V) (xs:List V):Bool:=xs.any fun y=>eqV y x
def rIn (K:PySem.W.Frag) (neg:Bool):R2:=fun x y H Q=>∃ p xs,y=.ref p/\(SqL K H p xs\/SqT K H p xs)/\Zv x=true/\xs.all Zv=true/\Q (.bl (if neg then !inV x xs else inV x xs)) H
theorem xm:OpR X (compareOp .In) (rIn X.K false):=by
 intro pins s σ H x y v u Q I rx ry h
 obtain⟨p,xs,rfl,hq,fx,fs,q⟩:=h
 cases ry
 rcases hq with hq | hq
 ·obtain⟨its,r,pl,hz⟩:=I.list hq
  refine SeqAt.in_listAt (eqU x) pl.isList (fun w hw=>ZL rx fx r fs w (by simpa using hw)) ⟨.bl _,H,I,rfl,?_⟩
  rw[show its.toArray.any (eqU x)=its.any (eqU x) by simp,QH r fs]
  exact q
 ·obtain⟨its,r,pl,hz⟩:=I.tuple hq
  refine SeqAt.in_tupleAt (eqU x) pl (fun w hw=>ZL rx fx r fs w (by simpa using hw)) ⟨.bl _,H,I,rfl,?_⟩
  rw[show its.toArray.any (eqU x)=its.any (eqU x) by simp,QH r fs]
  exact q
theorem wJ:OpR X (compareOp .NotIn) (rIn X.K true):=by
 intro pins s σ H x y v u Q I rx ry h
 obtain⟨p,xs,rfl,hq,fx,fs,q⟩:=h
 cases ry
 rcases hq with hq | hq
 ·obtain⟨its,r,pl,hz⟩:=I.list hq
  refine SeqAt.notIn_listAt (eqU x) pl.isList (fun w hw=>ZL rx fx r fs w (by simpa using hw)) ⟨.bl _,H,I,rfl,?_⟩
  rw[show its.toArray.any (eqU x)=its.any (eqU x) by simp,QH r fs]
  exact q
 ·obtain⟨its,r,pl,hz⟩:=I.tuple hq
  refine SeqAt.notIn_tupleAt (eqU x) pl (fun w hw=>ZL rx fx r fs w (by simpa using hw)) ⟨.bl _,H,I,rfl,?_⟩
  rw[show its.toArray.any (eqU x)=its.any (eqU x) by simp,QH r fs]
  exact q
theorem wK:qA X (.type "list") (fun xs H Q=>∃ p ys,xs=[.ref p]/\(SqL X.K H p ys\/SqT X.K H p ys)/\∀ l,H l=none->Q (.ref l) (upd H l (.lst ys))):=by
 intro pins s σ H xs us Q I r h
 obtain⟨p,ys,rfl,hq,q⟩:=h
 obtain⟨u,rfl,rx⟩:=vals1 r
 cases rx
 have fin:∀ (its:List Value),zX ys its->ys.length<=sizeLine->∀ (h':Heap) (c':Nat),(∀ b o',s.heap.get? b=some o'->h'.get? b=some o') ->
   h'.get? s.heap.objs.size=some { cls:=.type "list",dict:=none,data:=.seq its.toArray c',slots:=#[] }->EP X pins σ Q (.ref s.heap.objs.size) { s with heap:=h' }:=fun its r' hz h' c' kp e=>
  ⟨.ref s.heap.objs.size,_,I.laid (t':=s.toks) kp (AG _) (show qd X.prog X.w _ h' _ (.lst ys) from⟨hz,its,c',r',e⟩),rfl,q _ (I.hok.fresh (AG _))⟩
 rcases hq with hq | hq
 ·obtain⟨its,r',pl,hz⟩:=I.list hq
  have hlen:=r'.length
  obtain⟨o,ho,hc,n,hd⟩:=pl.isList
  exact call_list_seq p (.inl rfl) ho hc hd (fun h' c' kp e=>fin its r' hz h' c' kp e) (by simp only[List.size_toArray] <;> omega)
 ·obtain⟨its,r',pl,hz⟩:=I.tuple hq
  have hlen:=r'.length
  obtain⟨o,ho,hc,n,hd⟩:=pl
  exact call_list_seq p (.inr rfl) ho hc hd (fun h' c' kp e=>fin its r' hz h' c' kp e) (by simp only[List.size_toArray] <;> omega)
theorem JU:qA X (.type "tuple") (fun xs H Q=>∃ p ys,xs=[.ref p]/\((SqL X.K H p ys/\∀ l,H l=none->Q (.ref l) (upd H l (.tup ys)))\/(SqT X.K H p ys/\Q (.ref p) H))):=by
 intro pins s σ H xs us Q I r h
 obtain⟨p,ys,rfl,h⟩:=h
 obtain⟨u,rfl,rx⟩:=vals1 r
 cases rx
 rcases h with ⟨hq,q⟩ | ⟨hq,q⟩
 ·obtain⟨its,r',pl,hz⟩:=I.list hq
  have hlen:=r'.length
  refine call_tuple_list pl.isList (fun h' kp=>?_) (by simp only[List.size_toArray] <;> omega)
  have I1:Inv X pins σ H { s with heap:=h' }:=I.kept (t':=s.toks) kp
  have I2:Inv X pins σ (upd H h'.objs.size (.tup ys)) { s with heap:=h'.push { cls:=.type "tuple",data:=.seq its.toArray } }:=
   I1.laid (t':=s.toks) (fun b o e=>AD _ e) (AG _) (show qd X.prog X.w _ _ _ (.tup ys) from⟨hz,its,r',PTup.new _ _⟩)
  exact⟨.ref h'.objs.size,_,I2,rfl,q _ (I1.hok.fresh (AG _))⟩
 ·obtain⟨its,r',pl,hz⟩:=I.tuple hq
  exact call_tuple_same pl ⟨.ref p,H,I,rfl,q⟩
def tyV (K:PySem.W.Frag) (T:String) (x:V) (H:Hp):Prop:=match x with
 | .str _=>T = "str"
 | .int _=>T = "int"
 | .ref p=>(T = "list" /\ ∃ xs,SqL K H p xs)\/(T = "tuple" /\ ∃ o,K.lookup p=some o/\o.cls=.type "tuple" /\ o.dict=none) \/
   (T = "dict" /\ ((∃ kvs,H p=some (.dK kvs))\/∃ kvs,H p=some (.dT kvs)))\/(T = "set" /\ ∃ S n,H p=some (.set S n))\/(T = "tuple" /\ ∃ xs,H p=some (.tup xs))
 | _=>False
theorem tyV_is {pins:List (Addr×Obj)} {σ:St} {H:Hp} {s:Shared} {T:String} {x:V} {v:Value} (I:Inv X pins σ H s) (r:RelV x v) (ty:tyV X.K T x H) :
  s.TypeIs v T/\∀ a,v=.ref a->∃ ob,s.heap.get? a=some ob/\ob.dict=none:=by
 cases x with
 | str z=>
  obtain⟨t,rfl⟩:=r
  cases (show T = "str" from ty)
  exact⟨typeIs_str s z t,fun _ e=>nomatch e⟩
 | int i=>
  obtain⟨t,rfl⟩:=r
  cases (show T = "int" from ty)
  exact⟨typeIs_int s i t,fun _ e=>nomatch e⟩
 | ref p=>
  cases r
  rcases ty with ⟨rfl,xs,hq⟩ | ⟨rfl,o,hk,hc,hd⟩ | ⟨rfl,hk⟩ | ⟨rfl,S,n,hk⟩ | ⟨rfl,xs,hk⟩
  rotate_left 4
  ·obtain⟨_,its,_,o,e,c,_,hd⟩:=I.hok p _ hk
   exact⟨⟨o,e,c⟩,fun a e2=>by cases e2;exact⟨o,e,hd⟩⟩
  ·obtain⟨its,_,pl,_⟩:=I.list hq
   refine⟨pl.isList.typeIs,fun a e=>?_⟩
   cases e
   obtain⟨o,n,e,c,hd,_⟩:=pl
   exact⟨o,e,hd⟩
  ·refine⟨⟨o,I.kIn p o hk,hc⟩,fun a e=>?_⟩
   cases e
   exact⟨o,I.kIn _ o hk,hd⟩
  ·have z:∃ o,s.heap.get? p=some o/\o.ExactDict:=by
    rcases hk with ⟨kvs,hk⟩ | ⟨kvs,hk⟩
    ·obtain⟨_,_,_,_,o,_,_,e,ex,_⟩:=I.hok p _ hk
     exact⟨o,e,ex⟩
    ·obtain⟨_,_,_,_,o,_,_,e,ex,_⟩:=I.hok p _ hk
     exact⟨o,e,ex⟩
   obtain⟨o,e,ex⟩:=z
   refine⟨⟨o,e,ex.1⟩,fun a e2=>?_⟩
   cases e2
   exact⟨o,e,ex.2.1⟩
  ·obtain⟨o,_,_,_,e,ex,_⟩:=I.hok p _ hk
   refine⟨⟨o,e,ex.1⟩,fun a e2=>?_⟩
   cases e2
   exact⟨o,e,ex.2.1⟩
 | _=>exact False.elim ty
def tBM0 (K:PySem.W.Frag) (T:String) (r:V->List V->Hp->VK->Prop) (to:TE):TE:=fun σ H Q=>to σ H fun x H1=>tyV K T x H1/\r x [] H1 Q
def tBM (K:PySem.W.Frag) (T:String) (r:V->List V->Hp->VK->Prop) (to:TE) (t:TA):TE:=fun σ H Q=>to σ H fun x H1=>tyV K T x H1/\t σ H1 fun xs H2=>r x xs H2 Q
variable {o e : Expr} {es : List Expr} {to : TE} {t : TA} {name : Str} {apos cpos : Pos} {T id : String} {r : V -> List V -> Hp -> VK -> Prop}
theorem pe_bm0 (pa:PlainAttrs T) (slot:Slot T name id) (hty:typeOf (.builtin id)=pure (.type "method_descriptor")) (hm:MtR X id r) (ho:PE X o to)
  (hbase:attributeBase o name X.env (eval o X.env)=eval o X.env:=by rfl) (hline:(apos.endLine == cpos.line)=true:=by rfl):PE X (.Call (.Attribute o name apos) [] [] cpos) (tBM0 X.K T r to):=by
 intro pins s σ H Q I h
 refine wpAny_Call_method0_late hbase hline (thn (ho pins s σ H _ I h) fun v s1 ⟨x,H1,I1,r1,ty,q1⟩=>?_)
 obtain⟨h1,h2⟩:=tyV_is I1 r1 ty
 exact⟨T,id,pa,slot,hty,h1,h2,Calls.callWith_builtin rfl (PySem.evalArgs_none (hm pins s1 σ H1 x [] v [] Q I1 r1 .nil q1))⟩
theorem pe_bm (pa:PlainAttrs T) (slot:Slot T name id) (hty:typeOf (.builtin id)=pure (.type "method_descriptor")) (hm:MtR X id r) (ho:PE X o to) (ha:PA X (e :: es) t)
  (hbase:attributeBase o name X.env (eval o X.env)=eval o X.env:=by rfl)
  (hfew:((backTo cpos (starEach (e :: es) X.env)).all (fun x=>!x.1) && (backToKw cpos (keywordEach [] X.env)).all (fun x=>x.1.isSome)
   && decide ((e :: es).length+([]:List Keyword).length+(if ([]:List Keyword).isEmpty then 0 else 1) < 30))=true:=by rfl)
  (hline:(apos.endLine == cpos.line)=true:=by rfl) (hs:starEach (e :: es) X.env=(false,eval e X.env) :: starEach es X.env:=by rfl) (hplain:(backTo cpos (starEach es X.env)).any (·.1)=false:=by rfl) :
  PE X (.Call (.Attribute o name apos) (e :: es) [] cpos) (tBM X.K T r to t):=by
 intro pins s σ H Q I h
 refine wpAny_Call_method_late hbase hfew hline rfl (thn (ho pins s σ H _ I h) fun v s1 ⟨x,H1,I1,r1,ty,q1⟩=>?_)
 obtain⟨h1,h2⟩:=tyV_is I1 r1 ty
 refine⟨T,id,pa,slot,hty,h1,h2,?_⟩
 have hA:=ha cpos pins s1 σ H1 _ I1 q1
 rw[hs] at hA ⊢
 refine Calls.callWith_builtin (by show (false || (backTo cpos (starEach es X.env)).any (·.1))=false;rw[hplain] <;> rfl) (Calls.evalArgs_plain ?_)
 exact thn hA fun us s2 ⟨vs,H2,I2,r2,q2⟩=>hm pins s2 σ H2 x vs v us Q I2 r1 r2 q2
/- xs.append(e),list.index on a module's tuple .. are MtR facts of 06m -/
end
def MtM (X:Cx) (id:String) (r:V->List V->Hp->VK->Prop):Prop:=
 ∀ (pins:List (Addr×Obj)) (s:Shared) (σ:St) (H:Hp) (x:V) (xs:List V) (v:Value) (us:List Value) (Q:VK),Inv X pins σ H s->RelV x v->zX xs us->r x xs H Q ->
  wpAny (model X.prog X.w) X.A (call (.builtin id) (v :: us)) (EP X pins σ Q) X.xe s
theorem zX.one:∀ {x:V} {us:List Value},zX [x] us->∃ u,us=[u]/\RelV x u
 | _,_,.cons r .nil=>⟨_,rfl,r⟩
theorem zX.zero:∀ {us:List Value},zX [] us->us=[]
 | _,.nil=>rfl
theorem zX.dropLast {xs:List V} {us:List Value} (h:zX xs us):zX xs.dropLast us.dropLast:=by
 induction h with
 | nil=>exact .nil
 | cons r t ih=>
  cases t with
  | nil=>exact .nil
  | cons q t'=>exact .cons r ih
theorem yZ {α:Type} (l:List α):l.eraseIdx (l.length - 1)=l.dropLast:=by
 induction l with
 | nil=>rfl
 | cons a r ih=>
  cases r with
  | nil=>rfl
  | cons b r=>
   have e:(a :: b :: r).length - 1=((b :: r).length - 1)+1:=by
    have h1:(a :: b :: r).length=r.length+2:=rfl
    have h2:(b :: r).length=r.length+1:=rfl
    omega
   rw[e,List.eraseIdx_cons_succ,ih]
   all_goals rfl
section
variable {X : Cx} {pins : List (Addr × Obj)} {σ : St} {H : Hp} {s : Shared} {l b : Addr} {xs ys zs : List V}
theorem Inv.lset {its its':List Value} {n:Nat} {f:Array Value->Array Value} {t':Nat} (I:Inv X pins σ H s) (hH:H l=some (.lst xs))
  (e:s.heap.get? l=some { cls:=.type "list",data:=.seq its.toArray n }) (hf:f its.toArray=its'.toArray) (hv:zX ys its') (hz:ys.length<=sizeLine) :
  Inv X pins σ (upd H l (.lst ys)) { s with heap:=s.heap.update l (Obj.mapSeq f),toks:=t' }:=by
 have q:=PySem.IsL.update e f
 rw[hf] at q
 refine I.write (x:=l) (e:=l) (by rw[hH];exact trivial) (.inl rfl) (fun b' u hb hu=>(A4 s.heap (Obj.mapSeq f) (Am hb)).trans hu) ⟨_,q⟩ ?_
 exact⟨hz,its',_,hv,q⟩
theorem Inv.lnew {its:List Value} {t':Nat} (I:Inv X pins σ H s) (hv:zX ys its) (hz:ys.length<=sizeLine) :
  Inv X pins σ (upd H s.heap.objs.size (.lst ys)) { s with heap:=s.heap.push { cls:=.type "list",data:=.seq its.toArray },toks:=t' }:=
 I.laid (fun _ _ q=>AD _ q) (AG _) ⟨hz,its,0,hv,AH _ rfl⟩
theorem Inv.fresh (I:Inv X pins σ H s):H s.heap.objs.size=none:=I.hok.fresh (AG _)
theorem Inv.lstM (I:Inv X pins σ H s) (hH:H l=some (.lst xs)):xs.length<=sizeLine/\∃ (its:List Value) (n:Nat),zX xs its/\xs.length=its.length/\s.heap.get? l=some { cls:=.type "list",data:=.seq its.toArray n }:=by
 obtain⟨z,its,n,r,e⟩:=I.hok l _ hH
 exact⟨z,its,n,r,r.length,e⟩
theorem notLongL {n:Nat} (h:n<=sizeLine):Builtin.List.listTooLong n=false:=by
 unfold Builtin.List.listTooLong
 exact Ay (by omega)
end
section
variable {X : Cx}
def rAppend:V->List V->Hp->VK->Prop:=fun x vs H Q=>∃ l xs y,x=.ref l/\vs=[y]/\H l=some (.lst xs)/\xs.length < sizeLine/\Q .non (upd H l (.lst (xs++[y])))
theorem jw:MtM X "list.append" rAppend:=by
 intro pins s σ H x vs v us Q I rx rv h
 obtain⟨l,xs,y,rfl,rfl,hH,hz,q⟩:=h
 cases rx
 obtain⟨u,rfl,ru⟩:=rv.one
 obtain⟨z,its,n,r,hl,e⟩:=I.lstM hH
 refine call_meets F.slot_list_append ⟨_,e,rfl⟩ F.entry_list_append (F.args_list_append_2 _ _) (PySem.list_append l its.toArray n u (by rw[Af];omega)) ⟨e,?_⟩
 refine⟨.non,_,I.lset (its':=its++[u]) hH e (by simp) (r.append (.cons ru .nil)) ?_,rfl,q⟩
 rw[AI,DO]
 omega
def rExtend:V->List V->Hp->VK->Prop:=fun x vs H Q=>∃ l b xs zs,x=.ref l/\vs=[.ref b]/\H l=some (.lst xs)/\H b=some (.lst zs)/\xs.length+zs.length<=sizeLine/\Q .non (upd H l (.lst (xs++zs)))
theorem QI:MtM X "list.extend" rExtend:=by
 intro pins s σ H x vs v us Q I rx rv h
 obtain⟨l,b,xs,zs,rfl,rfl,hH,hB,hz,q⟩:=h
 cases rx
 obtain⟨u,rfl,ru⟩:=rv.one
 cases ru
 obtain⟨z,its,n,r,hl,e⟩:=I.lstM hH
 obtain⟨z2,its2,n2,r2,hl2,e2⟩:=I.lstM hB
 have hsz:its.toArray.size+its2.toArray.size<=sizeLine:=by rw[Af,Af];omega
 have hlong:¬ (!its.toArray.isEmpty && Builtin.List.listTooLong (its.toArray.size+its2.toArray.size))=true:=by
  rw[notLongL hsz,Bool.and_false]
  exact AY
 refine call_meets F.slot_list_extend ⟨_,e,rfl⟩ F.entry_list_extend (F.args_list_extend_2 _ _)
  (AutoSeq1.list_extend_list_list_0 l its.toArray n b its2.toArray n2 hlong (by rw[Af];omega) (by omega)) ⟨e,e2,?_⟩
 refine⟨.non,_,I.lset (its':=its++its2) hH e (by simp) (r.append r2) ?_,rfl,q⟩
 rw[AI]
 omega
def rPop:V->List V->Hp->VK->Prop:=fun x vs H Q=>∃ l xs y,x=.ref l/\vs=[]/\H l=some (.lst xs)/\xs[xs.length - 1]? = some y/\Q y (upd H l (.lst xs.dropLast))
theorem mt_pop:MtM X "list.pop" rPop:=by
 intro pins s σ H x vs v us Q I rx rv h
 obtain⟨l,xs,y,rfl,rfl,hH,hy,q⟩:=h
 cases rx
 have hus:=rv.zero
 subst hus
 obtain⟨z,its,n,r,hl,e⟩:=I.lstM hH
 obtain⟨u,hu,ru⟩:=r.get hy
 have hy':its.toArray[its.toArray.size - 1]? = some u:=by
  show its.toArray[its.length - 1]? = some u
  rw[<- Bo,<- hl]
  exact hu
 refine call_meets F.slot_list_pop ⟨_,e,rfl⟩ F.entry_list_pop (F.args_list_pop_1 _) (MeetsSeq.list_pop_last l its.toArray n u hy' (by rw[Af];omega)) ⟨e,?_⟩
 refine⟨y,_,I.lset (its':=its.dropLast) hH e ?_ r.dropLast ?_,ru,q⟩
 ·show its.toArray.eraseIdxIfInBounds (its.toArray.size - 1)=its.dropLast.toArray
  rw[Af,List.eraseIdxIfInBounds_toArray,yZ]
 ·rw[List.length_dropLast]
  omega
def rCat:R2:=fun x y H Q=>∃ l b xs zs,x=.ref l/\y=.ref b/\H l=some (.lst xs)/\H b=some (.lst zs)/\xs.length+zs.length<=sizeLine/\∀ p,H p=none->Q (.ref p) (upd H p (.lst (xs++zs)))
theorem ZM:OpR X (binaryOp .Add) rCat:=by
 intro pins s σ H x y v u Q I rx ry h
 obtain⟨l,b,xs,zs,rfl,rfl,hH,hB,hz,q⟩:=h
 cases rx
 cases ry
 obtain⟨z,its,n,r,hl,e⟩:=I.lstM hH
 obtain⟨z2,its2,n2,r2,hl2,e2⟩:=I.lstM hB
 refine PySem.P.add_list e e2 ?_ (by rw[Af,Af];omega)
 have ea:its.toArray++its2.toArray=(its++its2).toArray:=by simp
 rw[ea]
 exact⟨.ref _,_,I.lnew (t':=s.toks) (r.append r2) (by rw[AI];omega),rfl,q _ I.fresh⟩
end
section
variable {prog : Program} {w : World} {A : Around} {E : Value -> Shared -> Prop} {s : Shared}
set_option maxRecDepth 100000 in
end
section
variable {X : Cx}
end
end L2
namespace Att
open PySem PySem.W PySem.Calls PyProof.Rows
theorem ints_of_wellAll {P:Params} {h:Heap}:∀ (ns:List Int) (vs:List Value),WellAll P h vs (ns.map WData.int)->IntsAre vs ns:=by
 intro ns
 induction ns with
 | nil=>
  intro vs w
  rw[DD] at w
  cases w
  exact .nil
 | cons n ns ih=>
  intro vs w
  rw[AQ] at w
  cases w with
  | cons a b=>
   cases a
   exact .cons _ _ (ih _ b)
theorem script_of {l:OpenLaw} {n:Nat} (hn:l.most=some n) {P:Params} {h:Heap} {args:List WData} {vals:List Value}
  (hpre:l.row.toRowW.claim.pre args=true) (hwl:WellAll P h vals args) :
  ∃ a vs ns,vals=[Value.ref a]/\args=[WData.list (ns.map WData.int)]/\h.get? a=some { cls:=.type "list",data:=.seq vs.toArray }/\IntsAre vs ns/\ns.length<=n:=by
 have hsh:WShape.hasAll [] args [.list .int]=true:=(pre_splitW hpre).1
 have hc:l.pre.holds [] { args:=args } = true:=(pre_splitW hpre).2
 obtain⟨d,r,rfl,h1,h2⟩:=hasAllW_cons hsh
 obtain rfl:=hasAllW_nil h2
 obtain⟨xs,rfl,h3⟩:=hasW_list h1
 obtain⟨ns,rfl⟩:=items_int h3
 have hlen:ns.length<=n:=by
  unfold OpenLaw.pre at hc
  have h4:(WTm.not (.lt (.lit (.int (n:Int))) (.len (.arg 0)))).holds [] { args:=[.list (ns.map .int)] } = true:=by
   have h4:=(holds_andW hc).1
   rw[hn] at h4
   exact h4
  have h5:=condW_of h4 (w_not (w_lt w_lit (w_len_list (w_arg rfl))))
  rw[AC] at h5
  refine Nat.le_of_not_lt fun q=>?_
  have q':(n:Int) < ((ns.length:Nat):Int):=by omega
  first
   | (rw[BV q'] at h5;exact absurd h5 (by decide))
   | (simp at h5;omega)
 cases hwl with
 | cons w1 w2=>
  cases w2
  cases w1 with
  | list ho hall=>exact⟨_,_,ns,rfl,rfl,ho,ints_of_wellAll ns _ hall,hlen⟩
theorem post_true (l:OpenLaw) (args:List WData):l.row.toRowW.claim.post args (.bool true) args=true:=
 postW_of (r:=l.row.toRowW) (X:=(true == true))
  (show WShape.has [] (.bool true) .bool=true by first | rfl | decide | simp[WShape.has,WShape.arms,WShape.armsAll])
  (show (WTm.eq .res (.lit (.bool true))).value [] { args:=args,res:=some (.bool true),after:=args } = some (.bool (true == true)) from w_eq_bool (w_res rfl) w_lit) rfl
theorem attach_call {l:OpenLaw} {n:Nat} {q:Program} {loose:List Str} {XP:(Str->Option Value)->Heap->Prop} {YP:World->Heap->Prop} {d:DefRec}
  (hn:l.most=some n) (hdf:d.params.defaults=[])
  (call:∀ (w:World) (s₀ s₁:Shared) (mg mb:Str->Option Value) (fa:Addr) (o:Obj) (pm cd doc:Value) (a:Addr) (vs:List Value) (ns:List Int),
   Ground q loose [] XP w s₀ mg mb s₁.heap->YP w s₁.heap ->
   s₁.heap.get? fa=some o->o.data=.func (docDef d.name d.params d.body d.scope pm cd doc)->s₁.heap.CodeRec cd d.name->mg d.name=some (.ref fa) ->
   s₁.heap.get? a=some { cls:=.type "list",data:=.seq vs.toArray }->IntsAre vs ns->ns.length<=n->s₁.gens = #[] ->
   codeAny (model l.prog w) callerA (.call (.ref fa) ⟨[.ref a],[]⟩) (fun r s'=>r=.ok (.ret (.bool true))/\OldK s₁.heap s'.heap/\s'.os=s₁.os/\AllBare s'.gens) s₁) :
  WalkO q loose XP YP l.row.toRowW d [] (fun f vs=>PySem.call f vs):=by
 intro w s₀ s₁ mg mb G Y fa o pm cd doc dV kV ho hd hcd hD hmg hg args vals as hpre hlay hrd hwl hlo
 obtain rfl:dV=.none:=Dflts.none hD hdf
 obtain rfl:kV=.none:=Dflts.noKw hD
 obtain⟨a,vs,ns,rfl,rfl,hobj,hints,hlen⟩:=script_of hn hpre hwl
 refine enter_call (Bf (call w s₀ s₁ mg mb fa o pm cd doc a vs ns G Y ho (fd_plain hd) hcd hmg hobj hints hlen hg) fun r s' hq=>?_)
 obtain⟨rfl,h2,h3,h4⟩:=hq
 exact⟨.inl ⟨.bool true,.bool true,[],rfl,fun _=>rfl,.bool true,post_true l _,fun _=>⟨List.Pairwise.nil,fun _ hm=>(nomatch hm)⟩⟩,h2,h3,h4⟩
section
variable {prog : Program} {w : World} {A : Around} {E : Value -> Shared -> Prop} {s : Shared} {K : Frag}
end
end Att
namespace L2
open PySem PySem.Spec PyProof.Rows
theorem wL:∀ {vs:List Value} {ns:List Int},IntsAre vs ns->zX (ns.map V.int) vs
 | _,_,.nil=>.nil
 | _,_,.cons n t h=>.cons ⟨t,rfl⟩ (wL h)
def Only (H:Hp):Prop:=∀ b,H b=none\/∃ o xs,H b=some (.frz o (.lst xs))
theorem law_call {P:Program} {w:World} {K:PySem.W.Frag} {mg mb:Str->Option Value} {CX:CXT} {k:Nat} {fa a:Addr} {fd:FuncData} {x:Str} {sp:Sp} {s₁:Shared} {vs:List Value} {ns:List Int}
  (KX:K.In s₁.heap) (hns:s₁.heap.Ns mainGlobals mg) (hb:s₁.heap.Ns builtinsNs mb) (hbb:∀ x:Str,x ≠ "__name__" -> mb x=bootBuiltins x) (hlim:s₁.heap.NoLimit) (hg:s₁.gens = #[])
  (ha:s₁.heap.get? a=some { cls:=.type "list",data:=.seq vs.toArray }) (hi:IntsAre vs ns) (hl:ns.length<=sizeLine) (hr:jV k callerA)
  (F:∀ base:Heap,K.In base->base.Ns mainGlobals mg->jj P w K mg base CX k fa fd [x] sp) (hbind:∀ (s:Shared) (u:Value),BindsTo s fd ⟨[u],[]⟩ [(x,u)])
  (hsp:∀ H:Hp,Only H->SqL K H a (ns.map V.int)->sp [.ref a] H (fun v _=>v=.bl true) fun _ _ _=>False)
  (hCX:∀ H e s',CX [] H s₁ (fun _ _ _=>False) e s'->False) :
  codeAny (model P w) callerA (.call (.ref fa) ⟨[.ref a],[]⟩) (fun r s'=>r=.ok (.ret (.bool true))/\OldK s₁.heap s'.heap/\s'.os=s₁.os/\AllBare s'.gens) s₁:=by
 have rv:=wL hi
 have lenV:=hi.length
 -- from an abstract heap in which nothing but the script may be tracked
 have core:∀ H:Hp,Only H->SqL K H a (ns.map V.int)->HOk P w H s₁.heap->(∀ b,H b ≠ none->b=a)->(H a ≠ none->K.lookup a=none) ->
   codeAny (model P w) callerA (.call (.ref fa) ⟨[.ref a],[]⟩) (fun r s'=>r=.ok (.ret (.bool true))/\OldK s₁.heap s'.heap/\s'.os=s₁.os/\AllBare s'.gens) s₁:=by
  intro H hO hS hok hA hK
  have base_of:∀ {b:Addr} {o:Obj},s₁.heap.get? b=some o->H b=none->(hidT s₁.heap H).get? b=some o:=fun e n=>hidT_get e n
  have noA:∀ {b:Addr} {o:Obj} {es:Array DictEntry} {ep:Nat},s₁.heap.get? b=some o->o.data=.dict es ep->H b=none:=fun {b o es ep} e d=>by
   cases q:H b with
   | none=>rfl
   | some u=>
    have e':b=a:=hA b (by rw[q];simp)
    subst e'
    rw[ha] at e;cases e
    have d':Data.seq vs.toArray _=Data.dict es ep:=d
    cases d'
  have nsK:∀ {b:Addr} {m:Str->Option Value},s₁.heap.Ns b m->(hidT s₁.heap H).Ns b m:=fun {b m} ⟨o,es,ep,e,d,r⟩=>⟨o,es,ep,base_of e (noA e d),d,r⟩
  have hKb:K.In (hidT s₁.heap H):=fun b o e=>base_of (KX b o e) (by
   cases q:H b with
   | none=>rfl
   | some u=>
    have e':b=a:=hA b (by rw[q];simp)
    subst e'
    rw[hK (by rw[q];simp)] at e;cases e)
  have hM:Mod K mg (hidT s₁.heap H):=⟨hKb,nsK hns,⟨mb,nsK hb,hbb⟩,let ⟨mc,h1,h2⟩:=hlim;⟨mc,nsK h1,h2⟩⟩
  have e0:Env0 P w K mg (hidT s₁.heap H) callerA [] s₁ H:=⟨rfl,hM,fun b o e=>of_hidT e,Nat.le_of_eq (YS _ _),trivial,fun b hb=>absurd (show b ∈ ([]:List Addr) from hb) (by simp),hok,.of_eq hg⟩
  refine Bf ((F _ hKb (nsK hns)).run callerA [] s₁ H ⟨[.ref a],[]⟩ [.ref a] [.ref a] _ _ hr e0 (hbind s₁ (.ref a)) (.cons rfl .nil) (hsp H hO hS)) fun r s' h=>?_
  cases r with
  | error e=>exact (hCX H e s' h).elim
  | ok fl=>
   cases fl with
   | next=>exact False.elim h
   | brk=>exact False.elim h
   | cont=>exact False.elim h
   | ret u=>
    obtain⟨v,H',os,bare,un,hok',r',q⟩:=h
    have q':v=.bl true:=q
    subst q'
    obtain rfl:u=Value.bool true:=r'
    refine⟨rfl,OldK.of_keep fun b o e=>?_,os,bare⟩
    cases q:H b with
    | none=>exact un.keep b o e q (by intro z;exact absurd (show b ∈ ([]:List Addr) from z) (by simp)) (by simp)
    | some u=>
     rcases hO b with z | ⟨ob,xs,z⟩
     ·rw[q] at z;cases z
     ·have z2:=un.frzs b ob _ z
      obtain⟨e1,_⟩:=hok b _ z
      obtain⟨e2,_⟩:=hok' b _ z2
      rw[e] at e1;cases e1
      exact e2
 cases hk:K.lookup a with
 | some o=>
  -- the script is one of the module's own objects
  have e:=KX a o hk
  rw[ha] at e
  cases e
  refine core (fun _=>none) (fun _=>.inl rfl) (.inr ⟨_,vs.toArray,_,hk,rfl,rfl,rfl,by rw[Af,lenV];exact hl,by simpa using rv⟩) (fun b u z=>by have z':(none:Option HO)=some u:=z;cases z') (fun b z=>absurd rfl z) fun z=>absurd rfl z
 | none=>
  refine core (fun b=>if b=a then some (.frz { cls:=.type "list",data:=.seq vs.toArray } (.lst (ns.map V.int))) else none) (fun b=>?_) (.inl (.inr ⟨{ cls:=.type "list",data:=.seq vs.toArray },if_pos rfl⟩)) (fun b u z=>?_) (fun b z=>?_) fun _=>hk
  ·by_cases hb:b=a
   ·exact .inr ⟨_,_,if_pos hb⟩
   ·exact .inl (if_neg hb)
  ·by_cases hb:b=a
   ·have z':=(if_pos hb).symm.trans z
    cases z'
    subst hb
    exact⟨ha,by rw[AC];exact hl,vs,_,rv,ha⟩
   ·have z':=(if_neg hb).symm.trans z
    cases z'
  ·by_cases hb:b=a
   ·exact hb
   ·exact absurd (if_neg hb) z
theorem xn {l:PySem.W.OpenLaw} {n k:Nat} {q:Program} {loose:List Str} {XP:(Str->Option Value)->Heap->Prop} {YP:World->Heap->Prop} {d:DefRec} {K:Params->PySem.W.Frag} {CX:World->CXT} {sp:World->Sp} {x:Str}
  (hn:l.most=some n) (hn2:n<=sizeLine) (hdf:d.params.defaults=[]) (hr:jV k callerA)
  (hY:∀ (w:World) (h:Heap),YP w h->(K w.params).In h)
  (F:∀ (w:World) (mg:Str->Option Value) (fa:Addr) (h:Heap),(K w.params).In h->h.Ns mainGlobals mg->mg d.name=some (.ref fa) ->
   ∃ fd:FuncData,(∀ (s:Shared) (u:Value),BindsTo s fd ⟨[u],[]⟩ [(x,u)]) /\
    ∀ base:Heap,(K w.params).In base->base.Ns mainGlobals mg->jj l.prog w (K w.params) mg base (CX w) k fa fd [x] (sp w))
  (hsp:∀ (w:World) (H:Hp) (a:Addr) (ns:List Int),ns.length<=n->Only H->SqL (K w.params) H a (ns.map V.int)->sp w [.ref a] H (fun v _=>v=.bl true) fun _ _ _=>False)
  (hCX:∀ (w:World) (H:Hp) (s:Shared) (e:Value) (s':Shared),CX w [] H s (fun _ _ _=>False) e s'->False) :
  PySem.W.WalkO q loose XP YP l.row.toRowW d [] (fun f vs=>PySem.call f vs):=by
 refine Att.attach_call hn hdf fun w s₀ s₁ mg mb fa o pm cd doc a vs ns G Y ho hd hcd hmg hobj hints hlen hg=>?_
 have KX:=hY w _ Y
 obtain⟨fd,hb,hF⟩:=F w mg fa _ KX G.T.g hmg
 exact law_call KX G.T.g G.T.b G.T.builtins G.T.nolimit hg hobj hints (Ag hlen hn2) hr hF hb (fun H hO hS=>hsp w H a ns hlen hO hS) fun H e s'=>hCX w H s₁ e s'
end L2
/- THE LAST THEOREM (shape; LID, My.* are yours):
   My.Adr: a structure of the addresses that your layer names (classes, functions); My.Txt K t: a structure (Prop) of the equations over K;
   My.txt_mk : {K} {implicit addresses ..} (e1 : nsIn K mainGlobals "law" = some (some (.ref f))) (e2 : K.lookup f = some ⟨oc, od, .func (fnOf "law" "law" params body scope dV kV doc pm an cdv ct), sl⟩) (e3 : codeIn K cdv "law" = true) .. : ∃ t, My.Txt K t
set_option maxRecDepth 100000 in
set_option maxHeartbeats 0 in
theorem PySem.Challenge.cw_LID_holds : PySem.Challenge.rw_LID.Holds := by
 w_on;o_law;k_head;(case hw=>w_witness2)
 k_fill
 refine L2.xn (l:=PySem.Challenge.rw_LID) (n:=63) (k:=40) (x := "script") (CX:=fun w=>..) (sp:=fun _=>My.sp_law) rfl (by decide) rfl ⟨rfl,by decide,by decide⟩ (fun w h Y=>PySem.W.kIn_of Y) ?F ?S ?C
 case F=>
  intro w mg fa h KX G hmg
  have T:∃ t,My.Txt (L2.KOf KX) t:=by
   dsimp only[L2.KOf]                          -- K must stand as «<heap const> w.params» for k_is
   refine' My.txt_mk ?e1 ?e2 ?e3 ..
   (case e1=>PySem.W.k_is)                    -- in the order: a name->its address->its object->its parts
   (case e2=>PySem.W.k_is)
   ..
  obtain⟨t,T⟩:=T
  have e0:=hmg.symm.trans (BB KX G T.law)
  cases e0                                       -- fa is the law's own address
  exact⟨_,fun s u=>.of_eq rfl,fun base kb nb=>My.law_fn T kb nb⟩     -- if «.of_eq rfl» comes too early: refine' ⟨_,?b,fun base kb nb=>My.law_fn T kb nb⟩;exact fun s u=>.of_eq rfl
 case S=>exact fun w H a ns hl hO hS=>..
 case C=>exact ..
(the tactic k_is has no namespace: write k_is) -/
namespace L2
open PySem PySem.Spec PyProof.Rows
def jq (s:Stmt):Arguments:=match s with
 | .FunctionDef _ a _ _ _ _ _ _ _ _=>a
 | _=>{ posonlyargs:=[],args:=[],vararg:=none,kwonlyargs:=[],kw_defaults:=[],kwarg:=none,defaults:=[] }
def qR (s:Stmt):List Stmt:=match s with
 | .FunctionDef _ _ b _ _ _ _ _ _ _=>b
 | _=>[]
def zg (s:Stmt):Scope:=match s with
 | .FunctionDef _ _ _ _ _ _ sc _ _ _=>sc
 | _=>{ kind:=.function,names:=[],isGenerator:=false,isCoroutine:=false }
abbrev CX0:CXT:=fun _ _ _ _ _ _=>False
abbrev E0:XK:=fun _ _ _=>False
theorem pass0 {X:Cx}:wD CX0 X E0:=fun _ _ _ _ _ _ _ h=>h.elim
structure Fun (K:PySem.W.Frag) (x qual:Str) (st:Stmt) (f:Addr) (fd:FuncData):Prop where
 ex:∃ (oc:Value) (od:Option Addr) (kV doc pm:Value) (an:Option Addr) (cdv ct:Value) (osl:Array (Option Value)),
  fd=PySem.W.fnOf x qual (jq st) (qR st) (zg st) .none kV doc pm an cdv ct/\K.lookup f=some ⟨oc,od,.func fd,osl⟩/\PySem.W.codeIn K cdv qual=true
 kp:PySem.W.keepIn K (.ref f)=true
section
variable {P : Program} {w : World} {K : PySem.W.Frag} {mg : Str -> Option Value} {base : Heap}
theorem Fun.ok {x qual:Str} {st:Stmt} {f:Addr} {fd:FuncData} {N ps:List Str} {k:Nat} {sp:Sp} (F:Fun K x qual st f fd) (S:zv N ps (zg st)) (len:∀ vs H Q E,sp vs H Q E->vs.length=ps.length)
  (hbody:∀ (cdv:Value) (A:Around) (outer:List Env) (s:Shared) (H:Hp) (vs:List V) (Q:VK) (E:XK),jV k (A.deeper (envOfC qual (zg st) s.heap.objs.size f cdv))->sp vs H Q E ->
   ∃ t,PSs (YM CX0 P w K mg base N qual (zg st) f cdv A outer s H E).nox (qR st) t/\t { nx:=fun _ H'=>Q .non H',rt:=Q } (start N vs) H):jj P w K mg base CX0 (k+1) f fd ps sp:=by
 obtain⟨oc,od,kV,doc,pm,an,cdv,ct,osl,rfl,lk,hcd⟩:=F.ex
 refine fn_of lk hcd S len fun A outer s H vs Q E hr hsp=>?_
 obtain⟨t,h,q⟩:=hbody cdv A outer s H vs Q E hr hsp
 exact⟨t,h.nox,q⟩
theorem Fun.binds {x qual:Str} {st:Stmt} {f:Addr} {fd:FuncData} {ps:List Str} (F:Fun K x qual st f fd)
  (h:∀ (kV doc pm:Value) (an:Option Addr) (cdv ct:Value) (us:List Value),us.length=ps.length->bindArgs (PySem.W.fnOf x qual (jq st) (qR st) (zg st) .none kV doc pm an cdv ct) ⟨us,[]⟩=pure (ps.zip us)):Binds K fd ps []:=by
 obtain⟨oc,od,kV,doc,pm,an,cdv,ct,osl,rfl,lk,hcd⟩:=F.ex
 exact .all (h kV doc pm an cdv ct)
theorem xo {x qual:Str} {st:Stmt} {f:Addr} {oc:Value} {od an:Option Addr} {osl:Array (Option Value)} {kV doc pm cdv ct:Value} (l:K.lookup f=some ⟨oc,od,.func (PySem.W.fnOf x qual (jq st) (qR st) (zg st) .none kV doc pm an cdv ct),osl⟩)
  (c:PySem.W.codeIn K cdv qual=true) (k:PySem.W.keepIn K (.ref f)=true):Fun K x qual st f (PySem.W.fnOf x qual (jq st) (qR st) (zg st) .none kV doc pm an cdv ct):=⟨⟨oc,od,kV,doc,pm,an,cdv,ct,osl,rfl,l,c⟩,k⟩
end
theorem hu_of {A:Around} {k:Nat} (hr:jV k A):A.units+1 < cLine:=Nat.lt_of_le_of_lt (Nat.add_le_add_left (by decide:1<=64) _) hr.units
theorem zq {n:Nat} (h:n<=1000):n < sizeLine:=Nat.lt_of_le_of_lt h (by decide)
theorem pgl {X:Cx} (i:Nat) (x:Str) (pos:Pos) (hN:X.N.Nodup) (hi:X.N[i]? = some x) (hl:X.env.scope.names.lookup x=some .local):PG X (.Name x pos) (jU i):=YW hN hi (.inl hl) (.inr hl)
def vOk (n:List (Str×NameKind)) (x:Str):Bool:=(match n.lookup x with | some .local=>true | some .cell=>true | some .free=>true | _=>false) && (!(x == ("__debug__" : Str)) && !(x == ("__classdict__" : Str)))
theorem pw {X:Cx} (i:Nat) (x:Str) (pos:Pos) (hN:X.N[i]? = some x) (h:vOk X.env.scope.names x=true):PE X (.Name x pos) (YT i):=by
 unfold vOk at h
 rw[B6,B6,Bool.not_eq_true',Bool.not_eq_true'] at h
 refine pe_var hN ?_ h.2.1 h.2.2
 cases e:X.env.scope.names.lookup x with
 | none=>rw[e] at h;cases h.1
 | some k=>cases k <;> first | exact .inl e | exact .inr (.inl e) | exact .inr (.inr e) | (rw[e] at h;cases h.1)
section
variable {X : Cx}
theorem pv (i:Nat) {x:Str} {pos:Pos} (hN:X.N[i]? = some x:=by rfl) (hv:Vis X.env.scope x:=by first | exact Or.inl rfl | exact Or.inr (Or.inl rfl) | exact Or.inr (Or.inr rfl)) (hd:(x == ("__debug__" : Str))=false:=by decide)
  (hcd:(x == ("__classdict__" : Str))=false:=by decide):PE X (.Name x pos) (YT i):=pe_var hN hv hd hcd
end
theorem wv {A B:Prop} (h:B):if false=true then A else B:=by
 rw[if_neg AY]
 exact h
theorem YN {A B:Prop} (h:A):if true=true then A else B:=by
 rw[if_pos rfl]
 exact h
theorem Z5 {c A B:Prop} [Decidable c] (h1:c->A) (h2:¬ c->B):if c then A else B:=by
 by_cases h:c
 ·rw[if_pos h]
  exact h1 h
 ·rw[if_neg h]
  exact h2 h
def zB (H H':Hp):Prop:=∀ b o,H b=some o->H' b=some o
theorem zB.refl (H:Hp):zB H H:=fun _ _ h=>h
theorem zB.trans {H H1 H2:Hp} (a:zB H H1) (b:zB H1 H2):zB H H2:=fun c o h=>b c o (a c o h)
theorem zB.free {H H':Hp} (e:zB H H') {l:Addr} (h:H' l=Option.none):H l=Option.none:=by
 cases q:H l with
 | none=>rfl
 | some o=>
  rw[e l o q] at h
  cases h
theorem zB.seq {K:PySem.W.Frag} {H H':Hp} {a:Addr} {xs:List V} (e:zB H H') (h:SqL K H a xs):SqL K H' a xs:=by
 rcases h with (h | ⟨o,h⟩) | h
 ·exact .inl (.inl (e _ _ h))
 ·exact .inl (.inr ⟨o,e _ _ h⟩)
 ·exact .inr h
abbrev NoX:Value->Shared->Prop:=fun _ _=>False
theorem wpX {α:Type} {M:Model} {A:Around} {t:Sem α} {Q:α->Shared->Prop} {E:Value->Shared->Prop} {s:Shared} (h:wpAny M A t Q NoX s):wpAny M A t Q E s:=
 Bv h (fun _ _ q=>q) fun _ _ f=>f.elim
def xp (ifs:List Expr) (env:Env):Sem Bool:=
 forIn ifs true fun c r=>if r=true then do let ok <- isTrue c env (eval c env);pure (ForInStep.yield ok) else pure (ForInStep.yield r)
theorem JV {prog:Program} {w:World} {A:Around} {R:Result->Shared->Prop} {s:Shared} {elt tg iter:Expr} {ifs:List Expr} {scope:Scope} {pos:Pos} {it acc:Value} {env:Env} (Iv:Nat->Shared->Prop)
  (turn:∀ n s,Iv n s->wpAny (model prog w) A (pyNext it) (fun r s1=>match r with
   | none=>R (.ok .next) s1
   | some v=>wpAny (model prog w) A (letOwnedTupleGo tg it v) (fun _ s2=>wpAny (model prog w) A (assign tg env v) (fun _ s3=>wpAny (model prog w) A (xp ifs env) (fun ok s4=>
      if ok=true then wpAny (model prog w) A (eval elt env) (fun x s5=>wpAny (model prog w) A (call (.builtin "list.append") [acc,x]) (fun _ s6=>∃ m,m < n/\Iv m s6) NoX s5) NoX s4
      else ∃ m,m < n/\Iv m s4) NoX s3) NoX s2) NoX s1) NoX s)
  (n:Nat) (h:Iv n s):codeAny (model prog w) A (.compLoop (.ListComp elt [⟨tg,iter,ifs,0⟩] scope pos) 0 it acc env) R s:=by
 refine codeAny_loop rfl Iv (fun n s hI=>?_) n h
 show wpAny (model prog w) A ((compTurn (.ListComp elt [⟨tg,iter,ifs,0⟩] scope pos) 0 it acc env).onRaise (fun x=>do noteFrame x env;theTreesLotGoes x)) _ _ s
 refine wpAny_noted (wpX ?_)
 rw[compTurn_list]
 refine AA (DL (AA (thn (turn n s hI) fun r s1 h1=>?_)))
 cases r with
 | none=>exact AB h1
 | some v=>
  refine AA (thn h1 fun _ s2 h2=>AA (thn h2 fun _ s3 h3=>AA (thn h3 fun ok s4 h4=>?_)))
  cases ok with
  | false=>exact AB ⟨rfl,h4⟩
  | true=>exact AA (AA (thn h4 fun x s5 h5=>AA (thn h5 fun _ s6 h6=>AB (AB ⟨rfl,h6⟩))))
def jd (env:Env) (y:Str×NameKind) (cs:List (Str×Addr)):List (Str×Addr):=if (y.2 == NameKind.free)=true then (y.1,(env.cells.lookup y.1).getD 0) :: cs else cs
def xq (env:Env) (scope:Scope):List (Str×Addr):=scope.names.foldl (fun c y=>jd env y c) []
theorem QJ {α β:Type} {f:α->β->Sem (ForInStep β)} {g:β->α->β}:∀ (l:List α) (c:β),(∀ x ∈ l,∀ c,f x c=pure (.yield (g c x)))->forIn l c f=pure (l.foldl g c)
 | [],c,_=>rfl
 | x :: l,c,h=>by
  rw[List.forIn_cons,h x AO,pure_bind]
  exact QJ l (g c x) fun y hy=>h y (AU _ hy)
theorem Js {env:Env} {scope:Scope} (h:∀ y ∈ scope.names,y.2=.free->∃ c,env.cells.lookup y.1=some c):closureFor scope env=pure (xq env scope):=by
 simp only[closureFor]
 rw[QJ (g:=fun c y=>jd env y c) scope.names [] (fun y hy c=>?_)]
 ·rfl
 ·obtain⟨n,k⟩:=y
  by_cases hk:k=.free
  ·subst hk
   obtain⟨a,ha⟩:=h _ hy rfl
   have ha':env.cells.lookup n=some a:=ha
   simp[jd,cellOf,ha']
  ·have hb:(k == NameKind.free)=false:=by simpa using hk
   simp only[jd,hb,Bool.false_eq_true,if_false]
theorem Qm {env:Env}:∀ (ns:List (Str×NameKind)) (cs:List (Str×Addr)),(∀ y ∈ ns,y.2=.free->∃ c,env.cells.lookup y.1=some c)->(∀ x c,cs.lookup x=some c->env.cells.lookup x=some c) ->
  ∀ x c,(ns.foldl (fun c y=>jd env y c) cs).lookup x=some c->env.cells.lookup x=some c
 | [],_,_,h=>h
 | y :: ns,cs,hf,h=>by
  refine Qm ns (jd env y cs) (fun z hz=>hf z (AU _ hz)) fun x c e=>?_
  unfold jd at e
  split at e
  ·rename_i hk
   have hk':y.2=.free:=by simpa using hk
   obtain⟨a,ha⟩:=hf y AO hk'
   rw[Bk] at e
   split at e
   ·rename_i hx
    have hx':x=y.1:=by simpa using hx
    rw[ha] at e
    rw[hx',ha]
    exact e
   ·exact h x c e
  ·exact h x c e
theorem jY {env:Env} (x:Str):∀ (ns:List (Str×NameKind)) (cs:List (Str×Addr)),((x,NameKind.free) ∈ ns\/∃ c,cs.lookup x=some c)->∃ c,(ns.foldl (fun c y=>jd env y c) cs).lookup x=some c
 | [],_,h=>by
  rcases h with h | h
  ·exact absurd h (by simp)
  ·exact h
 | y :: ns,cs,h=>by
  refine jY x ns (jd env y cs) ?_
  rcases h with h | ⟨c,h⟩
  ·rcases AR.mp h with e | h
   ·subst e
    exact .inr ⟨(List.lookup x env.cells).getD 0,by simp[jd]⟩
   ·exact .inl h
  ·refine .inr ?_
   unfold jd
   split
   ·rw[Bk]
    split
    ·exact⟨_,rfl⟩
    ·exact⟨c,h⟩
   ·exact⟨c,h⟩
def relK (env:Env) (n:Str) (k:NameKind):NameKind:=if (k == NameKind.free && env.scope.kind == .function && env.kindOf n == some .cell)=true then .cell else k
def relP (env:Env) (y:Str×NameKind):Str×NameKind:=if (y.2 == NameKind.free && env.scope.kind == .function && env.kindOf y.1 == some .cell)=true then (y.1,NameKind.cell) else (y.1,y.2)
theorem relP_eq (env:Env) (y:Str×NameKind):relP env y=(y.1,relK env y.1 y.2):=by
 unfold relP relK
 split <;> rfl
theorem Jt {env:Env} (x:Str):∀ ns:List (Str×NameKind),(ns.map (relP env)).lookup x=(ns.lookup x).map (relK env x)
 | []=>rfl
 | (n,k) :: r=>by
  have ih:=Jt (env:=env) x r
  rw[AQ,relP_eq,Bk,Bk]
  cases hx:x == n with
  | true=>
   have e:x=n:=by simpa using hx
   subst e
   rfl
  | false=>exact ih
theorem Zm {env : Env} {scope : Scope} (x : Str) : (relabel scope env).names.lookup x = (scope.names.lookup x).map (relK env x) := Jt x scope.names
def capOne (N:List Str) (scope:Scope) (p:Option Nat×Str):Bool:=match p.1 with
 | none=>true
 | some j=>decide (N[j]? = some p.2) && decide (scope.names.lookup p.2=some .free)
structure zF (N:List Str) (sc:Scope) (N':List Str) (ix:List (Option Nat)) (scope:Scope):Prop where
 kind:scope.kind=.function
 nocell:∀ y ∈ scope.names,y.2 ≠ .cell
 locs:∀ y ∈ scope.names,y.2=.local->scope.names.lookup y.1=some .local
 frees:∀ y ∈ scope.names,y.2=.free->(sc.names.lookup y.1=some .cell\/sc.names.lookup y.1=some .free)
 nd:N'.Nodup
 len:ix.length=N'.length
 cap:(ix.zip N').all (capOne N scope)=true
def ixSt (ix:List (Option Nat)) (σ:St):St:=ix.map fun o=>o.bind fun i=>(σ[i]?).join
def qL (X:Cx) (N':List Str) (scope:Scope) (C:Addr) (fp:List Addr) (s₀:Shared) (H₀:Hp):Cx where
 prog:=X.prog
 w:=X.w
 K:=X.K
 mg:=X.mg
 base:=X.base
 A:=X.A
 N:=N'
 s₀:=s₀
 H₀:=H₀
 env:=compEnvC scope (xq X.env scope) C X.env
 outer:=X.stack
 stack:=X.stack
 ex:=fp
 fn:=fun _=>false
 calm:=X.calm
 pn:=[]
 xe:=NoX
section
variable {X : Cx} {N' : List Str} {ix : List (Option Nat)} {scope : Scope} {pins : List (Addr × Obj)} {σ : St} {H : Hp} {s : Shared} {fp : List Addr}
theorem zF.has (S:zF X.N X.env.scope N' ix scope) (ok:X.Ok):∀ y ∈ scope.names,y.2=.free->∃ c,X.env.cells.lookup y.1=some c:=fun y hy hk=>ok.has y.1 (S.frees y hy hk)
theorem zF.sub (S:zF X.N X.env.scope N' ix scope) (ok:X.Ok):∀ x c,(xq X.env scope).lookup x=some c->X.env.cells.lookup x=some c:=
 Qm scope.names [] (S.has ok) fun x c e=>by simp at e
theorem zF.frK (S : zF X.N X.env.scope N' ix scope) {x : Str} (h : (relabel scope X.env).names.lookup x = some .cell \/ (relabel scope X.env).names.lookup x = some .free) : scope.names.lookup x = some .free := by
 rw [Zm] at h
 cases e:scope.names.lookup x with
 | none=>rw[e] at h;simp at h
 | some k=>
  rw[e] at h
  cases k with
  | free=>rfl
  | cell=>exact absurd rfl (S.nocell _ (BK e))
  | «local»=>simp[relK] at h
  | globalExplicit=>simp[relK] at h
  | globalImplicit=>simp[relK] at h
theorem y4 {h1:Heap} {m:Str->Option Value} {tk:Nat} (S:zF X.N X.env.scope N' ix scope) (I:Inv X pins σ H s) (hf:∀ b ∈ fp,YY X pins H b) (hlt:∀ b ∈ fp,b < s.heap.objs.size)
  (ns:h1.Ns s.heap.objs.size m) (kp:∀ b o,s.heap.get? b=some o->h1.get? b=some o) :
  Inv (qL X N' scope s.heap.objs.size fp s H) [] (ixSt ix σ) H { s with heap:=h1,toks:=tk }:=by
 have sub:=S.sub I.ok
 have cellS:∀ x c,(xq X.env scope).lookup x=some c->c < s.heap.objs.size:=fun x c e=>by
  obtain⟨v,q⟩:=I.cell x c (sub x c e)
  exact q.lt
 refine⟨⟨I.ok.mod,S.kind,I.ok.glob,I.ok.blt,AG _,fun x y c h1 h2=>I.ok.inj x y c (sub x c h1) (sub y c h2),fun x hx=>?_,fun x c z _=>?_,I.ok.hd,I.ok.frames,.inl rfl,fun b hb=>⟨?_,fun x c e=>?_⟩,I.bs,Ag I.ok.bsz I.sz,fun b o e hb=>?_,fun b hb z=>?_,I.stack,I.stkFree⟩,
  rfl,I.bare,Un.kept kp,⟨m,ns,fun i x v h1 h2 h3=>?_⟩,fun x c e=>?_,I.hok.fresh (AG _),fun x c e=>I.freeC x c (sub x c e),fun p hp=>absurd (show p ∈ ([]:List (Addr×Obj)) from hp) (by simp),I.hok.kept kp,?_⟩
 ·exact jY x scope.names [] (.inl (BK (S.frK hx)))
 ·exact absurd (show false=true from z) (by simp)
 ·exact AN (hlt b hb)
 ·exact (hf b hb).2.2.2.2.1 x c (sub x c e)
 ·rcases (hf b hb).2.2.2.1 with z | z
  ·exact I.ok.noex b o e z
  ·exact absurd (AX (AJ e) (Ag I.ok.bsz z)) (BC _)
 ·rcases AR.mp (I.stkSub b z) with e | e
  ·exact (hf b hb).2.1 e
  ·exact (hf b hb).2.2.1 e
 ·have hi:i < ix.length:=by
   have:=(AE.mp h1).1
   rw[S.len];exact this
  have e1:ix[i]? = some ix[i]:=AK hi
  have h2':(ixSt ix σ)[i]? = some (some v):=h2
  rw[ixSt,AW,e1] at h2'
  have h2'':(ix[i].bind fun j=>(σ[j]?).join)=some v:=AL h2'
  cases ej:ix[i] with
  | none=>rw[ej] at h2'';cases h2''
  | some j=>
   rw[ej] at h2''
   have h2j:(σ[j]?).join=some v:=h2''
   have hz:(ix[i],x) ∈ ix.zip N':=by
    have ez:(ix.zip N')[i]? = some (ix[i],x):=by rw[Bs];exact⟨e1,h1⟩
    exact AV ez
   have cq:=A7.mp S.cap _ hz
   have cq':(decide (X.N[j]? = some x) && decide (scope.names.lookup x=some .free))=true:=by
    unfold capOne at cq
    simp only[ej] at cq
    exact cq
   rw[B6] at cq'
   have c1:=Az cq'.1
   have c2:=Az cq'.2
   have kx:X.env.scope.names.lookup x=some .cell\/X.env.scope.names.lookup x=some .free:=S.frees (x,.free) (BK c2) rfl
   have hs:σ[j]? = some (some v):=by
    cases q:σ[j]? with
    | none=>rw[q] at h2j;cases h2j
    | some o=>rw[q] at h2j;have:o=some v:=h2j;rw[this]
   obtain⟨m0,hn0,hl0⟩:=I.loc
   obtain⟨u,ru,lk⟩:=hl0 j x v c1 hs (kx.elim (fun z=>.inr (.inl z)) fun z=>.inr (.inr z))
   refine⟨u,ru,.inr ⟨?_,?_⟩⟩
   ·show (relabel scope X.env).names.lookup x = some .cell \/ (relabel scope X.env).names.lookup x = some .free
    rw [Zm, c2]
    simp only[Option.map_some,relK]
    split
    ·exact .inl rfl
    ·exact .inr rfl
   ·rcases lk with ⟨k,_⟩ | ⟨_,c,ec,hc⟩
    ·have k':X.env.scope.names.lookup x=some .local:=k
     rw[k'] at kx
     rcases kx with z | z <;> cases z
    ·obtain⟨c',ec'⟩:=jY (env:=X.env) x scope.names [] (.inl (BK c2))
     have:=sub x c' ec'
     rw[ec] at this;cases this
     exact⟨c,ec',hc.keeps kp⟩
 ·obtain⟨v,q⟩:=I.cell x c (sub x c e)
  exact⟨v,q.keeps kp⟩
 ·show (ixSt ix σ).length=N'.length
  rw[ixSt,AC,S.len]
def PF (X:Cx) (ifs:List Expr) (t:TT):Prop:=∀ (pins:List (Addr×Obj)) (s:Shared) (σ:St) (H:Hp) (Q:Bool->Hp->Prop),Inv X pins σ H s->t σ H Q->wpAny (model X.prog X.w) X.A (xp ifs X.env) (TP X pins σ Q) X.xe s
def tYes:TT:=fun _ H Q=>Q true H
theorem qC:PF X [] tYes:=fun _ _ _ H _ I h=>wpAny_tests_nil ⟨H,I,h⟩
theorem Ju {c:Expr} {t:TT} (hc:PT X c t):PF X [c] t:=fun pins s σ H Q I h=>wpAny_tests_one (hc pins s σ H Q I h)
def jZ (J:It) (g:TG) (tt:TT) (te:TE) (σ0:St) (H1:Hp) (Q:VK) (D:Addr):Prop:=∃ W:Nat->Nat->St->Hp->Prop,(∃ m,W 0 m σ0 (upd H1 D (.lst [])))/\∀ i m σ' H',W i m σ' H' ->
 (J.stop i H'/\Q (.ref D) H')\/(J.go i H'/\∀ x H2,J.yld i H' x H2->g x σ' H2 fun σ2 H3=>tt σ2 H3 fun b H4=>
  if b=true then te σ2 H4 fun v H5=>∃ xs,H5 D=some (.lst xs)/\xs.length < sizeLine/\∃ m',m' < m/\W (i+1) m' σ2 (upd H5 D (.lst (xs++[v]))) else ∃ m',m' < m/\W (i+1) m' σ2 H4)
def tComp (ix:List (Option Nat)) (wi:TI) (g:TG) (tt:TT) (te:TE):TE:=fun σ H Q=>wi σ H fun J H1=>∀ D,H1 D=none->jZ J g tt te (ixSt ix σ) H1 Q D
theorem Jv {elt tg iter:Expr} {ifs:List Expr} {pos:Pos} {g:TG} {tt:TT} {te:TE} {Q:VK} {Z:Value->Addr->Result->Shared->Prop} {it:Addr} {tn:Nat->Heap->Prop} {J:It}
  (S:zF X.N X.env.scope N' ix scope) (hc:X.calm=true)
  (hg:∀ C fp s₀ H₀,PG (qL X N' scope C fp s₀ H₀) tg g) (ht:∀ C fp s₀ H₀,PF (qL X N' scope C fp s₀ H₀) ifs tt) (he:∀ C fp s₀ H₀,PE (qL X N' scope C fp s₀ H₀) elt te)
  (I:Inv X pins σ H s) (T:Turn X.prog X.w X.K tg J fp it tn) (st:tn 0 s.heap) (hf:∀ b ∈ fp,YY X pins H b)
  (h:∀ D,H D=none->∃ W:Nat->Nat->St->Hp->Prop,(∃ m,W 0 m (ixSt ix σ) (upd H D (.lst [])))/\∀ i m σ' H',W i m σ' H' ->
   (J.stop i H'/\Q (.ref D) H')\/(J.go i H'/\∀ x H2,J.yld i H' x H2->g x σ' H2 fun σ2 H3=>tt σ2 H3 fun b H4=>
    if b=true then te σ2 H4 fun v H5=>∃ xs,H5 D=some (.lst xs)/\xs.length < sizeLine/\∃ m',m' < m/\W (i+1) m' σ2 (upd H5 D (.lst (xs++[v]))) else ∃ m',m' < m/\W (i+1) m' σ2 H4))
  (hZ:∀ D C H' s' m,Inv X pins σ H' s'->s'.heap.Ns C m->H' C=none->s.heap.objs.size<=C->Q (.ref D) H'->Z (.ref D) C (.ok .next) s') :
  wpAny (model X.prog X.w) X.A (newList []) (fun acc s3=>wpAny (model X.prog X.w) X.A (newFunctionEnv scope X.env.globals (xq X.env scope) [] X.env.qual none .none (some X.env)) (fun cenv s4=>
   codeAny (model X.prog X.w) X.A (.compStart (.ListComp elt [⟨tg, iter, ifs, 0⟩] scope pos) 0 (.ref it) acc { cenv with scope := relabel scope X.env }) (Z acc cenv.locals) s4) X.xe s3) X.xe s := by
 refine Aj (wpAny_newFunctionEnv S.nocell (by intro y hy;simp at hy) (fun h1 ns1 sb1=>?_) S.kind)
 have I3:Inv X pins σ (upd H s.heap.objs.size (.lst [])) { s with heap:=s.heap.push { cls:=.type "list",data:=.seq ([]:List Value).toArray },toks:=s.toks }:=I.lnew (ys:=[]) (its:=[]) .nil (A0 _)
 generalize hs3:({ s with heap:=s.heap.push { cls:=.type "list",data:=.seq ([]:List Value).toArray } }:Shared)=s3 at ns1 sb1 ⊢
 have I3:Inv X pins σ (upd H s.heap.objs.size (.lst [])) s3:=by rw[<- hs3];exact I3
 have hsz:s3.heap.objs.size=s.heap.objs.size+1:=by rw[<- hs3];exact Bb _ _
 have st3:tn 0 s3.heap:=by
  rw[<- hs3]
  exact T.keep _ _ _ st fun b _ o e=>AD _ e
 have blw:∀ b ∈ fp,b < s.heap.objs.size:=fun b hb=>by
  obtain⟨o,e,_⟩:=T.obj _ _ st b hb
  exact AJ e
 have hf3:∀ b ∈ fp,YY X pins (upd H s.heap.objs.size (.lst [])) b:=fun b hb=>⟨by rw[zk (AN (blw b hb))];exact (hf b hb).1,(hf b hb).2⟩
 obtain⟨W,⟨m0,w0⟩,turn⟩:=h s.heap.objs.size I.fresh
 have kp:∀ b o,s3.heap.get? b=some o->h1.get? b=some o:=fun b o e=>(sb1.2 b (AN (AJ e))).trans (AD _ e)
 have J0:=y4 (tk:=s3.toks+([]:List (Str×Value)).length) S I3 hf3 (fun b hb=>by rw[hsz];exact BF (blw b hb)) ns1 kp
 have st4:tn 0 h1:=T.keep _ _ _ st3 fun b _ o e=>kp b o e
 have stat:∀ {H':Hp} {pl:List (Addr×Obj)},(∀ b ∈ fp,H' b=none)->(∀ b ∈ fp,∀ p ∈ pl,p.1 ≠ b)->∀ b ∈ fp,YY (qL X N' scope s3.heap.objs.size fp s3 (upd H s.heap.objs.size (.lst []))) pl H' b:=fun hn hp b hb=>
  ⟨hn b hb,(J0.ok.exf b hb).1,J0.ok.exfs b hb,.inl hb,(J0.ok.exf b hb).2,fun p q=>hp b hb p q⟩
 have loop:codeAny (model X.prog X.w) X.A (.compLoop (.ListComp elt [⟨tg,iter,ifs,0⟩] scope pos) 0 (.ref it) (.ref s.heap.objs.size) (qL X N' scope s3.heap.objs.size fp s3 (upd H s.heap.objs.size (.lst []))).env) (Z (.ref s.heap.objs.size) s3.heap.objs.size)
   { s3 with heap:=h1,toks:=s3.toks+([]:List (Str×Value)).length }:=by
  refine JV (fun n s'=>∃ i σ' H',Inv (qL X N' scope s3.heap.objs.size fp s3 (upd H s.heap.objs.size (.lst []))) [] σ' H' s'/\tn i s'.heap/\(∀ b ∈ fp,H' b=none)/\W i n σ' H') ?_ m0
   ⟨0,_,_,J0,st4,fun b hb=>(hf3 b hb).1,w0⟩
  rintro n s5 ⟨i,σ5,H5,I5,st5,fr5,w5⟩
  rcases turn i n σ5 H5 w5 with ⟨stop,q⟩ | ⟨go,step⟩
  ·refine thn (T.done (qL X N' scope s3.heap.objs.size fp s3 (upd H s.heap.objs.size (.lst []))) rfl rfl rfl hc i [] s5 σ5 H5 NoX I5 (stat (pl:=[]) fr5 (fun _ _ p hp=>absurd hp (by simp))) st5 stop) fun r s6 ⟨hr,I6⟩=>?_
   subst hr
   have I7:Inv X pins σ H5 s6:=I3.call' (ch:=fp) I6.os I6.base I6.hok I6.bare fun b hb=>⟨(hf3 b hb).2.2.2.1,(hf3 b hb).2.1,(hf3 b hb).2.2.2.2.1,(hf3 b hb).2.2.2.2.2⟩
   obtain⟨m6,n6,_⟩:=I6.loc
   exact hZ _ _ H5 s6 m6 I7 n6 I6.free (by rw[hsz];exact DQ _) q
  ·refine thn (T.item (qL X N' scope s3.heap.objs.size fp s3 (upd H s.heap.objs.size (.lst []))) rfl rfl rfl hc i [] s5 σ5 H5 NoX I5 (stat (pl:=[]) fr5 (fun _ _ p hp=>absurd hp (by simp))) st5 go) fun r s6 ⟨u,hr,h6⟩=>?_
   subst hr
   refine thn h6 fun _ s7 ⟨x,H7,I7,r7,y7,st7,fr7⟩=>?_
   have I7':=I7.pinned (stat (pl:=[]) fr7 (fun _ _ p hp=>absurd hp (by simp))) (T.obj _ _ st7)
   refine thn (hg _ _ _ _ _ s7 σ5 H7 x u _ I7' r7 (step x H7 y7)) fun _ s8 ⟨σ8,H8,I8,q8⟩=>?_
   refine thn (ht _ _ _ _ _ s8 σ8 H8 _ I8 q8) fun b s9 ⟨H9,I9,q9⟩=>?_
   have again:∀ {σ':St} {H':Hp} {s':Shared} {m':Nat},Inv (qL X N' scope s3.heap.objs.size fp s3 (upd H s.heap.objs.size (.lst []))) ([]++wA fp s7.heap) σ' H' s'->m' < n->W (i+1) m' σ' H' ->
     ∃ m,m < n/\∃ i σ' H',Inv (qL X N' scope s3.heap.objs.size fp s3 (upd H s.heap.objs.size (.lst []))) [] σ' H' s'/\tn i s'.heap/\(∀ b ∈ fp,H' b=none)/\W i m σ' H':=fun {σ' H' s' m'} I' hm w'=>by
    refine⟨m',hm,i+1,σ',H',I'.unpinned,T.keep _ _ _ st7 fun b hb o e=>(I'.pin (b,o) (Ai _ (Ai _ (Zg hb e)))).1,fun b hb=>?_,w'⟩
    obtain⟨o,e,d⟩:=T.obj _ _ st7 b hb
    exact (I'.pin (b,o) (Ai _ (Ai _ (Zg hb e)))).2.1
   cases b with
   | false=>
    obtain⟨m',hm,w'⟩:=(show ∃ m',m' < n/\W (i+1) m' σ8 H9 from q9)
    exact again I9 hm w'
   | true=>
    refine thn (he _ _ _ _ _ s9 σ8 H9 _ I9 q9) fun v s10 ⟨y,H10,I10,r10,q10⟩=>?_
    obtain⟨xs,hx,hl,m',hm,w'⟩:=q10
    refine thn (jw _ s10 σ8 H10 (.ref s.heap.objs.size) [y] (.ref s.heap.objs.size) [v] (fun _ H'=>W (i+1) m' σ8 H') I10 rfl (.cons r10 .nil) ⟨_,xs,y,rfl,rfl,hx,hl,w'⟩) fun _ s11 ⟨_,H11,I11,_,q11⟩=>?_
    exact again I11 hm q11
 exact codeAny_compStart_list loop (T.self _ _ _ _ _ st4 loop)
theorem zY {elt tg iter:Expr} {ifs:List Expr} {pos:Pos} {wi:TI} {g:TG} {tt:TT} {te:TE} (S:zF X.N X.env.scope N' ix scope) (hc:X.calm=true) (hi:PI X tg iter wi)
  (hg:∀ C fp s₀ H₀,PG (qL X N' scope C fp s₀ H₀) tg g) (ht:∀ C fp s₀ H₀,PF (qL X N' scope C fp s₀ H₀) ifs tt) (he:∀ C fp s₀ H₀,PE (qL X N' scope C fp s₀ H₀) elt te)
  (hs:∀ x,foldedSetIterable iter X.env x=pure x:=by intro _;rfl):PE X (.ListComp elt [⟨tg,iter,ifs,0⟩] scope pos) (tComp ix wi g tt te):=by
 intro pins s σ H Q I h
 rw[eval_ListComp]
 refine wpAny_comprehension_free (use:=none) rfl hs (Js (S.has I.ok)) S.kind S.locs (thn (hi pins s σ H _ I h) fun v s1 h1=>thn h1 fun itv s2 h2=>?_)
 obtain⟨it,fp,tn,J,H2,e,I2,T,st2,f2,q⟩:=h2
 subst e
 refine Jv (Z:=fun acc C=>compPost (model X.prog X.w) X.A X.xe none (EP X pins σ Q) acc C) S hc hg ht he I2 T st2 f2 q ?_
 intro D C H' s' m I' hn hC hz qD
 refine⟨m,hn,fun h' sb=>?_⟩
 have I'':Inv X pins σ H' { s' with heap:=h',toks:=s'.toks }:=I'.turned (it:=C) (fun b o hb e=>(sb.2 b hb).trans e) hC (fun z=>absurd (AX I2.lt (by rw[<- z];exact hz)) (BC _))
  (.inr (Ag I2.sz hz)) (fun x c e z=>by obtain⟨v,w⟩:=I2.cell x c e;exact absurd (AX w.lt (by rw[z];exact hz)) (BC _)) (fun p hp z=>absurd (AX (AJ (I2.pin p hp).1) (by rw[z];exact hz)) (BC _))
 exact⟨.ref D,H',I'',rfl,qD⟩
theorem jx {i:Nat} {y:Str} {py spos:Pos} {elt tg iter:Expr} {ifs:List Expr} {pos:Pos} {wi:TI} {g:TG} {tt:TT} {te:TE} (S:zF X.N X.env.scope N' ix scope) (hc:X.calm=true) (hi:PI X tg iter wi)
  (hg:∀ C fp s₀ H₀,PG (qL X N' scope C fp s₀ H₀) tg g) (ht:∀ C fp s₀ H₀,PF (qL X N' scope C fp s₀ H₀) ifs tt) (he:∀ C fp s₀ H₀,PE (qL X N' scope C fp s₀ H₀) elt te)
  (hN:X.N.Nodup) (hy:X.N[i]? = some y) (hl:X.env.scope.names.lookup y=some .local) (hsw:swapsWith (.ListComp elt [⟨tg,iter,ifs,0⟩] scope pos) (some (.Name y py)) spos.line X.env=pure true)
  (hs:∀ x,foldedSetIterable iter X.env x=pure x:=by intro _;rfl):PS X (.Assign [.Name y py] (.ListComp elt [⟨tg,iter,ifs,0⟩] scope pos) spos) (tAsg (tComp ix wi g tt te) (jU i)):=by
 intro pins s σ H D I h
 rw[exec_Assign_Name_used _ _ _ _ hsw]
 refine AA (DL (AA ?_))
 rw[arm_evalThenUse_ListComp]
 refine AA (thn (wpAny_comprehension_free (use:=some (assign (.Name y py) X.env)) (Q:=fun _ s'=>SP X pins D .next s') rfl hs (Js (S.has I.ok)) S.kind S.locs
  (thn (hi pins s σ H _ I h) fun v s1 h1=>thn h1 fun itv s2 h2=>?_)) fun _ s' q=>AB (AB q))
 obtain⟨it,fp,tn,J,H2,e,I2,T,st2,f2,q⟩:=h2
 subst e
 refine Jv (Q:=fun x H1=>jU i x σ H1 D.nx) (Z:=fun acc C=>compPost (model X.prog X.w) X.A X.xe (some (assign (.Name y py) X.env)) (fun _ s'=>SP X pins D .next s') acc C) S hc hg ht he I2 T st2 f2 q ?_
 intro Dl C H' s' m I' hn hC hz qD
 have neL:C ≠ X.env.locals:=fun z=>absurd (AX I2.lt (by rw[<- z];exact hz)) (BC _)
 have neC:∀ x c,X.env.cells.lookup x=some c->c ≠ C:=fun x c e z=>by obtain⟨v,w⟩:=I2.cell x c e;exact absurd (AX w.lt (by rw[z];exact hz)) (BC _)
 show wpAny (model X.prog X.w) X.A (assign (.Name y py) X.env (.ref Dl)) _ X.xe s'
 refine wpAny_assign_Name (wx I' hN hy (.inl hl) (show RelV (.ref Dl) (.ref Dl) from rfl) (fun s'' J' ⟨a,sb,ha⟩=>?_) (.inr hl))
 have na:C ≠ a:=by
  rcases ha with z | z
  ·rw[z];exact neL
  ·exact Am (neC y a z)
 refine⟨m,hn.sameBut sb na,fun h' sb'=>?_⟩
 have I'':Inv X pins (σ.set i (some (.ref Dl))) H' { s'' with heap:=h',toks:=s''.toks }:=J'.turned (it:=C) (fun b o hb e=>(sb'.2 b hb).trans e) hC neL (.inr (Ag I2.sz hz)) neC
  (fun p hp z=>absurd (AX (AJ (I2.pin p hp).1) (by rw[z];exact hz)) (BC _))
 exact⟨_,H',I'',qD⟩
end
theorem bt_abs:bootBuiltins "abs" = some (.builtin "abs"):=by decide +kernel
theorem qM:bootBuiltins "len" = some (.builtin "len"):=by decide +kernel
theorem bt_sum:bootBuiltins "sum" = some (.builtin "sum"):=by decide +kernel
theorem bt_all:bootBuiltins "all" = some (.builtin "all"):=by decide +kernel
theorem zw:bootBuiltins "isinstance" = some (.builtin "isinstance"):=by decide +kernel
theorem bt_int:bootBuiltins "int" = some (.type "int"):=by decide +kernel
theorem bt_str:bootBuiltins "str" = some (.type "str"):=by decide +kernel
theorem jE:bootBuiltins "tuple" = some (.type "tuple"):=by decide +kernel
theorem Zw:bootBuiltins "list" = some (.type "list"):=by decide +kernel
def Def (P:Program) (w:World) (K:PySem.W.Frag) (mg:Str->Option Value) (base:Heap) (k:Nat) (x:Str) (ps:List Str) (sp:Sp):Prop:=
 ∃ (f:Addr) (fd:FuncData),jj P w K mg base CX0 k f fd ps sp/\mg x=some (.ref f)/\PySem.W.keepIn K (.ref f)=true/\Binds K fd ps []
section
variable {X : Cx}
theorem zm {k k':Nat} {x:Str} {ps:List Str} {sp:Sp} {e:Expr} {es:List Expr} {t:TA} {p pos:Pos} (D:Def X.prog X.w X.K X.mg X.base k x ps sp) (hr:jV k' X.A) (hk:k<=k') (hg:Gl X x) (ha:PA X (e :: es) t)
  (hdb:(x == ("__debug__" : Str))=false:=by decide) (he:starEach (e :: es) X.env=(false,eval e X.env) :: starEach es X.env:=by rfl) (hpl:(backTo pos (starEach es X.env)).any (·.1)=false:=by rfl) :
  PE X (.Call (.Name x p) (e :: es) [] pos) (tCall sp [] E0 t):=by
 obtain⟨f,fd,F,m,kp,b⟩:=D
 exact xh F (hr.mono hk) hg m kp b .nil pass0 ha hdb he hpl
theorem Jw {ys:List Str}:∀ {us:List Value},zX (ys.map V.str) us->StrsAre us ys:=by
 induction ys with
 | nil=>intro us r;rw[DD] at r;cases r;exact .nil
 | cons y ys ih=>
  intro us r
  rw[AQ] at r
  cases r with
  | cons r1 r2=>
   obtain⟨t,e⟩:=r1
   subst e
   exact .cons y t (ih r2)
def rJoin (K:PySem.W.Frag):V->List V->Hp->VK->Prop:=fun x vs H Q=>∃ z p ys,x=.str z/\vs=[.ref p]/\SqL K H p (ys.map V.str)/\(ys.map (·.length)).sum+ys.length * z.length<=16777216/\Q (.str (PySem.Txt.join z ys)) H
theorem mt_join:MtR X "str.join" (rJoin X.K):=by
 intro pins s σ H x vs v us Q I rx rv h
 obtain⟨z,p,ys,rfl,rfl,hq,hz,q⟩:=h
 obtain⟨t,rfl⟩:=rx
 obtain⟨u,rfl,ru⟩:=vals1 rv
 cases ru
 obtain⟨its,r,pl,_⟩:=I.list hq
 exact join_list pl.isList (Jw r) hz fun t' k=>⟨.str _,H,I.tok k,⟨_,rfl⟩,q⟩
theorem call_sum (hc:X.calm=true):qA X (.builtin "sum") (fun xs H Q=>∃ (p:Addr) (ns:List Int),xs=[.ref p]/\SqL X.K H p (ns.map V.int)/\Q (.int ns.sum) H):=by
 intro pins s σ H xs us Q I r h
 obtain⟨p,ns,rfl,hq,q⟩:=h
 obtain⟨u,rfl,ru⟩:=vals1 r
 cases ru
 obtain⟨its,rv,pl,_⟩:=I.list hq
 have hi:IntsAre its ns:=intsAre_of rv
 obtain⟨ys,hys⟩:=(hi.allInts).items
 refine sum_intListG (xs:=ys) (I.ok.hd hc) (by rw[<- hys];exact pl.isList) fun h' tk t' hk=>⟨.int _,H,I.kept hk,⟨t',rfl⟩,?_⟩
 have e1:(numsOf its).sum=preSum (numAt ys) ys.size:=by
  have e2:numsOf its.toArray.toList=numsOf (intItems ys).toList:=by rw[hys]
  have e3:numsOf its=numsOf (intItems ys).toList:=e2
  rw[e3,nums_intItems,preSum_eq,A8 (by simp)]
 rw[<- e1,hi.numsOf]
 exact q
theorem xr:qA X (.builtin "isinstance") (fun xs H Q=>∃ x n t b,xs=[x,.ty n]/\yr X.K H x t/\PySem.W.kitOne X.K t (.type n)=some b/\Q (.bl b) H):=by
 intro pins s σ H xs us Q I r h
 obtain⟨x,n,t,b,rfl,ty,e,q⟩:=h
 obtain⟨u,w',rfl,r1,r2⟩:=Y5 r
 cases r2
 exact xg I r1 ty e fun tk=>⟨.bl b,H,I.tok tk,rfl,q⟩
theorem JW {K:PySem.W.Frag} (n:String):PySem.W.kitOne K (.type n) (.type n)=some true:=by simp[PySem.W.kitOne]
def Its (z:Str):It:=⟨fun i _=>i < z.cps.size,fun i H x H'=>H'=H/\∃ c,z.cps[i]? = some c/\x=.str ⟨#[c]⟩,fun i _=>z.cps.size<=i⟩
def iStr (tl:TE):TI:=fun σ H R=>tl σ H fun x H1=>∃ z,x=.str z/\R (Its z) H1
theorem turn_str {P:Program} {w:World} {K:PySem.W.Frag} {tg:Expr} {z:Str} {tk:Tok} {it:Addr} {ty:String} (hty:ty = "str_ascii_iterator" \/ ty = "str_iterator") :
  Turn P w K tg (Its z) [it] it (fun i h=>h.IsStrIter it ty z tk i/\i<=z.cps.size) where
 mem:=by simp
 obj:=fun i h st b hb=>by
  have e:b=it:=by simpa using hb
  subst e
  obtain⟨⟨o,h1,h2,h3⟩,_⟩:=st
  exact⟨o,h1,fun v q=>by rw[h3] at q;cases q⟩
 keep:=fun i h h' st k=>by
  obtain⟨⟨o,h1,h2⟩,h3⟩:=st
  exact⟨⟨o,k it (by simp) o h1,h2⟩,h3⟩
 item:=by
  intro X hP hw hK hc i pins s σ H E I hf st hg
  subst hP hw hK
  obtain⟨f0,f1,f2,f3,f4,f5⟩:=hf it (by simp)
  have fin:∀ (v:Value) (h':Heap) (tk':Nat),SignAt z i v->h'.IsStrIter it ty z tk (i+1)->(∀ b o,b ∉ [it]->s.heap.get? b=some o->h'.get? b=some o) ->
    ∃ u,some v=some u/\wpAny (model X.prog X.w) X.A (letOwnedTupleGo tg (.ref it) u) (fun _ s2=>∃ x H',Inv X pins σ H' s2/\RelV x u/\(Its z).yld i H x H'/\(s2.heap.IsStrIter it ty z tk (i+1)/\i+1<=z.cps.size)/\∀ b ∈ [it],H' b=none) E { s with heap:=h',toks:=tk' }:=by
   intro v h' tk' hv st' kk
   obtain⟨c,t,hcx,rfl⟩:=hv
   have I1:Inv X pins σ H { s with heap:=h',toks:=tk' }:=I.turned (fun b o hb e=>kk b o (by simpa using hb) e) f0 f1 f3 f4 f5
   obtain⟨o,h1,h2,h3⟩:=id st'
   refine⟨_,rfl,go_of (s:={ s with heap:=h',toks:=tk' }) (n:=ty) h1 h2 h3 ?_ ⟨.str ⟨#[c]⟩,H,I1,⟨t,rfl⟩,⟨rfl,c,hcx,rfl⟩,⟨st',hg⟩,fun b hb=>(hf b hb).1⟩⟩
   rcases hty with rfl | rfl <;> decide
  rcases hty with rfl | rfl
  ·exact (Walks.strAscii (I.ok.hd hc) it z tk).item i s _ _ hg st.1 fun v h' tk' hv st' kk=>fin v h' tk' hv st' kk
  ·exact (Walks.strWide (I.ok.hd hc) it z tk).item i s _ _ hg st.1 fun v h' tk' hv st' kk=>fin v h' tk' hv st' kk
 done:=by
  intro X hP hw hK hc i pins s σ H E I hf st hg
  subst hP hw hK
  obtain⟨f0,f1,f2,f3,f4,f5⟩:=hf it (by simp)
  have e:i=z.cps.size:=Nat.le_antisymm st.2 hg
  subst e
  rcases hty with rfl | rfl
  ·exact (Walks.strAscii (I.ok.hd hc) it z tk).done s _ _ st.1 fun h' tk' kk=>⟨rfl,I.turned (fun b o hb e=>kk b o (by simpa using hb) e) f0 f1 f3 f4 f5⟩
  ·exact (Walks.strWide (I.ok.hd hc) it z tk).done s _ _ st.1 fun h' tk' kk=>⟨rfl,I.turned (fun b o hb e=>kk b o (by simpa using hb) e) f0 f1 f3 f4 f5⟩
 self:=fun A i s Q E st h=>by
  rcases hty with rfl | rfl
  ·exact wpAny_pyIter_striter_ascii st.1 h
  ·exact wpAny_pyIter_striter_wide st.1 h
theorem pi_str {tg l:Expr} {tl:TE} (hl:PE X l tl):PI X tg l (iStr tl):=by
 intro pins s σ H R I h
 refine thn (hl pins s σ H _ I h) fun v s1 ⟨x,H1,I1,r1,q1⟩=>?_
 obtain⟨z,rfl,q⟩:=q1
 obtain⟨t,rfl⟩:=r1
 have fin:∀ ty:String,ty = "str_ascii_iterator" \/ ty = "str_iterator" -> PIE X pins σ tg R (.ref s1.heap.objs.size) { s1 with heap:=s1.heap.push { cls:=.type ty,data:=.fields #[.str z t,.int 0 0] } }:=fun ty hty=>by
  refine⟨s1.heap.objs.size,[s1.heap.objs.size],_,_,H1,rfl,I1.kept (t':=s1.toks) fun b o e=>AD _ e,turn_str (z:=z) (tk:=t) hty,⟨⟨_,AH _ rfl,rfl,rfl⟩,A0 _⟩,fun b hb=>?_,q⟩
  have e:b=s1.heap.objs.size:=by simpa using hb
  subst e
  exact I1.fpOk (AG _) (I1.hok.fresh (AG _))
 cases ha:z.cps.all (· < 128)
 ·exact wpAny_pyIter_wide ha (fin _ (.inr rfl))
 ·exact wpAny_pyIter_ascii ha (fin _ (.inl rfl))
def rSlS:V->Option Int->Option Int->Hp->VK->Prop:=fun x lo hi H Q=>∃ z,x=.str z/\z.length<=sizeLine/\Q (.str (PySem.Txt.slice z lo hi)) H
theorem sl_str:SlR X rSlS:=by
 intro pins s σ H x v vl vu lo hi sl Q I rx hs pl pu h
 obtain⟨z,rfl,hz,q⟩:=h
 obtain⟨t,rfl⟩:=rx
 refine⟨"str",_,F.slot_str_getitem.lookup,typeIs_str _ _ _,?_⟩
 cases pl with
 | none=>
  cases pu with
  | none=>exact CZ (l:=none) (u:=none) (st:=none) hs rfl (DV ⟨Ag (CP z _ _) hz,fun t' k=>⟨.str _,H,I.tok k,⟨t',rfl⟩,q⟩⟩)
  | int j uj=>exact CZ (l:=none) (u:=some (j,uj)) (st:=none) hs rfl (DV ⟨Ag (CP z _ _) hz,fun t' k=>⟨.str _,H,I.tok k,⟨t',rfl⟩,q⟩⟩)
 | int i ui=>
  cases pu with
  | none=>exact CZ (l:=some (i,ui)) (u:=none) (st:=none) hs rfl (DV ⟨Ag (CP z _ _) hz,fun t' k=>⟨.str _,H,I.tok k,⟨t',rfl⟩,q⟩⟩)
  | int j uj=>exact CZ (l:=some (i,ui)) (u:=some (j,uj)) (st:=none) hs rfl (DV ⟨Ag (CP z _ _) hz,fun t' k=>⟨.str _,H,I.tok k,⟨t',rfl⟩,q⟩⟩)
theorem sl_any:SlR X (fun x lo hi H Q=>rSlL X.K x lo hi H Q\/(rSlT X.K x lo hi H Q\/rSlS x lo hi H Q)):=sl_list.or (sl_tup.or sl_str)
end
def cW (R:St->Prop) (P:Nat->List V->Hp->Prop) (n:Nat) (D:Addr):Nat->Nat->St->Hp->Prop:=fun i m σ' H=>m=n - i/\i<=n/\R σ'/\∃ ys,P i ys H/\H D=some (.lst ys)
def cYes (R:St->Prop) (P:Nat->List V->Hp->Prop) (n:Nat) (D:Addr) (σ:St) (i:Nat):VK:=fun v H5=>∃ xs,H5 D=some (.lst xs)/\xs.length < sizeLine/\∃ m',m' < n - i/\cW R P n D (i+1) m' σ (upd H5 D (.lst (xs++[v])))
def cNo (R:St->Prop) (P:Nat->List V->Hp->Prop) (n:Nat) (D:Addr) (σ:St) (i:Nat):Hp->Prop:=fun H4=>∃ m',m' < n - i/\cW R P n D (i+1) m' σ H4
theorem Jf {R:St->Prop} {P:Nat->List V->Hp->Prop} {n:Nat} {D:Addr} {σ:St} {i:Nat} {ys:List V} {v:V} {H:Hp} (hi:i < n) (r:R σ) (h:H D=some (.lst ys)) (hl:ys.length < sizeLine) (p:P (i+1) (ys++[v]) (upd H D (.lst (ys++[v])))):cYes R P n D σ i v H:=
 ⟨ys,h,hl,n - (i+1),by omega,rfl,hi,r,_,p,zc⟩
theorem cno {R:St->Prop} {P:Nat->List V->Hp->Prop} {n:Nat} {D:Addr} {σ:St} {i:Nat} {ys:List V} {H:Hp} (hi:i < n) (r:R σ) (h:H D=some (.lst ys)) (p:P (i+1) ys H):cNo R P n D σ i H:=
 ⟨n - (i+1),by omega,rfl,hi,r,_,p,h⟩
theorem ZN {J:It} {g:TG} {tt:TT} {te:TE} {σ0:St} {H1:Hp} {Q:VK} {D:Addr} {n:Nat} {xv:Nat->V} {st:Nat->St} (R:St->Prop) (P:Nat->List V->Hp->Prop) (r0:R σ0) (h0:P 0 [] (upd H1 D (.lst [])))
  (hj:∀ i ys H,i < n->P i ys H->H D=some (.lst ys)->J.go i H/\∀ x H2,J.yld i H x H2->H2=H/\x=xv i) (he:∀ ys H,P n ys H->H D=some (.lst ys)->J.stop n H)
  (hg:∀ i ys σ' H (K:St->Hp->Prop),i < n->R σ'->P i ys H->K (st i) H->g (xv i) σ' H K)
  (hs:∀ i ys H,i < n->P i ys H->H D=some (.lst ys)->tt (st i) H fun b H4=>if b=true then te (st i) H4 (cYes R P n D (st i) i) else cNo R P n D (st i) i H4)
  (hd:∀ ys H,P n ys H->H D=some (.lst ys)->Q (.ref D) H) :
  jZ J g tt te σ0 H1 Q D:=by
 refine⟨cW R P n D,⟨n,by simp[cW,r0];exact⟨_,h0,zc⟩⟩,?_⟩
 rintro i m σ' H' ⟨rfl,hi,r,ys,p,hD⟩
 by_cases hlt:i < n
 ·obtain⟨g1,g2⟩:=hj i ys H' hlt p hD
  refine .inr ⟨g1,fun x H2 y=>?_⟩
  obtain⟨rfl,rfl⟩:=g2 x H2 y
  exact hg i ys σ' H2 _ hlt r p (hs i ys H2 hlt p hD)
 ·have e:i=n:=by omega
  subst e
  exact .inl ⟨he ys H' p hD,hd ys H' p hD⟩
def yu (t:Nat) (σ0:St):St->Prop:=fun σ'=>∀ v,σ'.set t v=σ0.set t v
theorem rset0 {t:Nat} {σ0:St}:yu t σ0 σ0:=fun _=>rfl
theorem qS {t:Nat} {σ0:St} {x:Option V}:yu t σ0 (σ0.set t x):=fun v=>by rw[List.set_set]
theorem qF {t:Nat} {tt:TT} {te:TE} {σ0:St} {H1:Hp} {Q:VK} {D:Addr} {lo:Int} {n:Nat} (P:Nat->List V->Hp->Prop) (h0:P 0 [] (upd H1 D (.lst [])))
  (hs:∀ i ys H,i < n->P i ys H->H D=some (.lst ys)->tt (σ0.set t (some (.int (lo+i)))) H fun b H4=>if b=true then te (σ0.set t (some (.int (lo+i)))) H4 (cYes (yu t σ0) P n D (σ0.set t (some (.int (lo+i)))) i) else cNo (yu t σ0) P n D (σ0.set t (some (.int (lo+i)))) i H4)
  (hd:∀ ys H,P n ys H->H D=some (.lst ys)->Q (.ref D) H) :
  jZ (Itr lo n) (jU t) tt te σ0 H1 Q D:=
 ZN (xv:=fun i=>.int (lo+i)) (st:=fun i=>σ0.set t (some (.int (lo+i)))) (yu t σ0) P rset0 h0 (fun i _ H hi _ _=>⟨hi,fun x H2 y=>y⟩) (fun _ _ _ _=>AG n)
  (fun i _ σ' H K _ r _ k=>by show K (σ'.set t (some (.int (lo+i)))) H;rw[r];exact k) hs hd
theorem jy {K:PySem.W.Frag} {a:Addr} {xs:List V} {t:Nat} {tt:TT} {te:TE} {σ0:St} {H1:Hp} {Q:VK} {D:Addr} (P:Nat->List V->Hp->Prop) (h0:P 0 [] (upd H1 D (.lst []))) (hl:∀ i ys H,P i ys H->H D=some (.lst ys)->SqL K H a xs)
  (hs:∀ i ys H x,xs[i]? = some x->P i ys H->H D=some (.lst ys)->tt (σ0.set t (some x)) H fun b H4=>if b=true then te (σ0.set t (some x)) H4 (cYes (yu t σ0) P xs.length D (σ0.set t (some x)) i) else cNo (yu t σ0) P xs.length D (σ0.set t (some x)) i H4)
  (hd:∀ ys H,P xs.length ys H->H D=some (.lst ys)->Q (.ref D) H) :
  jZ (Itl K a) (jU t) tt te σ0 H1 Q D:=by
 have get:∀ i,i < xs.length->xs[i]? = some (xs.getD i .non):=fun i hi=>by simp[List.getD,hi]
 refine ZN (xv:=fun i=>xs.getD i .non) (st:=fun i=>σ0.set t (some (xs.getD i .non))) (yu t σ0) P rset0 h0 (fun i ys H hi p hD=>⟨⟨xs,_,hl i ys H p hD,get i hi⟩,fun x H2 y=>⟨y.1,?_⟩⟩) (fun ys H p hD=>⟨xs,hl _ ys H p hD,AG _⟩)
  (fun i _ σ' H K _ r _ k=>by show K (σ'.set t (some (xs.getD i .non))) H;rw[r];exact k) (fun i ys H hi p hD=>hs i ys H _ (get i hi) p hD) hd
 have e:=y.2 xs (hl i ys H p hD)
 rw[get i hi] at e
 exact (AL e).symm
theorem Qw {K:PySem.W.Frag} {a:Addr} {xs:List V} {t:Nat} {tt:TT} {te:TE} {σ0:St} {H1:Hp} {Q:VK} {D:Addr} (P:Nat->List V->Hp->Prop) (h0:P 0 [] (upd H1 D (.lst []))) (hl:∀ i ys H,P i ys H->H D=some (.lst ys)->SqT K H a xs)
  (hs:∀ i ys H x,xs[i]? = some x->P i ys H->H D=some (.lst ys)->tt (σ0.set t (some x)) H fun b H4=>if b=true then te (σ0.set t (some x)) H4 (cYes (yu t σ0) P xs.length D (σ0.set t (some x)) i) else cNo (yu t σ0) P xs.length D (σ0.set t (some x)) i H4)
  (hd:∀ ys H,P xs.length ys H->H D=some (.lst ys)->Q (.ref D) H) :
  jZ (Itt K a) (jU t) tt te σ0 H1 Q D:=by
 have get:∀ i,i < xs.length->xs[i]? = some (xs.getD i .non):=fun i hi=>by simp[List.getD,hi]
 refine ZN (xv:=fun i=>xs.getD i .non) (st:=fun i=>σ0.set t (some (xs.getD i .non))) (yu t σ0) P rset0 h0 (fun i ys H hi p hD=>⟨⟨xs,_,hl i ys H p hD,get i hi⟩,fun x H2 y=>⟨y.1,?_⟩⟩) (fun ys H p hD=>⟨xs,hl _ ys H p hD,AG _⟩)
  (fun i _ σ' H K _ r _ k=>by show K (σ'.set t (some (xs.getD i .non))) H;rw[r];exact k) (fun i ys H hi p hD=>hs i ys H _ (get i hi) p hD) hd
 have e:=y.2 xs (hl i ys H p hD)
 rw[get i hi] at e
 exact (AL e).symm
theorem yv {z:Str} {t:Nat} {tt:TT} {te:TE} {σ0:St} {H1:Hp} {Q:VK} {D:Addr} (P:Nat->List V->Hp->Prop) (h0:P 0 [] (upd H1 D (.lst [])))
  (hs:∀ i ys H c,z.cps[i]? = some c->P i ys H->H D=some (.lst ys)->tt (σ0.set t (some (.str ⟨#[c]⟩))) H fun b H4=>if b=true then te (σ0.set t (some (.str ⟨#[c]⟩))) H4 (cYes (yu t σ0) P z.cps.size D (σ0.set t (some (.str ⟨#[c]⟩))) i) else cNo (yu t σ0) P z.cps.size D (σ0.set t (some (.str ⟨#[c]⟩))) i H4)
  (hd:∀ ys H,P z.cps.size ys H->H D=some (.lst ys)->Q (.ref D) H) :
  jZ (Its z) (jU t) tt te σ0 H1 Q D:=by
 have get:∀ i,i < z.cps.size->z.cps[i]? = some (z.cps.getD i 0):=fun i hi=>by simp[Array.getD,hi]
 refine ZN (xv:=fun i=>.str ⟨#[z.cps.getD i 0]⟩) (st:=fun i=>σ0.set t (some (.str ⟨#[z.cps.getD i 0]⟩))) (yu t σ0) P rset0 h0 (fun i ys H hi p hD=>⟨hi,fun x H2 y=>⟨y.1,?_⟩⟩) (fun ys H p hD=>AG _)
  (fun i _ σ' H K _ r _ k=>by show K (σ'.set t (some (.str ⟨#[z.cps.getD i 0]⟩))) H;rw[r];exact k) (fun i ys H hi p hD=>hs i ys H _ (get i hi) p hD) hd
 obtain⟨c,e,ex⟩:=y.2
 rw[get i hi] at e
 rw[ex,<- AL e]
theorem yes {σ:St} {H:Hp} {A B:Hp->Prop} (h:A H):tYes σ H fun b H4=>if b=true then A H4 else B H4:=by
 show if true=true then A H else B H
 rw[if_pos rfl]
 exact h
section
variable {X : Cx} (K : PySem.W.Frag)
theorem zh (hK:X.K=K:=by rfl):IxR X (rIx K):=hK ▸ ix_seq
theorem Z7 (hK:X.K=K:=by rfl):OpR X (compareOp .In) (rIn K false):=hK ▸ xm
theorem ZO (hK:X.K=K:=by rfl):OpR X (compareOp .NotIn) (rIn K true):=hK ▸ wJ
theorem Z8 (hK:X.K=K:=by rfl):SlR X (fun x lo hi H Q=>rSlL K x lo hi H Q\/(rSlT K x lo hi H Q\/rSlS x lo hi H Q)):=hK ▸ sl_any
theorem kmt_join (hK:X.K=K:=by rfl):MtR X "str.join" (rJoin K):=hK ▸ mt_join
theorem zN (hK:X.K=K:=by rfl):qA X (.builtin "len") (fun xs H Q=>∃ x n,xs=[x]/\LenV K x H n/\Q (.int n) H):=hK ▸ call_len
theorem qT (hK:X.K=K:=by rfl):qA X (.type "list") (fun xs H Q=>∃ p ys,xs=[.ref p]/\(SqL K H p ys\/SqT K H p ys)/\∀ l,H l=none->Q (.ref l) (upd H l (.lst ys))):=hK ▸ wK
theorem zT (hK:X.K=K:=by rfl):qA X (.type "tuple") (fun xs H Q=>∃ p ys,xs=[.ref p]/\((SqL K H p ys/\∀ l,H l=none->Q (.ref l) (upd H l (.tup ys)))\/(SqT K H p ys/\Q (.ref p) H))):=hK ▸ JU
theorem xt (hc:X.calm=true) (hK:X.K=K:=by rfl):qA X (.builtin "sum") (fun xs H Q=>∃ (p:Addr) (ns:List Int),xs=[.ref p]/\SqL K H p (ns.map V.int)/\Q (.int ns.sum) H):=hK ▸ call_sum hc
theorem Jx (hK:X.K=K:=by rfl):qA X (.builtin "isinstance") (fun xs H Q=>∃ x n t b,xs=[x,.ty n]/\yr K H x t/\PySem.W.kitOne K t (.type n)=some b/\Q (.bl b) H):=hK ▸ xr
theorem zP {tg l:Expr} {tl:TE} (hl:PE X l tl) (hK:X.K=K:=by rfl):PI X tg l (iList K tl):=hK ▸ pi_list hl
theorem Zx {tg l:Expr} {tl:TE} (hl:PE X l tl) (hK:X.K=K:=by rfl):PI X tg l (iTup K tl):=hK ▸ pi_tup hl
theorem ZP {o e:Expr} {es:List Expr} {to:TE} {t:TA} {name:Str} {apos cpos:Pos} {T id:String} {r:V->List V->Hp->VK->Prop} (pa:PlainAttrs T) (slot:Slot T name id) (hty:typeOf (.builtin id)=pure (.type "method_descriptor")) (hm:MtR X id r) (ho:PE X o to) (ha:PA X (e :: es) t)
  (hbase:attributeBase o name X.env (eval o X.env)=eval o X.env:=by rfl)
  (hfew:((backTo cpos (starEach (e :: es) X.env)).all (fun x=>!x.1) && (backToKw cpos (keywordEach [] X.env)).all (fun x=>x.1.isSome)
   && decide ((e :: es).length+([]:List Keyword).length+(if ([]:List Keyword).isEmpty then 0 else 1) < 30))=true:=by rfl)
  (hline:(apos.endLine == cpos.line)=true:=by rfl) (hs:starEach (e :: es) X.env=(false,eval e X.env) :: starEach es X.env:=by rfl) (hplain:(backTo cpos (starEach es X.env)).any (·.1)=false:=by rfl) (hK:X.K=K:=by rfl) :
  PE X (.Call (.Attribute o name apos) (e :: es) [] cpos) (tBM K T r to t):=hK ▸ pe_bm pa slot hty hm ho ha hbase hfew hline hs hplain
theorem kpe_bm0 {o:Expr} {to:TE} {name:Str} {apos cpos:Pos} {T id:String} {r:V->List V->Hp->VK->Prop} (pa:PlainAttrs T) (slot:Slot T name id) (hty:typeOf (.builtin id)=pure (.type "method_descriptor")) (hm:MtR X id r) (ho:PE X o to)
  (hbase:attributeBase o name X.env (eval o X.env)=eval o X.env:=by rfl) (hline:(apos.endLine == cpos.line)=true:=by rfl) (hK:X.K=K:=by rfl):PE X (.Call (.Attribute o name apos) [] [] cpos) (tBM0 K T r to):=hK ▸ pe_bm0 pa slot hty hm ho hbase hline
theorem Zy {es:List Expr} {k:Nat} {pos:Pos} {t:TGs} {n:Nat} (hc:X.calm=true) (h:PGs X es t) (hn:(assignEach es X.env).length=n:=by rfl) (hst:(assignEach es X.env).findIdx? (·.1)=none:=by rfl) (hK:X.K=K:=by rfl):PG X (.Tuple es k pos) (gTup K n t):=hK ▸ pg_tup hc h hn hst
end
section
variable {X : Cx}
end
theorem qd.some {P:Program} {w:World} {H:Hp} {h:Heap} {a:Addr} {o:HO} (x:qd P w H h a o):∃ ob,h.get? a=some ob:=by
 cases o with
 | lst xs=>obtain⟨_,_,_,_,e⟩:=x;exact⟨_,e⟩
 | tup xs=>obtain⟨_,_,_,o,e,_⟩:=x;exact⟨_,e⟩
 | dK kvs=>obtain⟨_,_,_,_,o,_,_,e,_⟩:=x;exact⟨_,e⟩
 | dT kvs=>obtain⟨_,_,_,_,o,_,_,e,_⟩:=x;exact⟨_,e⟩
 | set S n=>obtain⟨o,_,_,_,e,_⟩:=x;exact⟨_,e⟩
 | ins C dx fs=>obtain⟨_,_,_,e,_⟩:=x;exact⟨_,e⟩
 | own y=>exact x
 | xd fs=>obtain⟨_,⟨_,_,_,e,_⟩,_⟩:=x;exact⟨_,e⟩
 | rng lo hi=>obtain⟨_,_,_,e⟩:=x;exact⟨_,e⟩
 | frz ob u=>obtain⟨e,_⟩:=x;exact⟨_,e⟩
 | tbl ps=>exact⟨_,x⟩
 | met f y=>exact⟨_,x⟩
 | ext φ=>obtain⟨_,z,_⟩:=x;exact z
section
variable {X : Cx} {pins : List (Addr × Obj)} {σ : St} {H H' : Hp} {s s' : Shared} {h2 : Heap}
theorem Inv.left (I:Inv X pins σ H s) (hex:X.ex=[]) (k:∀ b o,s.heap.get? b=some o->b ∉ frs X.stack->((∃ u,H b=some u)\/∃ u,X.s₀.heap.get? b=some u)->h2.get? b=some o)
  (sl:∀ b o,s.heap.get? b=some o->b ∈ frs X.outer->∃ q,h2.get? b=some { o with slots:=q }):Un (frs X.outer) [] X.H₀ H X.s₀.heap h2/\HOk X.prog X.w H h2:=by
 have nx:∀ b,b ∉ X.ex:=fun b z=>by rw[hex] at z;exact absurd z (by simp)
 have neL:∀ b o,X.s₀.heap.get? b=some o->b ≠ X.env.locals:=fun b o e=>AN (AX (AJ e) I.ok.above)
 have nst:∀ b,b ≠ X.env.locals->b ∉ frs X.outer->b ∉ frs X.stack:=fun b h1 h3 z=>(AR.mp (I.stkSub b z)).elim h1 h3
 refine⟨⟨fun b o e n nf _=>?_,fun b o e n hb _=>?_,fun b o e n _=>I.base.free b o e n (nx b),fun b o e _=>?_,I.base.tups,I.base.frzs,I.base.tbls⟩,fun a o e=>?_⟩
 ·exact k b o (I.base.keep b o e n nf (nx b)) (nst b (neL b o e) nf) (.inr ⟨o,e⟩)
 ·obtain⟨q,e1⟩:=I.base.slot b o e n hb (nx b)
  obtain⟨q',e2⟩:=sl b _ e1 hb
  exact⟨q',e2⟩
 ·obtain⟨o',e1⟩:=I.base.there b o e (nx b)
  by_cases hb:b ∈ frs X.outer
  ·obtain⟨q,e2⟩:=sl b o' e1 hb
   exact⟨_,e2⟩
  ·exact⟨o',k b o' e1 (nst b (neL b o e) hb) (.inr ⟨o,e⟩)⟩
 ·refine (I.hok a o e).stay (fun b u hb q=>?_) (fun _ q=>q) fun _ _ q=>q
  have ht:∃ u,H b=some u:=by
   rcases hb with z | z
   ·exact⟨o,by rw[z];exact e⟩
   ·exact⟨_,z⟩
  refine k b u q (fun z=>?_) (.inl ht)
  obtain⟨v,hv⟩:=ht
  rw[I.stkFree b z] at hv
  cases hv
theorem Inv.cov (I:Inv X pins σ H s) (hex:X.ex=[]) {b:Addr} (h:(∃ u,H b=some u)\/∃ u,X.s₀.heap.get? b=some u):(∃ o,s.heap.get? b=some o)/\b ≠ X.env.locals:=by
 rcases h with ⟨u,e⟩ | ⟨u,e⟩
 ·refine⟨(I.hok b u e).some,fun z=>?_⟩
  rw[z,I.free] at e
  cases e
 ·exact⟨I.base.there b u e (by rw[hex];simp),AN (AX (AJ e) I.ok.above)⟩
end
section
variable {P : Program} {w : World} {K : PySem.W.Frag} {mg : Str -> Option Value} {base : Heap} {N : List Str} {qual : Str} {scope : Scope} {f : Addr} {cd : Value} {A : Around} {outer : List Env} {s : Shared} {H : Hp} {E : XK}
theorem frs_mem {l:List Env}:∀ env ∈ l,∀ b,env.frame=some b->b ∈ frs l:=fun env he b hb=>Cm.mpr ⟨env,he,hb⟩
end
section
variable {X : Cx}
end
section
variable {X : Cx}
end
section
variable {X : Cx} {pins : List (Addr × Obj)} {σ : St} {H : Hp} {s : Shared}
theorem Inv.adopt {e:Addr} {u:HO} (I:Inv X pins σ H s) (hn:H e=none) (h0:X.s₀.heap.get? e=none) (nL:e ≠ X.env.locals) (nC:∀ x c,X.env.cells.lookup x=some c->c ≠ e) (nP:∀ p ∈ X.pn++pins,p.1 ≠ e)
  (ok:qd X.prog X.w (upd H e u) s.heap e u):Inv X pins σ (upd H e u) s:=by
 have ne:∀ {b:Addr} {v:HO},H b=some v->b ≠ e:=fun q=>zr q hn
 refine⟨I.ok,I.os,I.bare,⟨I.base.keep,I.base.slot,fun b o q n hx=>?_,I.base.there,fun b xs q=>?_,fun b o v q=>?_,fun b ps q=>?_⟩,I.loc,I.cell,?_,fun x c q=>?_,fun p hp=>?_,fun a o q=>?_,I.len⟩
 ·have z:b ≠ e:=fun z=>by rw[z,h0] at q;cases q
  rw[zk z]
  exact I.base.free b o q n hx
 ·have q1:=I.base.tups b xs q
  rw[zk (ne q1)]
  exact q1
 ·have q1:=I.base.frzs b o v q
  rw[zk (ne q1)]
  exact q1
 ·obtain⟨more,q1⟩:=I.base.tbls b ps q
  exact⟨more,by rw[zk (ne q1)];exact q1⟩
 ·rw[zk (Am nL)]
  exact I.free
 ·rw[zk (nC x c q)]
  exact I.freeC x c q
 ·obtain⟨p1,p2,p3⟩:=I.pin p hp
  exact⟨p1,by rw[zk (nP p hp)];exact p2,p3⟩
 ·by_cases z:a=e
  ·subst z
   rw[zc] at q
   cases q
   exact ok
  ·rw[zk z] at q
   exact (I.hok a o q).stay (fun _ _ _ r=>r) (fun c r=>by rw[zk (ne r)];exact r) fun c xs r=>by rw[zk (ne r)];exact r
theorem ZQ {M:Model} {A:Around} {E:Value->Shared->Prop} {i:Nat} {n:Str} {pos:Pos} {Q:Unit->Shared->Prop} (I:Inv X pins σ H s) (hN:X.N.Nodup) (hi:X.N[i]? = some n) (hk:X.env.scope.names.lookup n=some .local)
  (h:∀ s',Inv X pins (σ.set i none) H s'->Q () s'):wpAny M A (do bindName X.env n .none;unbindBehindTheSuite X.env n pos) Q E s:=by
 obtain⟨m,hn,hl⟩:=id I.loc
 have hcls:(X.env.scope.kind == .class || (X.env.scope.kind == .module && X.env.locals != X.env.globals))=false:=by rw[I.ok.kind];rfl
 have hiσ:i < σ.length:=by rw[I.len];exact (AE.mp hi).1
 refine wpAny_nameGoes_keeps hk hn hcls fun h' v hn' hs=>?_
 have old:∀ b o,X.s₀.heap.get? b=some o->b ≠ X.env.locals:=fun b o e=>AN (AX (AJ e) I.ok.above)
 refine h _ ⟨I.ok,I.os,I.bare,⟨fun b o e n hb hx=>?_,fun b o e n hb hx=>?_,I.base.free,fun b o e hx=>?_,I.base.tups,I.base.frzs,I.base.tbls⟩,⟨_,hn',fun j y v' e1 e2 e3=>?_⟩,fun y c e=>?_,I.free,I.freeC,fun p hp=>?_,fun b ob e=>?_,by simpa using I.len⟩
 ·exact (hs.2 b (old b o e)).trans (I.base.keep b o e n hb hx)
 ·obtain⟨q,e1⟩:=I.base.slot b o e n hb hx
  exact⟨q,(hs.2 b (old b o e)).trans e1⟩
 ·obtain⟨o',e1⟩:=I.base.there b o e hx
  exact⟨o',(hs.2 b (old b o e)).trans e1⟩
 ·by_cases hj:j=i
  ·subst hj
   rw[DE hiσ] at e2
   cases e2
  ·rw[DS (Am hj)] at e2
   obtain⟨u',r',q⟩:=hl j y v' e1 e2 e3
   refine⟨u',r',?_⟩
   rcases q with ⟨k,e⟩ | ⟨k,c,e,z⟩
   ·refine .inl ⟨k,?_⟩
    have ny:y ≠ n:=fun e=>hj (JQ hN e1 (e ▸ hi))
    show (if y=n then v else m y)=some u'
    rw[if_neg ny]
    exact e
   ·exact .inr ⟨k,c,e,z.sameBut hs (I.cne y c e)⟩
 ·obtain⟨w',z⟩:=I.cell y c e
  exact⟨w',z.sameBut hs (I.cne y c e)⟩
 ·obtain⟨p1,p2,p3,p4⟩:=I.pin p hp
  exact⟨(hs.2 p.1 p3).trans p1,p2,p3,p4⟩
 ·refine (I.hok b ob e).stay (fun c w' hc q=>(hs.2 c ?_).trans q) (fun _ q=>q) fun _ _ q=>q
  rintro rfl
  rcases hc with rfl | hc
  ·rw[I.free] at e;cases e
  ·rw[I.free] at hc;cases hc
end
section
variable {X : Cx} {pins : List (Addr × Obj)} {R : Value -> St -> Hp -> Prop} {e : Value} {s' : Shared}
end
def Cx.inEx (X:Cx) (ea:Addr):Cx:={ X with A:=X.A.mark (some (.ref ea)),calm:=false,xe:=fun _ _=>False }
section
variable {X : Cx} {pins : List (Addr × Obj)} {σ : St} {H : Hp} {s : Shared} {ea : Addr}
theorem Inv.inEx (I:Inv X pins σ H s) (ea:Addr):Inv (X.inEx ea) pins σ H s:=⟨⟨I.ok.mod,I.ok.kind,I.ok.glob,I.ok.blt,I.ok.above,I.ok.inj,I.ok.has,I.ok.cab,fun z=>absurd (show false=true from z) (by simp),I.ok.frames,I.ok.stk,I.ok.exf,I.ok.bs,I.ok.bsz,I.ok.noex,I.ok.exfs,I.ok.funs,I.ok.frf⟩,
 I.os,I.bare,I.base,I.loc,I.cell,I.free,I.freeC,I.pin,I.hok,I.len⟩
theorem Inv.outEx (ok:X.Ok) (I:Inv (X.inEx ea) pins σ H s):Inv X pins σ H s:=⟨ok,I.os,I.bare,I.base,I.loc,I.cell,I.free,I.freeC,I.pin,I.hok,I.len⟩
def WJ.drop (D:WJ) (i:Nat):WJ:={ nx:=fun σ H=>D.nx (σ.set i none) H,rt:=D.rt,bk:=fun σ H=>D.bk (σ.set i none) H,ct:=fun σ H=>D.ct (σ.set i none) H }
theorem yw {M:Model} {h:Heap} {ea:Addr} {cls:Value} (z:∃ oe vs,h.get? ea=some oe/\oe.cls=cls/\oe.data=.fields vs):PySem.W.Looks M h (typeOf (.ref ea)) cls:=by
 obtain⟨oe,vs,a,b,_⟩:=z
 subst b
 exact (PySem.W.Looks.ld a).andThen .now
end
section
variable {X : Cx} {k k' : Nat} {x : Str} {ps : List Str} {sp : Sp} {e : Expr} {es : List Expr} {t : TA} {p pos : Pos}
end
section
variable {P : Program} {w : World} {K : PySem.W.Frag} {mg : Str -> Option Value} {base : Heap}
end
def qt (K:PySem.W.Frag) (C:Addr):Bool:=
 PySem.W.findIn K (.ref C) "__getattribute__" == some (some (.builtin "BaseException.__getattribute__")) && PySem.W.findIn K (.ref C) "__getattr__" == some none && PySem.W.findIn K (.ref C) "__class__" == some (some (.builtin "object.__class__"))
  && PySem.W.specialIn K (.builtin "object.__class__") "__get__" == some (some (.builtin "getset_descriptor.__get__")) && PySem.W.takesIn K (.builtin "object.__class__") == some true && PySem.W.mroIn K C (.type "object") == some true
  && PySem.W.mroIn K C (.type "BaseException") == some true && (PySem.W.clsIn K C).isSome
def y6 (e:Addr) (cls:Value) (h:Heap):Prop:=∃ o vs,h.get? e=some o/\o.cls=cls/\o.data=.fields vs
section
variable {prog : Program} {w : World} {A : Around} {E : Value -> Shared -> Prop} {s : Shared} {K : PySem.W.Frag} {e C : Addr} {h : Heap}
theorem exc_find {M:Model} (X:K.In h) (l:qt K C=true):PySem.W.Looks M h (Builtin.ObjectAttr.find (.ref e) (.ref C) "__class__") (.bind (.builtin "getset_descriptor.__get__") (.builtin "object.__class__")):=by
 simp only[qt,Bool.and_eq_true,beq_iff_eq] at l
 obtain⟨⟨⟨⟨⟨⟨⟨_,_⟩,l3⟩,l4⟩,l5⟩,_⟩,_⟩,_⟩:=l
 refine (BH X l3).andThen ?_
 have g1:PySem.W.Looks M h (Builtin.ObjectAttr.getOf (some (.builtin "object.__class__"))) (some (.builtin "getset_descriptor.__get__")):=PySem.W.looks_specialIn X l4
 refine g1.andThen ?_
 have g2:PySem.W.Looks M h (Builtin.ObjectAttr.dataDescriptor? (some (.builtin "object.__class__")) (some (.builtin "getset_descriptor.__get__"))) (some (.builtin "getset_descriptor.__get__",.builtin "object.__class__")):=(PySem.W.looks_takesIn X l5).andThen .now
 exact g2.andThen (PySem.W.Looks.tag .now)
theorem Qx {M:Model} (z:y6 e (.ref C) h):PySem.W.Looks M h (typeOf (.ref e)) (.ref C):=yw z
theorem y9 {R:Result->Shared->Prop} {tp:Value} (X:K.In s.heap) (l:qt K C=true) (z:y6 e (.ref C) s.heap) (hq:R (.ok (.ret (.ref C))) s) :
  codeAny (model prog w) A (.call (.builtin "getset_descriptor.__get__") ⟨[.builtin "object.__class__",.ref e,tp],[]⟩) R s:=by
 simp only[qt,Bool.and_eq_true,beq_iff_eq] at l
 obtain⟨⟨⟨⟨⟨⟨⟨_,_⟩,_⟩,_⟩,_⟩,l6⟩,_⟩,_⟩:=l
 obtain⟨hh,g,dr,t,os⟩:=s
 have T0:=Qx (M:=model prog w) z
 have T1:=PySem.W.looks_mroIn (M:=model prog w) X l6
 refine Bh PySem.W.KF.slot_gs.plain PySem.W.KF.entry_gs (PySem.W.KF.slot_gs.check _ _ _ _ _ _ _ _ PySem.W.KF.type_class (PySem.W.KF.args_gs _ _ _) ?_)
 unfold Builtin.«getset_descriptor.__get__» Builtin.Getset_descriptor.descrGet
 rw[PySem.W.dga_obj]
 refine AA (AB ?_);unfold Builtin.Getset_descriptor.descrGetter Builtin.Getset_descriptor.descrCheckInstance Builtin.Getset_descriptor.descrNameAndClass isInstance
 simp only[PySem.W.KF.owner_class];repeat lk
 refine⟨CY _ (by decide +kernel),Ax PySem.W.KF.entry_class ?_⟩;unfold Builtin.«object.__class__» shownTypeOf
 repeat lk
 exact hq
theorem exc_ga {tk:Tok} {R:Result->Shared->Prop} (X:K.In s.heap) (l:qt K C=true) (z:y6 e (.ref C) s.heap) (hq:R (.ok (.ret (.ref C))) s) :
  codeAny (model prog w) A (.call (.builtin "BaseException.__getattribute__") ⟨[.ref e,.str "__class__" tk],[]⟩) R s:=by
 have hk:builtinKind "BaseException.__getattribute__" = some .slot:=by decide +kernel
 have hsp:splitId "BaseException.__getattribute__" = some ("BaseException", "__getattribute__"):=by decide +kernel
 have l':=l
 simp only[qt,Bool.and_eq_true,beq_iff_eq] at l'
 obtain⟨⟨⟨⟨⟨⟨⟨_,_⟩,_⟩,_⟩,_⟩,_⟩,l7⟩,_⟩:=l'
 refine Bh F.attr_ValueError.ga.plain F.entry_bexc_ga ?_
 obtain⟨hh,g,dr,t,os⟩:=s
 have T0:=Qx (M:=model prog w) z
 have T1:=PySem.W.looks_mroIn (M:=model prog w) X l7
 have T2:=exc_find (M:=model prog w) (e:=e) X l
 have ha:=F.args_bexc_ga (.ref e) (.str "__class__" tk)
 simp only[checkBuiltinCall,hk,hsp]
 unfold isInstance
 refine AA (AA (T0.at (T1.at ?_)))
 simp only[Bool.not_true,Bool.false_eq_true,if_false]
 have hfin:wpAny (model prog w) A.in1 (Builtin.«object.__getattribute__» ⟨[.ref e,.str "__class__" tk],[]⟩) (fun fin s'=>match fin with | .done f=>R (.ok f) s' | .again c'=>c'.quiet=true/\codeAny (model prog w) A c' R s') (fun e s'=>R (.error e) s') ⟨hh,g,dr,t,os⟩:=by
  unfold Builtin.«object.__getattribute__»
  refine AA (AB ?_)
  refine AA (AB (AA (T0.at (AA (T2.at ?_)))))
  show wpAny _ _ (holding [Value.builtin "object.__class__"] (call (.builtin "getset_descriptor.__get__") [.builtin "object.__class__",.ref e,.ref C]) >>= ret) _ _ _
  exact AA (Ah (B7 (y9 (s:=⟨hh,g,dr,t,os⟩) X l z (AB hq))))
 cases hs:Manifest.signature? "BaseException.__getattribute__" with
 | none=>exact AB hfin
 | some sig=>
  simp only[argsOk,hs] at ha
  have h2:Bind.checkArgs "BaseException.__getattribute__" sig ⟨[.ref e,.str "__class__" tk],[]⟩=pure ():=ha
  show wpAny _ _ (Bind.checkArgs "BaseException.__getattribute__" sig _) _ _ _
  rw[h2]
  exact AB hfin
theorem xu {Q:Option Value->Shared->Prop} (X:K.In s.heap) (l:qt K C=true) (z:y6 e (.ref C) s.heap) (hq:Q (some (.ref C)) { s with toks:=s.toks+1 }):wpAny (model prog w) A (getAttr? (.ref e) "__class__") Q E s:=by
 have l':=l
 simp only[qt,Bool.and_eq_true,beq_iff_eq] at l'
 obtain⟨⟨⟨⟨⟨⟨⟨l1,l2⟩,_⟩,_⟩,_⟩,_⟩,_⟩,_⟩:=l'
 obtain⟨hh,g,dr,t,os⟩:=s
 have T0:=Qx (M:=model prog w) z
 have T1:=BH (M:=model prog w) X l1
 have T2:=BH (M:=model prog w) X l2
 unfold getAttr? getAttrBy? getAttrBy
 refine AA (D8 (AA (BI (Ah (AA (T0.at (AA (T1.at ?_))))))))
 show wpAny _ _ (getAttrByItsOwn _ _ _ _ _ _) _ _ _
 unfold getAttrByItsOwn
 have T3:PySem.W.Looks (model prog w) hh (hookBefore (.ref C)) none:=T2
 refine AA (T3.at ?_)
 refine AA (BI (Ah ?_))
 show wpAny _ _ (boundAndCalled (.builtin "BaseException.__getattribute__") (.ref e) _) _ _ _
 unfold boundAndCalled
 refine AA (A3 (F.attr_ValueError.ga.bind (.ref e)) ?_)
 refine B7 (exc_ga (s:=⟨hh,g,dr,t+1,os⟩) X l z ?_)
 exact PySem.W.handed_on (v:=.ref C) rfl (AB hq)
theorem yx (l:qt K C=true):PySem.W.KitX K (.ref e) (.ref C) (y6 e (.ref C)) where
 ty:=fun _ _ _ z=>Qx z
 it:=fun _ _ X _=>by
  simp only[qt,Bool.and_eq_true,beq_iff_eq] at l
  have lc:=l.2
  unfold PySem.W.clsIn at lc
  split at lc
  ·rename_i ho
   intro A' Q' E' s' k q
   unfold isType loadHead;exact AA (wpAny_loadPart (k _ _ (X _ _ ho)) (AB q))
  ·cases lc
 ne:=fun h tp dd its n sl X htp=>by
  simp only[qt,Bool.and_eq_true,beq_iff_eq] at l
  have lc:=l.2
  refine Cz.mpr fun q=>?_
  have ec:C=tp:=Value.ref.inj (beq_iff_eq.mp q)
  subst ec
  unfold PySem.W.clsIn at lc
  split at lc
  ·rename_i ho
   have zz:=(X _ _ ho).symm.trans htp
   cases zz
  ·cases lc
 ca:=fun X z k=>xu X l z k
end
def eqVs (xs ys:List V):Bool:=(xs.zip ys).all (fun p=>eqV p.1 p.2) && xs.length == ys.length
def rEqL (K:PySem.W.Frag):R2:=fun x y H Q=>∃ p q xs ys,x=.ref p/\y=.ref q/\SqL K H p xs/\SqL K H q ys/\xs.all Zv=true/\ys.all Zv=true/\Q (.bl (eqVs xs ys)) H
theorem eqAt_get {A:Around} {s:Shared} {xs ys:List V} {us vs:List Value} (rx:zX xs us) (ry:zX ys vs) (fx:xs.all Zv=true) (fy:ys.all Zv=true) (j:Nat) (h1:j < us.toArray.size) (h2:j < vs.toArray.size) :
  SeqAt.EqAt A s us.toArray[j] vs.toArray[j] (eqV (xs.getD j .non) (ys.getD j .non)):=by
 have l1:=rx.length
 have l2:=ry.length
 have g1:j < us.length:=by simpa using h1
 have g2:j < vs.length:=by simpa using h2
 have k1:xs[j]? = some (xs.getD j .non):=by simp[List.getD,show j < xs.length by omega]
 have k2:ys[j]? = some (ys.getD j .non):=by simp[List.getD,show j < ys.length by omega]
 obtain⟨u,e1,r1⟩:=rx.get k1
 obtain⟨v,e2,r2⟩:=ry.get k2
 have f1:=A7.mp fx _ (AV k1)
 have f2:=A7.mp fy _ (AV k2)
 have w1:us.toArray[j]=u:=by
  rw[AK g1] at e1
  simpa using AL e1
 have w2:vs.toArray[j]=v:=by
  rw[AK g2] at e2
  simpa using AL e2
 rw[w1,w2]
 exact eqAt_V r1 r2 f1 f2
theorem wM:∀ (xs ys:List V),xs.length=ys.length->((List.range xs.length).all fun j=>eqV (xs.getD j .non) (ys.getD j .non))=(xs.zip ys).all fun p=>eqV p.1 p.2
 | [],[],_=>rfl
 | [],_ :: _,h=>by cases h
 | _ :: _,[],h=>by cases h
 | x :: xs,y :: ys,h=>by
  have ih:=wM xs ys (by simpa using h)
  rw[Ab,DC,Cc,Dn,Da,Cc,<- ih]
  rfl
section
variable {X : Cx}
theorem op_eqL (K:PySem.W.Frag) {k:Nat} (hr:jV k X.A) (hK:X.K=K:=by rfl):OpR X (compareOp .Eq) (rEqL K):=by
 subst hK
 intro pins s σ H x y v u Q I rx ry h
 obtain⟨p,q,xs,ys,rfl,rfl,h1,h2,f1,f2,hq⟩:=h
 cases rx
 cases ry
 obtain⟨us,r1,pl1,_⟩:=I.list h1
 obtain⟨vs,r2,pl2,_⟩:=I.list h2
 have hu:X.A.units < cLine:=Nat.lt_of_succ_lt (hu_of hr)
 have l1:=r1.length
 have l2:=r2.length
 by_cases hz:xs.length=ys.length
 ·have hz':us.toArray.size=vs.toArray.size:=by simp;omega
  refine SeqAt.eq_listAt pl1.isList pl2.isList hz' hu (eqAt_get r1 r2 f1 f2) ⟨.bl _,H,I,rfl,?_⟩
  have e:us.toArray.size=xs.length:=by simp;omega
  rw[e,wM xs ys hz]
  unfold eqVs at hq
  rw[hz] at hq
  simpa using hq
 ·have hz':(us.toArray.size != vs.toArray.size)=true:=by simp;omega
  refine SeqAt.eq_list_lengthsAt pl1.isList pl2.isList hz' hu ⟨.bl _,H,I,rfl,?_⟩
  have e:eqVs xs ys=false:=by
   unfold eqVs
   simp[hz]
  rw[e] at hq
  exact hq
theorem yy {bs:List Bool}:∀ {us:List Value},zX (bs.map V.bl) us->us=bs.map Value.bool:=by
 induction bs with
 | nil=>intro us r;rw[DD] at r;cases r;rfl
 | cons b bs ih=>
  intro us r
  rw[AQ] at r
  cases r with
  | cons r1 r2=>rw[AQ,<- ih r2];cases r1;rfl
theorem QK:∀ bs:List Bool,((List.range bs.length).all fun i=>bs.getD i true)=bs.all id
 | []=>rfl
 | b :: bs=>by
  have ih:=QK bs
  rw[Ab,DC,Cc,Dn,Cc,<- ih]
  rfl
theorem call_all (hc:X.calm=true):qA X (.builtin "all") (fun xs H Q=>∃ (p:Addr) (bs:List Bool),xs=[.ref p]/\SqL X.K H p (bs.map V.bl)/\Q (.bl (bs.all id)) H):=by
 intro pins s σ H xs us Q I r h
 obtain⟨p,bs,rfl,hq,q⟩:=h
 obtain⟨u,rfl,ru⟩:=vals1 r
 cases ru
 obtain⟨its,rv,pl,_⟩:=I.list hq
 have hl:s.heap.IsList p its.toArray:=pl.isList
 have hlt:p < s.heap.objs.size:=by obtain⟨_,e,_⟩:=hl;exact AJ e
 refine call_all_walk (B3 hl ⟨_,_,_,_,_,_,fun i=>bs.getD i true,rfl,Walks.list (A:=X.A.in1) (I.ok.hd hc) _ p (AN hlt) its.toArray,⟨⟨_,AH _ rfl,rfl,rfl⟩,hl.push _⟩,fun i v s' Q' E' hv hQ=>?_,fun h' tk hk=>⟨.bl _,H,I.kept (old_kept hk),rfl,?_⟩⟩)
 ·have hv':its[i]? = some v:=by simpa using hv
  rw[yy rv,AW] at hv'
  obtain⟨b,hb,rfl⟩:=Ac.mp hv'
  have e:bs.getD i true=b:=by simp[List.getD,hb]
  have z:Q' (bs.getD i true) s':=hQ
  rw[e] at z
  exact CG z
 ·have e1:its.toArray.size=bs.length:=by
   have:=rv.length
   rw[AC] at this
   simp;omega
  rw[e1]
  have e2:=QK bs
  rw[e2]
  exact q
theorem JX:bootBuiltins "ValueError" = some (.type "ValueError"):=by decide +kernel
theorem wN (K:PySem.W.Frag) (hc:X.calm=true) (hK:X.K=K:=by rfl):qA X (.builtin "all") (fun xs H Q=>∃ (p:Addr) (bs:List Bool),xs=[.ref p]/\SqL K H p (bs.map V.bl)/\Q (.bl (bs.all id)) H):=hK ▸ call_all hc
end
section
variable {X : Cx} {tg : Expr}
end
def xw {α:Type} [DecidableEq α] (l:List α) (v:α):List α:=if v ∈ l then l else l++[v]
def Jg {α:Type} [DecidableEq α] (vs:List α):List α:=vs.foldl xw []
theorem yz {α:Type} [DecidableEq α] {l:List α} {v x:α}:x ∈ xw l v ↔ x ∈ l\/x=v:=by
 unfold xw
 split
 ·rename_i h
  constructor
  ·exact .inl
  ·rintro (z | rfl)
   ·exact z
   ·exact h
 ·simp
theorem yA {α:Type} [DecidableEq α] {l:List α} {v:α}:(xw l v).length=if v ∈ l then l.length else l.length+1:=by
 unfold xw
 split <;> simp
theorem wO {α:Type} [DecidableEq α] (vs:List α) (v:α):Jg (vs++[v])=xw (Jg vs) v:=by
 unfold Jg
 rw[List.foldl_append]
 rfl
theorem wP {α:Type} [DecidableEq α]:∀ (vs l:List α),(vs.foldl xw l).length<=l.length+vs.length
 | [],l=>AG _
 | v :: vs,l=>by
  have h:=wP vs (xw l v)
  rw[yA] at h
  rw[CO,Ab]
  split at h <;> omega
theorem dedK_len {α:Type} [DecidableEq α] (vs:List α):(Jg vs).length<=vs.length:=by
 have:=wP vs []
 simpa [Jg] using this
section
variable {prog : Program} {w : World} {A : Around} {E : Value -> Shared -> Prop} {s : Shared}
theorem xy:∀ {us:List Value} {ys:List Str},StrsAre us ys->∀ (i:Nat) (v:Value),us[i]? = some v->∃ t,v=.str (ys.getD i "") t
 | _,_,.nil,i,v,h=>by simp at h
 | _,_,.cons y t r,0,v,h=>⟨t,(AL h).symm⟩
 | _,_,.cons y t r,i+1,v,h=>by
  obtain⟨t',e⟩:=xy r i v (by simpa using h)
  exact⟨t',by rw[e];rfl⟩
def zU (b:Bool):Obj:={ cls:=.type "set",dict:=none,data:=.set #[] 0 (.fresh 0 0 b) }
end
section
variable {X : Cx}
theorem bt_set:bootBuiltins "set" = some (.type "set"):=by decide +kernel
end
section
variable {prog : Program} {w : World} {A : Around} {E : Value -> Shared -> Prop} {s : Shared}
variable {kd : Bool}
variable {z TI TO i1 i2 t1 t2 : Addr} {xs ys : Array Value} {k1 k2 : Nat}
end
section
variable {X : Cx}
end
section
variable {X : Cx}
theorem wQ:OpR X (compareOp .LtE) (fun x y H Q=>∃ i j,x=.str i/\y=.str j/\Q (.bl (!decide (j.cps.toList < i.cps.toList))) H):=by
 intro pins s σ H x y v u Q I rx ry h
 obtain⟨i,j,rfl,rfl,q⟩:=h
 obtain⟨t,rfl⟩:=rx
 obtain⟨t',rfl⟩:=ry
 exact PySem.P.le_str (zJ I q rfl)
end
theorem Paired.at {α β:Type} {F:α->β->Prop}:∀ {l₁:List α} {l₂:List β},Paired F l₁ l₂->∀ (i:Nat) (x:α) (y:β),l₁[i]? = some x->l₂[i]? = some y->F x y
 | _,_,.nil,i,x,y,h,_=>by simp at h
 | _,_,.cons r t,0,x,y,h,k=>by simp at h k;subst h k;exact r
 | _,_,.cons r t,i+1,x,y,h,k=>Paired.at t i x y (by simpa using h) (by simpa using k)
section
variable {X : Cx} {pins : List (Addr × Obj)} {σ : St} {H : Hp} {s : Shared}
end
end L2
namespace L4
open PySem L2
def qk (H:Hp) (p:Addr):Prop:=∃ r a b:Int,H p=some (.lst [.int r,.int a,.int b])
def Off (p:Addr) (H H':Hp):Prop:=∀ b o,b ≠ p->H b=some o->H' b=some o
def Tk (H H':Hp):Prop:=∀ b xs,H b=some (.tup xs)->H' b=some (.tup xs)
theorem Off.refl {p:Addr} {H:Hp}:Off p H H:=fun _ _ _ h=>h
theorem Off.trans {p:Addr} {H H1 H2:Hp} (a:Off p H H1) (b:Off p H1 H2):Off p H H2:=fun c o n h=>b c o n (a c o n h)
theorem Off.put {p:Addr} {H:Hp} {o:HO}:Off p H (upd H p o):=fun c u n h=>by rw[zk n];exact h
theorem Off.new {p t:Addr} {H:Hp} {o:HO} (h:H t=none):Off p H (upd H t o):=fun c u n q=>by rw[zk (zr q h)];exact q
theorem Off.tk {p:Addr} {H H':Hp} (o:Off p H H') (h:qk H p):Tk H H':=fun b xs q=>by
 obtain⟨r,a,c,e⟩:=h
 exact o b _ (ne_of q e (by intro z;cases z)) q
theorem Tk.trans {H H1 H2:Hp} (a:Tk H H1) (b:Tk H1 H2):Tk H H2:=fun c xs h=>b c xs (a c xs h)
theorem Tk.new {t:Addr} {H:Hp} {o:HO} (h:H t=none):Tk H (upd H t o):=fun c u q=>by rw[zk (zr q h)];exact q
theorem Tk.put {t:Addr} {H:Hp} {xs:List V} {o:HO} (h:H t=some (.lst xs)):Tk H (upd H t o):=fun c u q=>by rw[zk (ne_of q h (by intro z;cases z))];exact q
theorem qk.put {H:Hp} {p:Addr} {r a b:Int}:qk (upd H p (.lst [.int r,.int a,.int b])) p:=⟨r,a,b,zc⟩
theorem qk.new {H:Hp} {p t:Addr} {o:HO} (h:qk H p) (n:H t=none):qk (upd H t o) p:=by
 obtain⟨r,a,b,e⟩:=h
 exact⟨r,a,b,by rw[zk (zr e n)];exact e⟩
theorem qk.off {H:Hp} {p t:Addr} {o:HO} (h:qk H p) (n:p ≠ t):qk (upd H t o) p:=by
 obtain⟨r,a,b,e⟩:=h
 exact⟨r,a,b,by rw[zk n];exact e⟩
def xz:Sp:=fun vs H Q _=>∃ c:Int,vs=[.int c]/\∀ p r a b,H p=none->Q (.ref p) (upd H p (.lst [.int r,.int a,.int b]))
def j4:Sp:=fun vs H Q _=>∃ (p:Addr) (m:Int),vs=[.ref p,.int m]/\qk H p/\0 < m/\m < 1073741824/\∀ v H',0<=v->v < m->Off p H H'->qk H' p->Q (.int v) H'
theorem zd {H:Hp} {p:Addr} (h:H p=none) (o:HO):zB H (upd H p o):=fun b u q=>by rw[zk (zr q h)];exact q
theorem Off.fresh {p f:Addr} {H H':Hp} {o:HO} (h:Off p H H') (n:H f=none):Off p H (upd H' f o):=fun b u hb q=>by rw[zk (zr q n)];exact h b u hb q
theorem Off.of {p:Addr} {H H':Hp} (s:zB H H'):Off p H H':=fun b o _ q=>s b o q
theorem Tk.of {H H':Hp} (s:zB H H'):Tk H H':=fun b xs q=>s b _ q
theorem take_snoc {α:Type} {xs:List α} {i:Nat} {x:α} (h:xs[i]? = some x):xs.take (i+1)=xs.take i++[x]:=by rw[Dj,h];rfl
theorem zj {n:Nat} (h:n<=1000):n<=sizeLine:=B8 (zq h)
end L4
namespace Fr
end Fr
namespace Fr
end Fr
namespace L4
open PySem L2
theorem _root_.L2.zB.put {H H':Hp} {l:Addr} {o:HO} (h:zB H H') (n:H l=none):zB H (upd H' l o):=fun b u e=>by rw[zk (zr e n)];exact h b u e
end L4
namespace L2
open PySem PySem.Spec PyProof.Rows
variable {X : Cx}
end L2
namespace HT
open PySem PyProof.Rows
open PySem.SeqAt
open PySem.AutoSeq1 (wpAny_loadPart')
open PySem.MeetsSeq PySem.MeetsSeq2 PySem.MeetsSeq3
variable {prog : Program} {w : World} {A : Around} {E : Value -> Shared -> Prop} {s : Shared}
theorem getItem_tuple_whole {t sl:Addr} {items:Array Value} {vl vu:Value} {lo hi:Option Int} {Q:Value->Shared->Prop} (ht:IsTup s.heap t items) (hs:s.heap.IsSliceOf sl vl vu .none) (pl:IsPart vl lo) (pu:IsPart vu hi)
  (hw:sIx items.size 0 lo=0/\sIx items.size items.size hi=items.size)
  (h:Q (.ref t) s):wpAny (model prog w) A (getItem (.ref t) (.ref sl)) Q E s:=by
 obtain⟨os,hos,hcs,hds⟩:=id hs
 have hTs:s.TypeIs (.ref sl) "slice":=⟨os,hos,hcs⟩
 unfold getItem
 try with_reducible refine Ah ?_
 first | refine AA (AB ?_) | skip
 refine AA (wpAny_sequenceKey ht.typeIs (by decide) ?_)
 refine AA (wpAny_callSpecial?_slot (name:=Str.ofString "__getitem__") ht.typeIs BG
  (An BG ht.typeIs entry_tuple_getitem ?_ (args_tuple_getitem _ _)))
 show wpAny _ _ (Builtin.Tuple.tupleItemsOf (.ref t) >>= _) _ _ s
 refine AA (tupleItemsOf_ ht ?_)
 refine AA (Bp hTs ?_)
 rw[if_pos (by decide)]
 refine AA (sliceApplied_gen hs pl pu ?_)
 have hyes:(((sIx items.size 0 lo:Nat):Int) == 0 && (1:Int) == 1 && (sIx items.size items.size hi - sIx items.size 0 lo) == items.size)=true:=by
  rw[hw.1,hw.2]
  simp
 show wpAny _ _ (if (((sIx items.size 0 lo:Nat):Int) == 0 && (1:Int) == 1 && (sIx items.size items.size hi - sIx items.size 0 lo) == items.size)=true then _ else _) _ _ s
 rw[if_pos hyes]
 refine AA (m:=Builtin.Tuple.tupleIsExact _) (AA (Bp ht.typeIs (AB ?_)))
 rw[if_pos (by decide)]
 first
  | exact AA (Ba (AB ⟨_,rfl,AB h⟩))
  | exact Ba (AB ⟨_,rfl,AB h⟩)
  | exact AA (Ba ⟨_,rfl,AB h⟩)
  | exact AB ⟨_,rfl,AB h⟩
end HT
namespace L2
open PySem PySem.Spec PyProof.Rows
variable {X : Cx}
def rSlTW (K:PySem.W.Frag):V->Option Int->Option Int->Hp->VK->Prop:=fun x lo hi H Q=>∃ a xs,x=.ref a/\SqT K H a xs /\
 (HT.sIx xs.length 0 lo=0/\HT.sIx xs.length xs.length hi=xs.length)/\Q (.ref a) H
theorem sl_tupW:SlR X (rSlTW X.K):=by
 intro pins s σ H x v vl vu lo hi sl Q I rx hs pl pu h
 obtain⟨a,xs,rfl,hx,hw,q⟩:=h
 cases rx
 obtain⟨its,r,ht,hz⟩:=I.tuple hx
 have hlen:its.toArray.size=xs.length:=by rw[Af];exact r.length.symm
 refine⟨"tuple",_,BG.lookup,ht.typeIs,?_⟩
 exact HT.getItem_tuple_whole ht hs pl pu (by rw[hlen];exact hw) ⟨.ref a,H,I,rfl,q⟩
section
variable {X : Cx}
def rCatA (K:PySem.W.Frag):R2:=fun x y H Q=>∃ a b xs ys,x=.ref a/\y=.ref b/\SqT K H a xs/\SqT K H b ys/\xs.length+ys.length<=sizeLine /\
 (xs=[]->Q (.ref b) H)/\(xs ≠ []->ys=[]->Q (.ref a) H)/\(xs ≠ []->ys ≠ []->∀ p,H p=none->Q (.ref p) (upd H p (.tup (xs++ys))))
theorem QL (K:PySem.W.Frag) (hK:X.K=K:=by rfl):OpR X (binaryOp .Add) (rCatA K):=by
 subst hK
 intro pins s σ H x y v u Q I rx ry h
 obtain⟨a,b,xs,ys,rfl,rfl,ha,hb,hz,q0,q1,q2⟩:=h
 by_cases hx:xs=[]
 ·cases rx
  cases ry
  obtain⟨its,r1,p1,_⟩:=I.tuple ha
  obtain⟨its2,r2,p2,_⟩:=I.tuple hb
  obtain⟨⟨cls,dd,data,sl⟩,ho,hc,n,hd⟩:=id p1
  obtain⟨⟨cls2,dd2,data2,sl2⟩,ho2,hc2,n2,hd2⟩:=id p2
  simp only at hc hd hc2 hd2
  subst hc hd hc2 hd2
  have hv:its=[]:=(zX.nil_iff r1).mpr hx
  exact concat_meets ⟨_,ho,rfl⟩ ⟨_,ho2,rfl⟩ noFill_tuple_add seq_tuple_add DB C8 (C3 _ _)
   (tuple_addW0 a b its.toArray its2.toArray n n2 dd dd2 sl sl2 (by simp[hv])) ⟨ho,ho2,⟨.ref b,H,I,rfl,q0 hx⟩⟩
 ·exact op_catT pins s σ H _ _ v u Q I rx ry ⟨a,b,xs,ys,rfl,rfl,ha,hb,hx,hz,q1 hx,q2 hx⟩
def rNeE:R2:=fun x y H Q=>∃ a b xs,x=.ref a/\y=.ref b/\H a=some (.tup xs)/\H b=some (.tup [])/\Q (.bl (!xs.isEmpty)) H
theorem op_neE {k:Nat} (hr:jV k X.A):OpR X (compareOp .NotEq) rNeE:=by
 intro pins s σ H x y v u Q I rx ry h
 obtain⟨a,b,xs,rfl,rfl,ha,hb,q⟩:=h
 cases rx
 cases ry
 have hu:X.A.units+64 < cLine:=hr.units
 obtain⟨_,us,q1,p1⟩:=I.hok a _ ha
 obtain⟨_,vs,q2,p2⟩:=I.hok b _ hb
 have l1:=q1.length
 have l2:=q2.length
 have z:=SeqAt.RcNeAt.tuples (A:=X.A) (s:=s) (e:=fun _=>true) p1.isTup p2.isTup (by omega) (fun j h1 h2=>by
  rw[Af,<- l2] at h2
  exact absurd h2 (BX _))
 have e:(!((List.range (min us.toArray.size vs.toArray.size)).all (fun _=>true) && us.toArray.size == vs.toArray.size)) = !xs.isEmpty:=by
  rw[Af,Af,<- l1,<- l2]
  cases xs with
  | nil=>rfl
  | cons x xs=>simp
 rw[e] at z
 exact z X.prog X.w _ _ ⟨.bl _,H,I,rfl,q⟩
end
end L2
namespace L4
open PySem L2
theorem j6:∀ (l ns:List Str),l.Nodup->(∀ x ∈ l,x ∈ ns)->l.length<=ns.length
 | [],ns,_,_=>A0 _
 | x :: l,ns,nd,h=>by
  obtain⟨n1,n2⟩:=BA.mp nd
  have ih:=j6 l (ns.erase x) n2 fun y hy=>(List.mem_erase_of_ne (fun (e:y=x)=>n1 (e ▸ hy))).mpr (h y (AU _ hy))
  have hx:=h x AO
  have e:=C5 hx
  have pos:0 < ns.length:=List.length_pos_of_mem hx
  rw[Ab]
  omega
def yB (z:Str) (c:Nat):Str:=z++⟨#[c]⟩
theorem glue_inj {z:Str} {c d:Nat} (h:yB z c=yB z d):c=d:=by
 have e:z.cps ++ #[c]=z.cps ++ #[d]:=Be Str.cps h
 have e2:=Be Array.toList e
 simp at e2
 exact e2
theorem Jy (z:Str):∀ cs:List Nat,cs.Nodup->(cs.map (yB z)).Nodup
 | [],_=>List.nodup_nil
 | c :: cs,nd=>by
  obtain⟨n1,n2⟩:=BA.mp nd
  rw[AQ]
  refine BA.mpr ⟨fun hm=>?_,Jy z cs n2⟩
  obtain⟨d,hd,e⟩:=AS.mp hm
  exact n1 (glue_inj e ▸ hd)
theorem pick_new (z:Str) (cs:List Nat) (nd:cs.Nodup) (ns:List Str) (h:ns.length < cs.length):∃ c ∈ cs,yB z c ∉ ns:=by
 refine CL fun hn=>?_
 have all:∀ x ∈ cs.map (yB z),x ∈ ns:=fun x hx=>by
  obtain⟨c,hc,e⟩:=AS.mp hx
  refine CL fun hx'=>hn ⟨c,hc,e ▸ hx'⟩
 have:=j6 _ ns (Jy z cs nd) all
 rw[AC] at this
 omega
structure Ya where
 nm:Str
 pl:Int
 cs:List (Option Int)
def Zk:Option Int->V
 | none=>.non
 | some i=>.int i
def ZR (H:Hp):List Ya->List V->Prop
 | [],vs=>vs=[]
 | c :: r,vs=>∃ t u rest,vs=.ref t :: rest/\H t=some (.tup [.str c.nm,.int c.pl,.ref u])/\H u=some (.tup (c.cs.map Zk))/\ZR H r rest
theorem ZR.tk {H H':Hp} (k:Tk H H'):∀ {cs:List Ya} {vs:List V},ZR H cs vs->ZR H' cs vs
 | [],_,h=>h
 | _ :: _,_,⟨t,u,rest,e,h1,h2,h3⟩=>⟨t,u,rest,e,k _ _ h1,k _ _ h2,h3.tk k⟩
theorem ZR.len {H:Hp}:∀ {cs:List Ya} {vs:List V},ZR H cs vs->vs.length=cs.length
 | [],_,h=>by cases h;rfl
 | _ :: _,_,⟨t,u,rest,e,h1,h2,h3⟩=>by rw[e,Ab,Ab,h3.len]
theorem ZR.snoc {H:Hp} {c:Ya} {t u:Addr} (h1:H t=some (.tup [.str c.nm,.int c.pl,.ref u])) (h2:H u=some (.tup (c.cs.map Zk))):∀ {cs:List Ya} {vs:List V},ZR H cs vs->ZR H (cs++[c]) (vs++[.ref t])
 | [],_,h=>by cases h;exact⟨t,u,[],rfl,h1,h2,rfl⟩
 | _ :: _,_,⟨t',u',rest,e,q1,q2,q3⟩=>⟨t',u',rest++[.ref t],by rw[e];rfl,q1,q2,q3.snoc h1 h2⟩
theorem ZR.get {H:Hp}:∀ {cs:List Ya} {vs:List V} {i:Nat} {c:Ya},ZR H cs vs->cs[i]? = some c->∃ t u,vs[i]? = some (.ref t)/\H t=some (.tup [.str c.nm,.int c.pl,.ref u])/\H u=some (.tup (c.cs.map Zk))
 | [],_,_,_,_,e=>by simp at e
 | _ :: _,_,0,_,⟨t,u,rest,e,h1,h2,h3⟩,q=>by
  simp at q
  subst q
  exact⟨t,u,by rw[e];rfl,h1,h2⟩
 | _ :: _,_,i+1,_,⟨t,u,rest,e,h1,h2,h3⟩,q=>by
  obtain⟨t',u',a,b⟩:=h3.get (i:=i) (by simpa using q)
  exact⟨t',u',by rw[e];simpa using a,b⟩
structure xA where
 m:Int
 ws:List Int
 cs:List Ya
def IsHalf (H:Hp) (v:V) (T:xA):Prop:=∃ a w c vs,v=.ref a/\H a=some (.tup [.int T.m,.ref w,.ref c])/\H w=some (.tup (T.ws.map .int))/\H c=some (.tup vs)/\ZR H T.cs vs
open PySem L2 PySem.StrLaws
theorem Yb (y p q:Str) (r:List Str):(Str.join y (p :: q :: r)).cps.toList=p.cps.toList++(y.cps.toList++(Str.join y (q :: r)).cps.toList):=by
 show ((p++y)++Str.join y (q :: r)).cps.toList=_
 simp[Str.cps_append]
def xB (x:Str):Prop:=∀ c ∈ x.cps.toList,97<=c/\c<=122
def j7 (x:Str):Prop:=2<=x.length/\x.length<=8/\xB x
def wR (m:Int) (o:Option Int):Prop:=∀ i,o=some i->0<=i/\i < m
structure GoodC (m:Int) (c:Ya):Prop where
 nm:j7 c.nm
 p0:0<=c.pl
 p2:c.pl<=2
 len:(c.cs.length:Int)=m ^ c.pl.toNat
 cells:∀ o ∈ c.cs,wR m o
structure Good (T:xA):Prop where
 m1:1<=T.m
 m9:T.m<=9
 ws:∀ w ∈ T.ws,0<=w/\w < T.m
 rising:T.ws.Pairwise (· < ·)
 wl:T.ws.length<=9
 few:T.cs.length<=8
 nd:(T.cs.map (·.nm)).Nodup
 each:∀ c ∈ T.cs,GoodC T.m c
def Full (T:xA):Prop:=∀ c ∈ T.cs,∀ o ∈ c.cs,o ≠ none
theorem ZS (x:Str):x.cps.toList.length=x.length:=by simp[Str.length]
theorem slice7 (x:Str):(Txt.slice x none (some 7)).cps.toList=x.cps.toList.take 7:=by
 by_cases h:(7:Int)<=x.length
 ·have:=beq_iff_eq.mp (Dz (x:=x) (j:=7) (by decide) h)
  rw[this]
  simp
 ·rw[PyProof.Rows.slice_to_beyond (by omega),beq_iff_eq.mp (Dz (x:=x) (j:=(x.length:Int)) (by omega) (Int.le_refl _))]
  have hl:=ZS x
  rw[A8 (l:=x.cps.toList) (i:=7) (by omega)]
  show ((x.cps.toList.drop 0).take ((x.length:Int) - 0).toNat).toArray.toList=_
  rw[Co,show ((x.length:Int) - 0).toNat=x.cps.toList.length by omega,Aq]
theorem Yc (z:Str) (c:Nat):(yB z c).cps.toList=z.cps.toList++[c]:=by
 show (z++⟨#[c]⟩:Str).cps.toList=_
 simp[Str.cps_append]
theorem xC {z:Str} {c:Nat} (h:j7 z) (h0:97<=c) (h1:c<=122):j7 (yB (Txt.slice z none (some 7)) c):=by
 obtain⟨a,b,s⟩:=h
 have e:=Yc (Txt.slice z none (some 7)) c
 rw[slice7] at e
 have hl:=ZS (yB (Txt.slice z none (some 7)) c)
 have hz:=ZS z
 rw[e,AI,AZ,DO] at hl
 refine⟨by omega,by omega,fun d hd=>?_⟩
 rw[e] at hd
 rcases Aa.mp hd with q | q
 ·exact s d (Bx q)
 ·rw[AF.mp q]
  exact⟨h0,h1⟩
theorem WM:∀ cs:List Nat,(Txt.join (Str.ofString "") (cs.map fun c=>(⟨#[c]⟩:Str))).cps.toList=cs:=by
 intro cs
 have e2:∀ ps,Txt.join (Str.ofString "") ps=Str.join (Str.ofString "") ps:=fun ps=>glued_eq_join _ _
 rw[e2]
 have e0:(Str.ofString "").cps.toList=[]:=by decide +kernel
 induction cs with
 | nil=>rfl
 | cons c cs ih=>
  cases cs with
  | nil=>rfl
  | cons d ds=>
   rw[AQ,AQ,Yb,e0,D6]
   rw[AQ] at ih
   rw[ih]
   rfl
theorem Jz:j7 (Str.ofString "grades")/\j7 (Str.ofString "wished"):=by
 refine⟨⟨by decide +kernel,by decide +kernel,?_⟩,⟨by decide +kernel,by decide +kernel,?_⟩⟩
 ·unfold xB
  decide +kernel
 ·unfold xB
  decide +kernel
def gsOf (c:Ya):List Int:=c.cs.map fun o=>o.getD 0
theorem JA:∀ {cs:List (Option Int)},(∀ o ∈ cs,o ≠ none)->cs.map Zk=(cs.map fun o=>o.getD 0).map V.int
 | [],_=>rfl
 | none :: cs,h=>absurd rfl (h none AO)
 | some i :: cs,h=>by
  rw[AQ,AQ,AQ,JA fun o ho=>h o (AU _ ho)]
  rfl
theorem map_tup {α:Type} {K:PySem.W.Frag} {a D:Addr} {t:Nat} {te:TE} {σ0:St} {H1:Hp} {Q:VK} (as:List α) (g h:α->V) (ha:H1 a=some (.tup (as.map g))) (hl:as.length<=1000) (hD:H1 D=none)
  (he:∀ z ∈ as,∀ H' Q',zB H1 H'->(∀ H'',zB H' H''->Q' (h z) H'')->te (σ0.set t (some (g z))) H' Q')
  (q:∀ H',zB H1 H'->H' D=some (.lst (as.map h))->Q (.ref D) H'):jZ (Itt K a) (jU t) tYes te σ0 H1 Q D:=by
 refine Qw (xs:=as.map g) (fun i ys H'=>zB H1 H'/\ys=(as.take i).map h) ⟨zd hD _,rfl⟩ (fun i ys H' hh _=>SqT.of (hh.1 _ _ ha)) ?_ ?_
 ·rintro i ys H' x hx ⟨s1,rfl⟩ hD'
  have hi:i < (as.map g).length:=(AE.mp hx).1
  rw[AW] at hx
  obtain⟨z,hz,rfl⟩:=Ac.mp hx
  refine yes (he z (AV hz) H' _ s1 fun H'' s2=>?_)
  rw[AC] at hi
  refine Jf (by rw[AC];exact hi) qS (s2 _ _ hD') (by rw[AC,AZ];exact zq (by omega)) ⟨fun b o qb=>?_,?_⟩
  ·rw[zk (zr qb hD)]
   exact s2 b o (s1 b o qb)
  ·rw[take_snoc hz,AM]
   rfl
 ·rintro ys H' ⟨s1,rfl⟩ hD'
  rw[AC,Aq] at hD'
  exact q H' s1 hD'
theorem Qy {α:Type} {K:PySem.W.Frag} {a D:Addr} {t:Nat} {te:TE} {σ0:St} {H1:Hp} {Q:VK} (as:List α) (g h:α->V) (ha:H1 a=some (.lst (as.map g))) (hl:as.length<=1000) (hD:H1 D=none)
  (he:∀ z ∈ as,∀ H' Q',zB H1 H'->(∀ H'',zB H' H''->Q' (h z) H'')->te (σ0.set t (some (g z))) H' Q')
  (q:∀ H',zB H1 H'->H' D=some (.lst (as.map h))->Q (.ref D) H'):jZ (Itl K a) (jU t) tYes te σ0 H1 Q D:=by
 refine jy (xs:=as.map g) (fun i ys H'=>zB H1 H'/\ys=(as.take i).map h) ⟨zd hD _,rfl⟩ (fun i ys H' hh _=>SqL.of (hh.1 _ _ ha)) ?_ ?_
 ·rintro i ys H' x hx ⟨s1,rfl⟩ hD'
  have hi:i < (as.map g).length:=(AE.mp hx).1
  rw[AW] at hx
  obtain⟨z,hz,rfl⟩:=Ac.mp hx
  refine yes (he z (AV hz) H' _ s1 fun H'' s2=>?_)
  rw[AC] at hi
  refine Jf (by rw[AC];exact hi) qS (s2 _ _ hD') (by rw[AC,AZ];exact zq (by omega)) ⟨fun b o qb=>?_,?_⟩
  ·rw[zk (zr qb hD)]
   exact s2 b o (s1 b o qb)
  ·rw[take_snoc hz,AM]
   rfl
 ·rintro ys H' ⟨s1,rfl⟩ hD'
  rw[AC,Aq] at hD'
  exact q H' s1 hD'
theorem map_str {z:Str} {D:Addr} {t:Nat} {te:TE} {σ0:St} {H1:Hp} {Q:VK} (h:Nat->V) (hl:z.length<=1000) (hD:H1 D=none)
  (he:∀ c ∈ z.cps.toList,∀ H' Q',zB H1 H'->(∀ H'',zB H' H''->Q' (h c) H'')->te (σ0.set t (some (.str ⟨#[c]⟩))) H' Q')
  (q:∀ H',zB H1 H'->H' D=some (.lst (z.cps.toList.map h))->Q (.ref D) H'):jZ (Its z) (jU t) tYes te σ0 H1 Q D:=by
 refine yv (fun i ys H'=>zB H1 H'/\ys=(z.cps.toList.take i).map h) ⟨zd hD _,rfl⟩ ?_ ?_
 ·rintro i ys H' c hc ⟨s1,rfl⟩ hD'
  have hi:i < z.cps.size:=(Bl.mp hc).1
  have hc':z.cps.toList[i]? = some c:=by simpa using hc
  have hs:z.cps.size=z.length:=rfl
  refine yes (he c (AV hc') H' _ s1 fun H'' s2=>?_)
  refine Jf hi qS (s2 _ _ hD') (by rw[AC,AZ];exact zq (by omega)) ⟨fun b o qb=>?_,?_⟩
  ·rw[zk (zr qb hD)]
   exact s2 b o (s1 b o qb)
  ·rw[take_snoc hc',AM]
   rfl
 ·rintro ys H' ⟨s1,rfl⟩ hD'
  rw[A8 (by simp)] at hD'
  exact q H' s1 hD'
theorem trues {α:Type} (as:List α):as.map (fun _=>V.bl true)=(as.map fun _=>true).map V.bl:=by rw[A2];rfl
theorem xD {α:Type} (as:List α):(as.map fun _=>true).all id=true:=by
 rw[A7]
 intro x hx
 obtain⟨_,_,rfl⟩:=AS.mp hx
 rfl
theorem zB.rfl' {H:Hp}:zB H H:=fun _ _ h=>h
inductive Th where
 | non
 | bl (b:Bool)
 | int (i:Int)
 | str (x:Str)
 | lst
 | dct
 | tup (ts:List Th)
def tyTh:Th->Value
 | .non=>.type "NoneType"
 | .bl _=>.type "bool"
 | .int _=>.type "int"
 | .str _=>.type "str"
 | .lst=>.type "list"
 | .dct=>.type "dict"
 | .tup _=>.type "tuple"
def isStrB:Th->Bool
 | .str _=>true
 | _=>false
theorem xE {K:PySem.W.Frag} (t:Th):PySem.W.kitOne K (tyTh t) (.type "str")=some (isStrB t):=by cases t <;> first | rfl | exact JW _
open Classical in
section
variable {X : Addr -> Prop} {H0 : Hp} {σ : St}
end
end L4
namespace L2
open PySem PySem.Spec PyProof.Rows
open Builtin
section
variable {X : Cx}
end
end L2
namespace L4
open PySem L2
section
variable {B : Th -> Bool} {H0 H : Hp} {l : Addr} {n : Nat} {σ : St}
end
open PySem L2 PySem.StrLaws
end L4
namespace L2
open PySem PySem.Spec PyProof.Rows
open PySem PySem.Spec PyProof.Rows PySem.Builtin PySem.Builtin.Str
section
variable {X : Cx} {e : Expr} {es : List Expr} {te ta tb : TE} {t : TA} {pos : Pos} {a b : Expr} {st : Stmt} {rest : List Stmt} {ts us : TS}
end
section
variable {X : Cx}
end
end L2
namespace L4
open PySem L2 PySem.StrLaws
section
variable {T : xA} (g : Good T)
include g
end
open PySem L2
section
variable {X : Addr -> Prop} {H0 H : Hp} {σ : St} {B : Th -> Bool} {l : Addr} {n : Nat}
end
section
variable {T : xA} (g : Good T)
include g
end
section
variable {X : Addr -> Prop} {H0 : Hp} {σ : St} {K : PySem.W.Frag}
end
section
variable {T : xA} (g : Good T) (m4 : T.m <= 4) (c4 : T.cs.length <= 4)
include g m4
end
section
variable {T : xA} (g : Good T)
include g
end
end L4
namespace L2
open PySem PySem.Spec PyProof.Rows
section
variable {X : Cx}
theorem bt_min:bootBuiltins "min" = some (.builtin "min"):=by decide +kernel
theorem Yd (K:PySem.W.Frag) (hc:X.calm=true):qA X (.builtin "min") (fun xs H Q=>∃ i j,xs=[.int i,.int j]/\Q (.int (if j < i then j else i)) H):=Y6 hc
end
theorem iteDT {c A B:Prop} [Decidable c] (hc:decide c=true) (h:A):if decide c=true then A else B:=by rw[if_pos hc];exact h
theorem iteDF {c A B:Prop} [Decidable c] (hc:decide c=false) (h:B):if decide c=true then A else B:=by rw[if_neg (by rw[hc];exact AY)];exact h
end L2
namespace L4
open PySem L2
end L4
namespace Fr
end Fr
namespace PySem
open Sem (wp)
section
variable {prog : Program} {w : World} {A : Around} {E : Value -> Shared -> Prop} {s : Shared}
theorem wpAny_collect_range {Q:List Value->Shared->Prop} {it:Addr} {a b c:Int} {t u v:Tok} {n:Nat} (hh:A.handled=none) (hr:IsRange s.heap it a b c t u v) (hsmall:Builtin.Range.small a b c=true)
  (hn:Builtin.Range.rangeSize a b c=n) (hlen:n<=2 ^ 24)
  (hQ:∀ h' tk (acc:Array Value),(∀ b o',s.heap.get? b=some o'->h'.get? b=some o')->ItemsOf (fun i v=>∃ t,v=.int (a+i * c) t) acc n->Q acc.toList { s with heap:=h',toks:=tk }) :
  wpAny (model prog w) A (collect (.ref it)) Q E s:=by
 unfold collect
 refine AA (Df (Ax F.entry_proto_collect ?_))
 rw[Au F.plain_proto_collect _]
 show wpAny _ A.in1 (newList [] >>= fun l=>again (.builtin "list.__iadd__" ⟨[l,.ref it],[]⟩)) _ _ s
 refine AA (Aj ?_)
 refine AB ⟨BQ F.plain_list_iadd _,Ax F.entry_list_iadd ?_⟩
 rw[Au F.plain_list_iadd _]
 show wpAny _ A.in1 (Builtin.List.listExtendWith (.ref s.heap.objs.size) (.ref it) (.ref s.heap.objs.size)) _ _ _
 have hS:(s.heap.push { cls:=.type "list",data:=.seq ([]:List Value).toArray }).get? s.heap.objs.size=some { cls:=.type "list",data:=.seq #[] 0 }:=AH _ rfl
 have fin':∀ (s':Shared),(∃ h' tk acc c',s' = { s with heap:=h',toks:=tk }/\(∀ b o,b ≠ s.heap.objs.size->(s.heap.push { cls:=.type "list",data:=.seq ([]:List Value).toArray }).get? b=some o->h'.get? b=some o)/\h'.get? s.heap.objs.size=some { cls:=.type "list",dict:=none,data:=.seq acc c',slots:=#[] }/\ItemsOf (fun i v=>∃ t,v=.int (a+i * c) t) acc n)->wpAny (model prog w) A (match Value.ref s.heap.objs.size with
   | Value.ref a=>do
    match (<- load a).data with
     | Data.seq xs _=>pure xs.toList
     | _=>unsupported "internal:collect"
   | _=>unsupported "internal:collect") Q E s':=by
  rintro s' ⟨h',tk,acc,c',rfl,kp,e,hacc⟩
  show wpAny _ A (load s.heap.objs.size >>= _) _ _ _
  refine AA (D0 e ?_)
  refine AB ?_
  exact hQ h' tk acc (fun b o' hb=>kp b o' (AN (AJ hb)) (AD _ hb)) hacc
 refine Bv (wpAny_extend_range (A:=A) (R:=fun r s'=>r=.ok (.ret (.ref s.heap.objs.size))/\∃ h' tk acc c',s' = { s with heap:=h',toks:=tk }/\(∀ b o,b ≠ s.heap.objs.size->(s.heap.push { cls:=.type "list",data:=.seq ([]:List Value).toArray }).get? b=some o->h'.get? b=some o)/\h'.get? s.heap.objs.size=some { cls:=.type "list",dict:=none,data:=.seq acc c',slots:=#[] }/\ItemsOf (fun i v=>∃ t,v=.int (a+i * c) t) acc n)
  (s:={ s with heap:=s.heap.push { cls:=.type "list",data:=.seq ([]:List Value).toArray } }) hh (AD _ hr) hsmall hn hlen _ _ 0 hS fun h' tk acc' c' k1 k2 k3=>⟨rfl,h',tk,acc',c',rfl,k1,k2,k3⟩) (fun fin s' h=>?_) (fun e s' h=>?_)
 ·cases fin with
  | done f=>
   obtain⟨e,h⟩:=h
   cases e
   exact fin' _ h
  | again c'=>exact⟨h.1,Bf h.2 fun r s'' hr=>by obtain⟨rfl,hr⟩:=hr;exact fin' _ hr⟩
 ·exact absurd h.1 (by simp)
end
theorem meets_tuple_new_range (l:Addr) (a b c:Int) (t u v:Tok) (n:Nat) (hsmall:Builtin.Range.small a b c=true) (hn:Builtin.Range.rangeSize a b c=n) (hlen:n<=2 ^ 20) :
  Meets (Builtin.«tuple.__new__» ⟨[.type "tuple",.ref l],[]⟩)
   (fun A R s=>A.handled=none/\IsRange s.heap l a b c t u v/\∀ (h':Heap) (tk:Nat) (acc:Array Value),(∀ b o',s.heap.get? b=some o'->h'.get? b=some o')->ItemsOf (fun i v=>∃ t,v=.int (a+i * c) t) acc n->R (.ok (.ret (.ref h'.objs.size))) { s with heap:=h'.push { cls:=.type "tuple",data:=.seq acc },toks:=tk }):=
 .of_wp fun prog w A R s h=>by
  obtain⟨hp,g,d,tk,os⟩:=s;obtain⟨hh,ht,h⟩:=h
  have hsub:=sub_tuple_self
  have hinit:=init_tuple_lookup
  have hmh:=madeHere_tuple
  have hT:Shared.TypeIs ⟨hp,g,d,tk,os⟩ (.ref l) "range":=⟨_,ht,rfl⟩
  wp_walk using AutoSeq1.wpAny_loadPart' ht,Bp hT,wpAny_collect_range (A:=A.in1) hh ht hsmall hn (by omega)
  intro h' tk' acc hk hacc
  show wpAny _ _ (Builtin.Tuple.tupleExact acc.toList.toArray >>= fun v=>ret v) _ _ _
  unfold Builtin.Tuple.tupleExact
  have hsz:acc.size<=sizeLine:=by rw[hacc.1];exact Ag hlen (by decide +kernel)
  refine AA (Aj ?_ (by show acc.toList.toArray.size<=sizeLine;simpa using hsz))
  refine AB ⟨_,rfl,?_⟩
  have e:acc.toList.toArray=acc:=by simp
  rw[e]
  exact h h' tk' acc hk hacc
section
variable {prog : Program} {w : World} {A : Around} {E : Value -> Shared -> Prop} {s : Shared}
theorem call_tuple_range {l:Addr} {a b c:Int} {t u v:Tok} {n:Nat} {Q:Value->Shared->Prop} (hh:A.handled=none) (hr:IsRange s.heap l a b c t u v) (hsmall:Builtin.Range.small a b c=true) (hn:Builtin.Range.rangeSize a b c=n) (hlen:n<=2 ^ 20)
  (h:∀ (h':Heap) (tk:Nat) (acc:Array Value),(∀ b o',s.heap.get? b=some o'->h'.get? b=some o')->ItemsOf (fun i v=>∃ t,v=.int (a+i * c) t) acc n->Q (.ref h'.objs.size) { s with heap:=h'.push { cls:=.type "tuple",data:=.seq acc },toks:=tk }) :
  wpAny (model prog w) A (call (.type "tuple") [.ref l]) Q E s:=
 callType_new F.called_tuple (by decide) (F.typeCall_tuple_1 _) (F.newCall_tuple_1 _) (fun obj=>F.args_object_init_2 obj _) F.entry_tuple_new
  (meets_tuple_new_range l a b c t u v n hsmall hn hlen) ⟨hh,hr,fun h' tk acc hk hacc=>⟨⟨_,AH _ rfl,rfl⟩,h h' tk acc hk hacc⟩⟩
end
end PySem
namespace PySem.SeqAt
open PySem
theorem wpAny_forRange {M:Model} {A:Around} {E:Value->Shared->Prop} {s:Shared} {β:Type} {a b:Nat} (f:Nat->β->Sem (ForInStep β)) (I:Nat->β->Shared->Prop) (Q:β->Shared->Prop)
  (turn:∀ i c s,a<=i->i < b->I i c s->wpAny M A (f i c) (fun r s'=>match r with | .yield c'=>I (i+1) c' s' | .done c'=>Q c' s') E s)
  (fin:∀ c s,I (max a b) c s->Q c s) (c:β) (h:I a c s):wpAny M A (forIn [a:b] c f) Q E s:=by
 rw[Std.Legacy.Range.forIn_eq_forIn_range']
 have hsz:([a:b]:Std.Legacy.Range).size=b - a:=by simp[Std.Legacy.Range.size]
 show wpAny M A (forIn (List.range' a ([a:b]:Std.Legacy.Range).size 1) c f) Q E s
 rw[hsz]
 refine wpAny_forIn_list f (fun l c st=>∃ i,a<=i/\i<=max a b/\l=List.range' i (max a b - i) 1/\I i c st) Q ?_ ?_ _ c ⟨a,AG _,by omega,by congr 1;omega,h⟩
 ·rintro x rest c st ⟨i,hai,hib,hl,hI⟩
  have hlt:i < max a b:=by
   rcases Cj i (max a b) with h' | h'
   ·exact h'
   ·rw[show max a b - i=0 by omega] at hl;simp at hl
  obtain⟨n,hn⟩:∃ n,max a b - i=n+1:=⟨max a b - i - 1,by omega⟩
  rw[hn,List.range'_succ] at hl
  obtain⟨rfl,rfl⟩:=DY hl
  refine Bv (turn x c st hai (by omega) hI) (fun r st' h'=>?_) fun _ _ h'=>h'
  cases r with
  | done c'=>exact h'
  | yield c'=>exact⟨x+1,by omega,by omega,by congr 1;omega,h'⟩
 ·rintro c st ⟨i,hai,hib,hl,hI⟩
  have:i=max a b:=by
   rcases Cj i (max a b) with h' | h'
   ·obtain⟨n,hn⟩:∃ n,max a b - i=n+1:=⟨max a b - i - 1,by omega⟩
    rw[hn,List.range'_succ] at hl
    cases hl
   ·omega
  rw[this] at hI
  exact fin c st hI
theorem tuple_indexAt (l:Addr) (items:Array Value) (n:Nat) (dd:Option Addr) (sl:Array (Option Value)) (x:Value) (e:Value->Bool) (j:Nat) (hj:j < items.size)
  (hit:e items[j]=true) (hno:∀ m (hm:m < items.size),m < j->e items[m]=false) :
  Meets (Builtin.«tuple.index» ⟨[.ref l,x],[]⟩)
   (fun A R s=>s.heap.get? l=some { cls:=.type "tuple",dict:=dd,data:=.seq items n,slots:=sl }/\(∀ y,y ∈ items->EqAt A.in1 s y x (e y))/\R (.ok (.ret (.int j s.toks))) { s with toks:=s.toks+1 }):=
 .of_wp fun prog w A R s h=>by
  obtain⟨hp,g,d,tk,os⟩:=s;obtain⟨hl,he,h⟩:=h
  wp_walk using AutoSeq1.wpAny_loadPart' hl,wpAny_forRange _ (fun i c s'=>c=(none,())/\s'=⟨hp,g,d,tk,os⟩/\i<=j) _
  case turn=>
   rintro i c s' hi1 hi2 ⟨rfl,rfl,hij⟩
   have hi:i < items.size:=by omega
   rw[BZ hi]
   refine AA (he _ (Array.getElem_mem hi) prog w _ _ ?_)
   rcases Cj i j with h' | h'
   ·rw[hno i hi h']
    wp_walk
    exact⟨rfl,rfl,h'⟩
   ·have e1:i=j:=by omega
    subst e1
    rw[hit]
    wp_walk
    exact⟨_,rfl,h⟩
  case fin=>
   rintro c s' ⟨rfl,rfl,hij⟩
   omega
  case h=>
   exact⟨rfl,rfl,A0 _⟩
end PySem.SeqAt
namespace L2
open PySem PySem.Spec PyProof.Rows
theorem xF {ns:List Int} {us:List Value} (h:IntsAre us ns):zX (ns.map V.int) us:=by
 induction h with
 | nil=>exact .nil
 | cons n t _ ih=>exact .cons ⟨t,rfl⟩ ih
theorem JY:∀ {xs:List V} {us:List Value},xs.length=us.length->(∀ (i:Nat) x u,xs[i]? = some x->us[i]? = some u->RelV x u)->zX xs us
 | [],[],_,_=>.nil
 | [],_ :: _,h,_=>by cases h
 | _ :: _,[],h,_=>by cases h
 | x :: xs,u :: us,h,k=>.cons (k 0 x u rfl rfl) (JY (by simpa using h) fun i y v a b=>k (i+1) y v (by simpa using a) (by simpa using b))
theorem Ye {n:Nat} {acc:Array Value} (h:ItemsOf (fun i v=>∃ t,v=.int (0+i * 1) t) acc n):zX ((List.range n).map fun (i:Nat)=>V.int (i:Int)) acc.toList:=by
 refine JY (by rw[AC,Av];simpa using h.1.symm) fun i x u hx hu=>?_
 rw[AW] at hx
 obtain⟨j,hj,rfl⟩:=Ac.mp hx
 have ej:j=i:=by
  have:=AE.mp hj
  obtain⟨_,e⟩:=this
  rw[List.getElem_range] at e
  exact e.symm
 subst ej
 obtain⟨t,e⟩:=h.2 j u (by simpa using hu)
 rw[e,Int.zero_add,Int.mul_one]
 exact⟨t,rfl⟩
section
variable {X : Cx}
def tRng (ta:TA):TE:=fun σ H Q=>ta σ H fun vs H1=>∃ j:Int,vs=[.int j]/\∀ p,H1 p=none->Q (.ref p) (upd H1 p (.rng 0 j))
theorem pe_rng {a:Expr} {ta:TA} {p pos:Pos} (hg:Gl X "range") (hm:X.mg "range" = none) (ha:PA X [a] ta) (hs:starEach [a] X.env=[(false,eval a X.env)]:=by rfl):PE X (.Call (.Name "range" p) [a] [] pos) (tRng ta):=by
 intro pins s σ H Q I h
 refine Call_ (ZI I hg hm boot_range (BD (thn (ha pos pins s σ H _ I h) fun us s1 ⟨vs,H1,I1,r1,q1⟩=>?_) hs rfl))
 obtain⟨j,e,q⟩:=q1
 subst e
 cases r1 with
 | cons r rr=>
  cases rr
  obtain⟨t,rfl⟩:=r
  refine call_range_1 ⟨.ref s1.heap.objs.size,_,I1.laid (t':=_) (o:=.rng 0 j) (fun b o q=>AD _ q) (AG _) ?_,rfl,q _ (I1.hok.fresh (AG _))⟩
  exact⟨_,_,_,AH _ rfl⟩
theorem JB (hc:X.calm=true):qA X (.type "list") (fun xs H Q=>∃ (p:Addr) (j:Int),xs=[.ref p]/\H p=some (.rng 0 j)/\0<=j/\j<=1000/\∀ l,H l=none->Q (.ref l) (upd H l (.lst ((List.range j.toNat).map fun (i:Nat)=>V.int (i:Int))))):=by
 intro pins s σ H xs us Q I r h
 obtain⟨p,j,rfl,hp,j0,j1,q⟩:=h
 obtain⟨u,rfl,rx⟩:=vals1 r
 cases rx
 obtain⟨t,u,v,e⟩:=I.hok p _ hp
 have hn:Builtin.Range.rangeSize 0 j 1=(j.toNat:Nat):=by rw[rangeSize_one];split <;> omega
 refine call_list_range (I.ok.hd hc) e (small_one (by omega) (by omega) (by omega) (by omega)) hn (by omega) fun h' tk acc c' kp he hacc=>?_
 refine⟨.ref s.heap.objs.size,_,I.laid (t':=tk) (o:=.lst ((List.range j.toNat).map fun (i:Nat)=>V.int (i:Int))) kp (AG _) ?_,rfl,q _ (I.hok.fresh (AG _))⟩
 refine⟨by rw[AC,Av];exact B8 (zq (by omega)),acc.toList,c',?_,by simpa using he⟩
 exact Ye hacc
end
theorem Inv.changed {X:Cx} {pins:List (Addr×Obj)} {σ:St} {H:Hp} {s:Shared} {ch:List Addr} {h':Heap} {t':Nat} (I:Inv X pins σ H s) (hf:∀ b ∈ ch,YY X pins H b) (k:∀ c o,c ∉ ch->s.heap.get? c=some o->h'.get? c=some o):Inv X pins σ H { s with heap:=h',toks:=t' }:=by
 have nt:∀ b u,H b=some u->b ∉ ch:=fun b u e hb=>by
  rw[(hf b hb).1] at e
  cases e
 have nl:X.env.locals ∉ ch:=fun hb=>(hf _ hb).2.1 rfl
 refine I.step (g':=s.gens) (d':=s.drawn) (ch:=ch) (fun b hb=>⟨(hf b hb).2.2.2.1,(hf b hb).2.1,(hf b hb).2.2.2.2.1,(hf b hb).2.2.2.2.2⟩) (fun b o _ _ hc e _=>k b o hc e) (fun b o _ _ hc e _=>⟨o.slots,k b o hc e⟩) (fun _ _ _ _ n=>n)
  (fun b o hc e=>⟨o,k b o hc e⟩) (fun _ _ e=>e) (fun _ _ _ e=>e) (fun b ps e=>⟨#[],by rw[e];simp⟩) (fun m hm=>?_) (fun b u e=>?_) I.bare
 ·obtain⟨o,es,ep,ho,r⟩:=hm
  exact⟨o,es,ep,k _ o nl ho,r⟩
 ·refine (I.hok b u e).stay (fun c v hc q=>k c v ?_ q) (fun _ q=>q) fun _ _ q=>q
  rcases hc with z | z
  ·rw[z];exact nt b u e
  ·exact nt c _ z
section
variable {X : Cx}
end
theorem wS:bootBuiltins "sorted" = some (.builtin "sorted"):=by decide +kernel
end L2
namespace L4
open PySem L2
abbrev nV (i:Nat):V:=.int (i:Int)
end L4
namespace Tn
def place (m:Nat) (r:List Nat):Nat:=r.foldl (fun p x=>p * m+x) 0
theorem place_snoc (m:Nat) (r:List Nat) (x:Nat):place m (r++[x])=place m r * m+x:=by
 unfold place
 rw[List.foldl_append]
 rfl
theorem flat_len {α β:Type} (f:α->List β) (b:Nat) (hf:∀ x,(f x).length=b):∀ (xs:List α),(xs.flatMap f).length=xs.length * b
 | []=>by simp
 | y :: ys=>by rw[Cw,AI,hf,flat_len f b hf ys,Ab,Nat.succ_mul];omega
def Rw (m k:Nat) (r:List Nat):Prop:=r.length=k/\∀ x ∈ r,x < m
theorem place_lt {m:Nat}:∀ (k:Nat) (r:List Nat),Rw m k r->place m r < m ^ k:=by
 intro k
 induction k with
 | zero=>
  intro r h
  have:r=[]:=CQ.mp h.1
  subst this
  show 0 < m ^ 0
  rw[Nat.pow_zero]
  decide
 | succ k ih=>
  intro r h
  obtain⟨h1,h2⟩:=h
  have hne:r ≠ []:=by intro z;rw[z] at h1;cases h1
  have e:=List.dropLast_concat_getLast hne
  have hr:Rw m k r.dropLast:=⟨by rw[List.length_dropLast,h1];rfl,fun x hx=>h2 x ((List.dropLast_sublist r).subset hx)⟩
  have h3:=ih _ hr
  have h4:=h2 (r.getLast hne) (List.getLast_mem hne)
  rw[<- e,place_snoc,Nat.pow_succ]
  have h5:(place m r.dropLast+1) * m<=m ^ k * m:=Nat.mul_le_mul_right m h3
  rw[Nat.succ_mul] at h5
  omega
def at' (o:List Nat) (i:Nat):Nat:=o.getD i 0
theorem nodup_len:∀ (m:Nat) (xs:List Nat),xs.Nodup->(∀ x ∈ xs,x < m)->xs.length<=m
 | 0,[],_,_=>AG _
 | 0,x :: xs,_,h=>absurd (h x (AO ..)) (BX _)
 | m+1,xs,nd,h=>by
  have h1:=nodup_len m (xs.erase m) (nd.erase m) fun x hx=>by
   obtain⟨ne,hm⟩:=nd.mem_erase_iff.mp hx
   have:=h x hm
   omega
  by_cases hm:m ∈ xs
  ·rw[C5 hm] at h1
   omega
  ·rw[List.erase_of_not_mem hm] at h1
   omega
structure Cs (m k:Nat) (cs:List Nat):Prop where
 len:cs.length=m ^ k
 lt:∀ x ∈ cs,x < m
theorem Cs.at_lt {m k:Nat} {cs:List Nat} (h:Cs m k cs) {p:Nat} (hp:p < m ^ k):at' cs p < m:=by
 unfold at'
 rw[ED,AK (by rw[h.len];exact hp)]
 exact h.lt _ (Bc _)
end Tn
namespace L2
open PySem PySem.Spec PyProof.Rows
section
variable {prog : Program} {w : World} {A : Around} {E : Value -> Shared -> Prop} {s : Shared}
variable {z TI TO i1 i2 t1 t2 : Addr} {xs ys : Array Value} {k1 k2 : Nat}
end
section
variable {X : Cx}
end
section
variable {X : Cx}
end
end L2
namespace Tn
end Tn
namespace L2
open PySem PySem.Spec PyProof.Rows
section
variable {X : Cx}
theorem kslT (K:PySem.W.Frag) (hK:X.K=K:=by rfl):SlR X (fun x lo hi H Q=>rSlT K x lo hi H Q\/rSlTW K x lo hi H Q):=by
 subst hK
 exact sl_tup.or sl_tupW
end
theorem wT {K:PySem.W.Frag} {a:Addr} {n:Nat} {xs:List V} {ad:Nat->Addr} {v1 v2 v3:Nat->V} {tt:TT} {te:TE} {H1:Hp} {Q:VK} {D:Addr} {more:St} (P:Nat->List V->Hp->Prop) (h0:P 0 [] (upd H1 D (.lst []))) (hn:xs.length=n) (hx:∀ i,i < n->xs[i]? = some (.ref (ad i)))
  (hl:∀ i ys H,P i ys H->H D=some (.lst ys)->SqT K H a xs) (ht:∀ i ys H,i < n->P i ys H->SqT K H (ad i) [v1 i,v2 i,v3 i])
  (hs:∀ i ys H,i < n->P i ys H->H D=some (.lst ys)->tt (some (v1 i) :: some (v2 i) :: some (v3 i) :: more) H fun b H4=>if b=true then te (some (v1 i) :: some (v2 i) :: some (v3 i) :: more) H4 (cYes (fun σ=>∃ x y z,σ=x :: y :: z :: more) P n D (some (v1 i) :: some (v2 i) :: some (v3 i) :: more) i) else cNo (fun σ=>∃ x y z,σ=x :: y :: z :: more) P n D (some (v1 i) :: some (v2 i) :: some (v3 i) :: more) i H4)
  (hd:∀ ys H,P n ys H->H D=some (.lst ys)->Q (.ref D) H) :
  jZ (Itt K a) (gTup K 3 (gCons (jU 0) (gCons (jU 1) (gCons (jU 2) gNil)))) tt te (none :: none :: none :: more) H1 Q D:=by
 refine ZN (xv:=fun i=>.ref (ad i)) (st:=fun i=>some (v1 i) :: some (v2 i) :: some (v3 i) :: more) (fun σ=>∃ x y z,σ=x :: y :: z :: more) P ⟨_,_,_,rfl⟩ h0 (fun i ys H hi p hD=>⟨⟨xs,_,hl i ys H p hD,hx i hi⟩,fun x H2 y=>⟨y.1,?_⟩⟩) (fun ys H p hD=>⟨xs,hl _ ys H p hD,Nat.le_of_eq hn⟩)
  (fun i ys σ' H K' hi r p k=>?_) hs hd
 ·have e:=y.2 xs (hl i ys H p hD)
  rw[hx i hi] at e
  exact (AL e).symm
 ·obtain⟨x,y,z,rfl⟩:=r
  exact⟨ad i,_,rfl,ht i ys H hi p,rfl,_,_,rfl,_,_,rfl,_,_,rfl,rfl,k⟩
section
variable {X : Cx}
end
section
variable {κ : Type} [DecidableEq κ]
def jz (kvs:List (κ×V)) (k:κ):Option V:=(kvs.find? fun kv=>decide (kv.1=k)).map (·.2)
def ZH (kvs:List (κ×V)) (k:κ) (v:V):List (κ×V):=
 if (kvs.any fun kv=>decide (kv.1=k))=true then kvs.map (fun kv=>if kv.1=k then (kv.1,v) else kv) else kvs++[(k,v)]
theorem qm {p:κ×V} {r:List (κ×V)} {k:κ} (e:p.1=k):jz (p :: r) k=some p.2:=by simp[jz,List.find?_cons,e]
theorem qo {p:κ×V} {r:List (κ×V)} {k:κ} (e:¬ p.1=k):jz (p :: r) k=jz r k:=by simp[jz,List.find?_cons,e]
theorem Qz (k:κ):∀ kvs:List (κ×V),(kvs.any fun kv=>decide (kv.1=k))=(jz kvs k).isSome
 | []=>rfl
 | p :: r=>by
  rw[B1]
  by_cases e:p.1=k
  ·simp only[qm e,decide_eq_true e,Bool.true_or,Option.isSome_some]
  ·rw[qo e,Ay e,Bool.false_or];exact Qz k r
theorem yC (k j:κ) (y:V):∀ kvs:List (κ×V),jz (kvs.map fun kv=>if kv.1=k then (kv.1,y) else kv) j=(jz kvs j).map fun x=>if j=k then y else x
 | []=>rfl
 | p :: r=>by
  have ih:=yC k j y r
  rw[AQ]
  by_cases h:p.1=k
  ·rw[if_pos h]
   by_cases e:p.1=j
   ·rw[qm (p:=(p.1,y)) e,qm e,DI,if_pos (e.symm.trans h)]
   ·rw[qo (p:=(p.1,y)) e,qo e,ih]
  ·rw[if_neg h]
   by_cases e:p.1=j
   ·rw[qm (p:=p) e,qm e,DI,if_neg (fun z=>h (e.trans z))]
   ·rw[qo (p:=p) e,qo e,ih]
theorem wU (k j:κ) (y:V):∀ kvs:List (κ×V),jz kvs k=none->jz (kvs++[(k,y)]) j=if j=k then some y else jz kvs j
 | [],_=>by
  by_cases e:k=j
  ·rw[if_pos e.symm];exact qm (p:=(k,y)) e
  ·rw[if_neg (fun z=>e z.symm)];exact qo (p:=(k,y)) e
 | p :: r,hn=>by
  rw[List.cons_append]
  have hk:¬ p.1=k:=fun z=>by rw[qm z] at hn;cases hn
  rw[qo hk] at hn
  have ih:=wU k j y r hn
  by_cases e:p.1=j
  ·rw[qm e,qm e,if_neg (fun z=>hk (e.trans z))]
  ·rw[qo e,qo e,ih]
theorem JZ (kvs:List (κ×V)) (k j:κ) (y:V):jz (ZH kvs k y) j=if j=k then some y else jz kvs j:=by
 unfold ZH
 by_cases a:(kvs.any fun kv=>decide (kv.1=k))=true
 ·rw[if_pos a,yC]
  rw[Qz] at a
  by_cases e:j=k
  ·obtain⟨x,hx⟩:=C4.mp a
   rw[if_pos e,e,hx,DI,if_pos rfl]
  ·rw[if_neg e]
   cases jz kvs j with
   | none=>rfl
   | some x=>rw[DI,if_neg e]
 ·rw[if_neg a]
  refine wU k j y kvs ?_
  rw[Qz] at a
  cases q:jz kvs k with
  | none=>rfl
  | some x=>rw[q] at a;exact (a rfl).elim
theorem jF (kvs:List (κ×V)) (k:κ) (v:V):(ZH kvs k v).length<=kvs.length+1:=by
 unfold ZH
 split
 ·rw[AC];omega
 ·rw[AI,Ab,List.length_nil];omega
theorem yo.isSome_eq {o:Option V} {u:Option Value} (r:yo o u):o.isSome=u.isSome:=by
 cases o with
 | none=>cases u with
  | none=>rfl
  | some _=>exact (show False from r).elim
 | some _=>cases u with
  | none=>exact (show False from r).elim
  | some _=>rfl
theorem KV.val {kvs:List (κ×V)} {vs:List (κ×Value)} (r:KV kvs vs) (k:κ):yo (jz kvs k) (valueAt vs k):=by
 unfold KV at r
 induction r with
 | nil=>exact True.intro
 | @cons p q ps qs h t ih=>
  obtain⟨h1,h2⟩:=h
  by_cases e:p.1=k
  ·have e':q.1=k:=h1.symm.trans e
   have b:valueAt (q :: qs) k=some q.2:=by simp[valueAt,List.find?_cons,e']
   rw[qm e,b];exact h2
  ·have e':¬ q.1=k:=fun z=>e (h1.trans z)
   have b:valueAt (q :: qs) k=valueAt qs k:=by simp[valueAt,List.find?_cons,e']
   rw[qo e,b];exact ih
theorem KV.any {kvs:List (κ×V)} {vs:List (κ×Value)} (r:KV kvs vs) (k:κ):(kvs.any fun kv=>decide (kv.1=k))=vs.any fun kv=>decide (kv.1=k):=by
 unfold KV at r
 induction r with
 | nil=>rfl
 | cons h t ih=>rw[B1,B1,ih,h.1]
theorem KV.repl {kvs:List (κ×V)} {vs:List (κ×Value)} (r:KV kvs vs) (k:κ) {y:V} {u:Value} (ry:RelV y u) :
  KV (kvs.map fun kv=>if kv.1=k then (kv.1,y) else kv) (vs.map fun kv=>if kv.1=k then (kv.1,u) else kv):=by
 unfold KV at r ⊢
 induction r with
 | nil=>exact .nil
 | @cons p q ps qs h t ih=>
  rw[AQ,AQ]
  refine .cons ?_ ih
  obtain⟨h1,h2⟩:=h
  by_cases e:p.1=k
  ·rw[if_pos e,if_pos (h1.symm.trans e)];exact⟨h1,ry⟩
  ·rw[if_neg e,if_neg (fun z=>e (h1.trans z))];exact⟨h1,h2⟩
theorem KV.put {kvs:List (κ×V)} {vs:List (κ×Value)} (r:KV kvs vs) (k:κ) {y:V} {u:Value} (ry:RelV y u):KV (ZH kvs k y) (stored vs k u):=by
 unfold ZH stored
 rw[r.any k]
 by_cases e:(vs.any fun kv=>decide (kv.1=k))=true
 ·rw[if_pos e,if_pos e];exact r.repl k ry
 ·rw[if_neg e,if_neg e];exact Paired.snoc r ⟨rfl,ry⟩
theorem KV.length {kvs:List (κ×V)} {vs:List (κ×Value)} (r:KV kvs vs):kvs.length=vs.length:=Aw r
end
theorem WN {P:Program} {w:World} {k:Key} {u:Value} (r:RelV (kV k) u):(zR P w).is k u=true:=by
 cases k with
 | inl i=>obtain⟨t,e⟩:=(show ∃ t,u=Value.int i t from r);subst e;exact WH P w i t
 | inr x=>obtain⟨t,e⟩:=(show ∃ t,u=Value.str x t from r);subst e;exact WI P w x t
theorem wV {P:Program} {w:World}:∀ {ks:List Key} {us:List Value},zX (ks.map kV) us->ItemsAre (zR P w) ks us
 | [],_,r=>by rw[DD] at r;cases r;exact .nil
 | k :: ks,_,r=>by
  rw[AQ] at r
  cases r with
  | cons h t=>exact .cons (WN h) (wV t)
abbrev KT (H:Hp):List (List Key×V)->List (List Key×Addr×Value)->Prop:=Paired fun p q=>p.1=q.1/\H q.2.1=some (.tup (p.1.map kV))/\RelV p.2 q.2.2
theorem KT.val {H:Hp} {kvs:List (List Key×V)} {xs:List (List Key×Addr×Value)} (r:KT H kvs xs) (k:List Key):yo (jz kvs k) ((atKey xs k).map (·.2)):=by
 induction r with
 | nil=>exact True.intro
 | @cons p q ps qs h t ih=>
  obtain⟨h1,_,h2⟩:=h
  by_cases e:p.1=k
  ·have e':q.1=k:=h1.symm.trans e
   have b:atKey (q :: qs) k=some q.2:=by simp[atKey,List.find?_cons,e']
   rw[qm e,b];exact h2
  ·have e':¬ q.1=k:=fun z=>e (h1.trans z)
   have b:atKey (q :: qs) k=atKey qs k:=by simp[atKey,List.find?_cons,e']
   rw[qo e,b];exact ih
theorem KT.repl {H:Hp} {kvs:List (List Key×V)} {xs:List (List Key×Addr×Value)} (r:KT H kvs xs) (k:List Key) {y:V} {u:Value} (ry:RelV y u) :
  KT H (kvs.map fun kv=>if kv.1=k then (kv.1,y) else kv) (xs.map (putAt k u)):=by
 induction r with
 | nil=>exact .nil
 | @cons p q ps qs h t ih=>
  rw[AQ,AQ]
  refine .cons ?_ ih
  obtain⟨h1,h2,h3⟩:=h
  unfold putAt
  by_cases e:p.1=k
  ·rw[if_pos e,if_pos (h1.symm.trans e)];exact⟨h1,h2,ry⟩
  ·rw[if_neg e,if_neg (fun z=>e (h1.trans z))];exact⟨h1,h2,h3⟩
theorem KT.put {H:Hp} {kvs:List (List Key×V)} {xs:List (List Key×Addr×Value)} (r:KT H kvs xs) (k:List Key) {b:Addr} {y:V} {u:Value} (hb:H b=some (.tup (k.map kV))) (ry:RelV y u) :
  KT H (ZH kvs k y) (storedH xs k b u):=by
 have e:(kvs.any fun kv=>decide (kv.1=k))=(atKey xs k).isSome:=by
  rw[Qz,(r.val k).isSome_eq,Di]
 unfold ZH storedH
 rw[e]
 by_cases q:(atKey xs k).isSome=true
 ·rw[if_pos q,if_pos q];exact r.repl k ry
 ·rw[if_neg q,if_neg q];exact Paired.snoc r ⟨rfl,hb,ry⟩
theorem KT.keeps {H H':Hp} {kvs:List (List Key×V)} {xs:List (List Key×Addr×Value)} (r:KT H kvs xs) (ht:∀ b ys,H b=some (.tup ys)->H' b=some (.tup ys)):KT H' kvs xs:=
 Paired.mapP r fun _ _ z=>⟨z.1,ht _ _ z.2.1,z.2.2⟩
section
variable {P : Program} {w : World} {H : Hp} {h : Heap} {a : Addr}
theorem rd_of {u:HO} (ok:HOk P w H h) (e:Rd H a u):qd P w H h a u:=e.ok ok
theorem WO {kvs:List (Key×V)} (ok:HOk P w H h) (e:Rd H a (.dK kvs)):kvs.length<=sizeLine/\(a == sysModules)=false/\∃ vs,KV kvs vs/\h.DictOf (zR P w) a vs:=
 show qd P w H h a (.dK kvs) from rd_of ok e
theorem dk_of {kvs:List (Key×V)} (ok:HOk P w H h) (e:H a=some (.dK kvs)):kvs.length<=sizeLine/\(a == sysModules)=false/\∃ vs,KV kvs vs/\h.DictOf (zR P w) a vs:=WO ok (.inl e)
theorem JC {ks:List Key} (ok:HOk P w H h) (e:H a=some (.tup (ks.map kV))):(tupleKind (zR P w)).is h ks a:=by
 obtain⟨_,its,r,o,h1,h2,⟨n,h3⟩,_⟩:=(show qd P w H h a (.tup (ks.map kV)) from ok a _ e)
 exact⟨o,its.toArray,n,h1,h2,h3,by simpa using wV r⟩
theorem xG {kvs:List (List Key×V)} (ok:HOk P w H h) (e:Rd H a (.dT kvs)):kvs.length<=sizeLine/\(a == sysModules)=false /\
  ∃ xs,KT H kvs xs/\h.DictOfH (tupleKind (zR P w)) a xs:=by
 obtain⟨z,y,xs,r,o,es,ep,h1,h2,h3,h4,h5⟩:=(show qd P w H h a (.dT kvs) from rd_of ok e)
 refine⟨z,y,xs,r,o,es,ep,h1,h2,h3,h4,fun x hx=>?_,h5⟩
 have all:∀ {l:List (List Key×V)} {m:List (List Key×Addr×Value)},KT H l m->∀ x ∈ m,(tupleKind (zR P w)).is h x.1 x.2.1:=by
  intro l m q
  induction q with
  | nil=>intro x hx;exact nomatch hx
  | @cons p q ps qs hq t ih=>
   intro x hx
   rcases AR.mp hx with e | hx
   ·subst e
    exact JC ok (by rw[<- hq.1];exact hq.2.1)
   ·exact ih x hx
 exact all r x hx
theorem dt_of {kvs:List (List Key×V)} (ok:HOk P w H h) (e:H a=some (.dT kvs)):kvs.length<=sizeLine/\(a == sysModules)=false /\
  ∃ xs,KT H kvs xs/\h.DictOfH (tupleKind (zR P w)) a xs:=xG ok (.inl e)
end
def Yf (H:Hp) (a:Addr) (y:V) (r:Option V):Prop:=
 (∃ kvs k,Rd H a (.dK kvs)/\y=kV k/\r=jz kvs k)\/∃ kvs k b,Rd H a (.dT kvs)/\y=.ref b/\H b=some (.tup (k.map kV))/\r=jz kvs k
def DPut (H:Hp) (a:Addr) (y v:V) (H':Hp):Prop:=
 (∃ kvs k,H a=some (.dK kvs)/\y=kV k/\kvs.length < sizeLine/\H'=upd H a (.dK (ZH kvs k v))) \/
 ∃ kvs k b,H a=some (.dT kvs)/\y=.ref b/\H b=some (.tup (k.map kV))/\kvs.length < sizeLine/\H'=upd H a (.dT (ZH kvs k v))
theorem Yf.k {H:Hp} {a:Addr} {kvs:List (Key×V)} {k:Key} (e:H a=some (.dK kvs)):Yf H a (kV k) (jz kvs k):=.inl ⟨kvs,k,.inl e,rfl,rfl⟩
theorem Yf.t {H:Hp} {a b:Addr} {kvs:List (List Key×V)} {k:List Key} (e:H a=some (.dT kvs)) (eb:H b=some (.tup (k.map kV))):Yf H a (.ref b) (jz kvs k):=.inr ⟨kvs,k,b,.inl e,rfl,eb,rfl⟩
theorem DPut.k {H:Hp} {a:Addr} {kvs:List (Key×V)} {k:Key} {v:V} (e:H a=some (.dK kvs)) (hl:kvs.length < sizeLine):DPut H a (kV k) v (upd H a (.dK (ZH kvs k v))):=.inl ⟨kvs,k,e,rfl,hl,rfl⟩
section
variable {X : Cx} {pins : List (Addr × Obj)} {σ : St} {H : Hp} {s : Shared} {a : Addr} {y v : V} {u r : Value} {o : Option V} {A : Around} {E : Value -> Shared -> Prop}
theorem Inv.big (I:Inv X pins σ H s):sysModules < s.heap.objs.size:=by
 have h:mainGlobals < s.heap.objs.size:=(I.mod.glob.keeps I.bk).lt
 exact Ci (by decide) h
theorem xH {Q:Value->Shared->Prop} (hu:A.units+1 < cLine) (I:Inv X pins σ H s) (g:Yf H a y (some v)) (ry:RelV y u) (h:∀ w' s',Inv X pins σ H s'->RelV v w'->Q w' s') :
  wpAny (model X.prog X.w) A (getItem (.ref a) u) Q E s:=by
 rcases g with ⟨kvs,k,e,ey,l⟩ | ⟨kvs,k,b,e,ey,eb,l⟩
 ·subst ey
  obtain⟨z,hd,vs,rel,dd⟩:=WO I.hok e
  obtain⟨w',hw,rw'⟩:=yo.some_of (v:=v) (o:=valueAt vs k) (by rw[l];exact rel.val k)
  exact wpAny_getItem_of (WN ry) dd.mapOf hw (h w' _ (I.tok _) rw')
 ·subst ey
  cases (show u=Value.ref b from ry)
  obtain⟨z,hd,xs,rel,dd⟩:=xG I.hok e
  obtain⟨w',hw,rw'⟩:=yo.some_of (v:=v) (o:=(atKey xs k).map (·.2)) (by rw[l];exact rel.val k)
  obtain⟨p,hp,hp2⟩:=Ac.mp hw
  refine wpAny_getItem_heap (CW hu) (JC I.hok eb) dd hp ?_
  rw[hp2]
  exact h w' _ (I.tok _) rw'
theorem d_in {Q:Value->Shared->Prop} (hu:A.units+1 < cLine) (I:Inv X pins σ H s) (g:Yf H a y o) (ry:RelV y u) (h:∀ s',Inv X pins σ H s'->Q (.bool o.isSome) s') :
  wpAny (model X.prog X.w) A (compareOp .In u (.ref a)) Q E s:=by
 rcases g with ⟨kvs,k,e,ey,l⟩ | ⟨kvs,k,b,e,ey,eb,l⟩
 ·subst ey
  obtain⟨z,hd,vs,rel,dd⟩:=WO I.hok e
  refine wpAny_in_of (WN ry) hd dd.mapOf ?_
  rw[<- (rel.val k).isSome_eq,<- l]
  exact h _ (I.tok _)
 ·subst ey
  cases (show u=Value.ref b from ry)
  obtain⟨z,hd,xs,rel,dd⟩:=xG I.hok e
  refine wpAny_in_heap (CW hu) (JC I.hok eb) hd dd ?_
  have q:=(rel.val k).isSome_eq
  rw[Di] at q
  rw[<- q,<- l]
  exact h _ (I.tok _)
theorem d_notIn {Q:Value->Shared->Prop} (hu:A.units+1 < cLine) (I:Inv X pins σ H s) (g:Yf H a y o) (ry:RelV y u) (h:∀ s',Inv X pins σ H s'->Q (.bool (!o.isSome)) s') :
  wpAny (model X.prog X.w) A (compareOp .NotIn u (.ref a)) Q E s:=by
 rcases g with ⟨kvs,k,e,ey,l⟩ | ⟨kvs,k,b,e,ey,eb,l⟩
 ·subst ey
  obtain⟨z,hd,vs,rel,dd⟩:=WO I.hok e
  refine wpAny_notIn_of (WN ry) hd dd.mapOf ?_
  rw[<- (rel.val k).isSome_eq,<- l]
  exact h _ (I.tok _)
 ·subst ey
  cases (show u=Value.ref b from ry)
  obtain⟨z,hd,xs,rel,dd⟩:=xG I.hok e
  refine wpAny_notIn_heap (CW hu) (JC I.hok eb) hd dd ?_
  have q:=(rel.val k).isSome_eq
  rw[Di] at q
  rw[<- q,<- l]
  exact h _ (I.tok _)
theorem xI {h':Heap} {t':Nat} {ob:HO} (I:Inv X pins σ H s) (mu:Mut (H a)) (hs:Heap.SameBut a s.heap h') (he:∃ q,h'.get? a=some q) (new:qd X.prog X.w (upd H a ob) h' a ob) :
  Inv X pins σ (upd H a ob) { s with heap:=h',toks:=t' }:=
 I.write (x:=a) (e:=a) mu (.inl rfl) (fun b q hb z=>(hs.2 b hb).trans z) he new
theorem dk_new {P:Program} {w:World} {H':Hp} {h':Heap} {kvs:List (Key×V)} {vs:List (Key×Value)} (z:kvs.length<=sizeLine) (hd:(a == sysModules)=false) (rel:KV kvs vs) (dd:h'.DictOf (zR P w) a vs) :
  qd P w H' h' a (.dK kvs):=⟨z,hd,vs,rel,dd⟩
theorem xJ {H':Hp} {Q:Unit->Shared->Prop} (hu:A.units+1 < cLine) (I:Inv X pins σ H s) (g:DPut H a y v H') (ry:RelV y u) (rv:RelV v r) (h:∀ s',Inv X pins σ H' s'->Q () s') :
  wpAny (model X.prog X.w) A (setItem (.ref a) u r) Q E s:=by
 rcases g with ⟨kvs,k,e,ey,l,eH⟩ | ⟨kvs,k,b,e,ey,eb,l,eH⟩
 ·subst ey eH
  obtain⟨z,hd,vs,rel,dd⟩:=dk_of I.hok e
  have hz:vs.length<=sizeLine:=by rw[<- rel.length];exact z
  have hl:(ZH kvs k v).length<=sizeLine:=by have:=jF kvs k v;omega
  refine wpAny_setItem_pairs (hsz:=hz) (WN ry) dd fun h' dd' hs=>h _ ?_
  have he:∃ q,h'.get? a=some q:=let ⟨q,_,_,hq,_⟩:=dd';⟨q,hq⟩
  exact xI I (by rw[e];exact True.intro) hs he (dk_new hl hd (rel.put k rv) dd')
 ·subst ey eH
  cases (show u=Value.ref b from ry)
  obtain⟨z,hd,xs,rel,dd⟩:=dt_of I.hok e
  have hz:xs.length<=sizeLine:=by rw[<- Aw rel];exact z
  have hl:(ZH kvs k v).length<=sizeLine:=by have:=jF kvs k v;omega
  refine wpAny_setItem_heap (hsz:=hz) (CW hu) (JC I.hok eb) dd fun h' dd' hs=>h _ ?_
  obtain⟨q,es,ep,hq,h2,h3,h4,_,h5⟩:=dd'
  refine xI I (by rw[e];exact True.intro) hs ⟨q,hq⟩ ⟨hl,hd,_,(rel.put k eb rv).keeps fun c ys ec=>?_,q,es,ep,hq,h2,h3,h4,h5⟩
  rw[zk (ne_of ec e (fun z=>nomatch z))]
  exact ec
end
section
variable {X : Cx} {pins : List (Addr × Obj)} {σ : St} {H : Hp} {s : Shared} {a : Addr} {kvs : List (Key × V)} {k : Key} {u : Value} {A : Around} {E : Value -> Shared -> Prop}
theorem d_len {Q:Value->Shared->Prop} (I:Inv X pins σ H s) (e:Rd H a (.dK kvs)) (h:∀ t s',Inv X pins σ H s'->Q (.int kvs.length t) s'):wpAny (model X.prog X.w) A (call (.builtin "len") [.ref a]) Q E s:=by
 obtain⟨z,hd,vs,rel,dd⟩:=WO I.hok e
 refine call_len_dict hd dd (by rw[<- rel.length];rw[DH] at z;omega) ?_
 rw[<- rel.length]
 exact h _ _ (I.tok _)
end
def NoSl (i:Expr):Prop:=∀ ov iv,subscripted i false ov iv=operate [ov,iv] (getItem ov iv)
theorem xK {prog:Program} {w:World} {A:Around} {E:Value->Shared->Prop} {s:Shared} {env:Env} {value slice:Expr} {pos:Pos} {T id:String} {Q:Value->Shared->Prop}
  (hl:typeLookup (.type T) "__getitem__" = pure (some (.builtin id))) (hs:NoSl slice)
  (h:wpAny (model prog w) A (eval value env) (fun o s₁=>wpAny (model prog w) A (eval slice env) (fun i s₂=>s₂.TypeIs o T/\wpAny (model prog w) A (getItem o i) Q E s₂) E s₁) E s) :
  wpAny (model prog w) A (eval (.Subscript value slice pos) env) Q E s:=by
 refine Subscript_ (Bv h (fun o s₁ h₁=>Bv h₁ (fun i s₂ h₂=>?_) fun _ _ x=>x) fun _ _ x=>x)
 obtain⟨hT,h₂⟩:=h₂
 unfold subscriptTail
 refine AA ?_
 rw[getitemInPython_of_ne hT.not_modules]
 refine AA (B2 hT hl ?_)
 have fin:wpAny (model prog w) A (subscripted slice false o i) (fun r s₃=>wpAny (model prog w) A (letTemporaryGo value o r >>= fun _=>pure r) Q E s₃) E s₂:=by
  rw[hs o i]
  exact wpAny_operating (Bv h₂ (fun r s₃ h₃=>AA (wpAny_letTemporaryGo (AB h₃))) fun _ _ x=>x)
 first
  | exact AB (AA fin)
  | exact AA (AB (AA fin))
  | exact AA fin
theorem WP {X:Cx} {pins:List (Addr×Obj)} {σ:St} {H:Hp} {s:Shared} {a:Addr} {y:V} {o:Option V} (I:Inv X pins σ H s) (g:Yf H a y o):s.TypeIs (.ref a) "dict":=by
 rcases g with ⟨kvs,k,e,_,_⟩ | ⟨kvs,k,b,e,_,_,_⟩
 ·obtain⟨_,_,vs,_,dd⟩:=WO I.hok e
  exact dd.typeIs
 ·obtain⟨_,_,xs,_,dd⟩:=xG I.hok e
  exact dd.typeIs
def tDGet (td ty:TE):TE:=fun σ H Q=>td σ H fun x H1=>ty σ H1 fun y H2=>∃ a v,x=.ref a/\Yf H2 a y (some v)/\Q v H2
section
variable {X : Cx} {o i e value : Expr} {pos pos' tpos : Pos} {td ty tv : TE}
theorem pe_dget (hu:X.A.units+1 < cLine) (ho:PE X o td) (hi:PE X i ty) (hs:NoSl i):PE X (.Subscript o i pos) (tDGet td ty):=by
 intro pins s σ H Q I h
 refine xK PySem.F.slot_dict_getitem.lookup hs (thn (ho pins s σ H _ I h) fun u s1 ⟨x,H1,I1,rx,q1⟩=>thn (hi pins s1 σ H1 _ I1 q1) fun iv s2 ⟨y,H2,I2,ry,a,v,ex,g,q2⟩=>?_)
 subst ex
 obtain rfl:u=Value.ref a:=rx
 exact⟨WP I2 g,xH hu I2 g ry fun w' s3 I3 rw'=>⟨v,H2,I3,rw',q2⟩⟩
end
theorem dk_empty {P:Program} {w:World} {H:Hp} (h:Heap) (hb:sysModules < h.objs.size):qd P w H (h.push { cls:=.type "dict",data:=.dict #[] }) h.objs.size (.dK []):=
 ⟨A0 _,beq_eq_false_iff_ne.mpr (Am (AN hb)),[],.nil,Heap.DictOf.new h⟩
def tDNewK:TE:=fun _ H Q=>∀ p,H p=none->Q (.ref p) (upd H p (.dK []))
section
variable {X : Cx} {pos : Pos}
theorem yD:PE X (.Dict [] [] pos) tDNewK:=fun pins s σ H Q I h=>
 wpAny_Dict_empty ⟨.ref s.heap.objs.size,_,I.laid (a:=s.heap.objs.size) (o:=.dK []) (t':=s.toks) (fun _ _ q=>AD _ q) (AG _) (dk_empty s.heap I.big),rfl,h _ (I.hok.fresh (AG _))⟩
end
section
variable {X : Cx} {pins : List (Addr × Obj)} {σ : St} {H : Hp} {s : Shared} {a : Addr} {y d : V} {u r : Value} {o : Option V} {A : Around} {E : Value -> Shared -> Prop}
end
section
end
section
variable {X : Cx} {pins : List (Addr × Obj)} {σ : St} {H : Hp} {s : Shared} {a : Addr} {kvs : List (Key × V)} {A : Around} {E : Value -> Shared -> Prop}
theorem d_copyOf {Q:Value->Shared->Prop} (I:Inv X pins σ H s) (e:Rd H a (.dK kvs)) (h:∀ p s',H p=none->Inv X pins σ (upd H p (.dK kvs)) s'->Q (.ref p) s'):wpAny (model X.prog X.w) A (call (.type "dict") [.ref a]) Q E s:=by
 obtain⟨z,hd,vs,rel,dd⟩:=WO I.hok e
 refine kt_call_dict hd dd (by rw[<- rel.length];exact z) fun h' dd' hs=>?_
 refine h _ _ (I.hok.fresh (AG _)) (I.laid (a:=s.heap.objs.size) (o:=.dK kvs) (t':=s.toks) (fun b q hq=>?_) (AG _) (dk_new z (beq_eq_false_iff_ne.mpr (Am (AN I.big))) rel dd'))
 exact (hs.2 b (AN (AJ hq))).trans (AD _ hq)
end
section
variable {X : Cx} {pins : List (Addr × Obj)} {σ : St} {H : Hp} {s : Shared} {a : Addr} {y : V} {u : Value} {A : Around} {E : Value -> Shared -> Prop}
end
theorem no_keys:typeLookup (.type "list") "keys" = pure none:=am_miss_of_fast (by decide +kernel)
theorem zL:plainId "dict.update.loop" = true:=by decide +kernel
theorem qI:entryFor table "dict.update.loop" = some Builtin.«dict.update.loop»:=entryFor_of_fast (by kernel_rfl)
theorem Qn:isSubtype (.type "AttributeError") (.type "AttributeError")=pure true:=by rw[Bg];kernel_rfl
theorem keys_by {prog:Program} {w:World} {A:Around} {E:Value->Shared->Prop} {s:Shared} {a:Addr} {o:Obj} {xs:Array Value} {k:Nat} {t:Tok} {Q:Value->Shared->Prop}
  (hx:s.heap.get? a=some o) (hc:o.cls=.type "list") (hdat:o.data=.seq xs k) (hd:o.dict=none) (hA:A.handled=none)
  (h:∀ h' tk e,Heap.NewExcOf s.heap h' e "AttributeError" -> E (.ref e) { s with heap:=h',toks:=tk }) :
  wpAny (model prog w) A (getAttrBy (.ref a) (.str "keys" t) false) Q E s:=by
 obtain⟨c,dct,dat,sl⟩:=o
 simp only at hc hdat hd
 subst hc hdat hd
 obtain⟨hp,g,d,tk,os⟩:=s
 have hT:∀ tk',(⟨hp,g,d,tk',os⟩:Shared).TypeIs (.ref a) "list":=fun _=>⟨_,hx,rfl⟩
 have f1:=Qn
 have f3:=Ca.lookup
 have f4:=Ca.bind (.ref a)
 have f5:=am_list_getattr_none
 unfold getAttrBy
 repeat (any_goals (first | assumption | exact hT _ | ((with_reducible show wpAny _ _ (call (Value.builtin "list.__getattribute__") _ _) _ _ _);refine call_meets Ca (hT _) am_entry_list_getattribute (PySem.F.args_list_getattribute_2 _ _) (meets_getattribute_miss_list a xs k sl "keys" _ no_keys (by decide) (by decide)) ⟨hx,hA,fun h' tk' e hx'=>?_⟩) | wp_step))
 obtain⟨t',u',he⟩:=hx'.there
 show wpAny _ _ (getattributeRaised _ _ _ _ _ _ _) _ _ _
 unfold getattributeRaised
 repeat (any_goals (first | assumption | wp_step))
 exact h _ _ _ hx'.of
theorem wW {prog:Program} {w:World} {A:Around} {E:Value->Shared->Prop} {s:Shared} {a:Addr} {o:Obj} {xs:Array Value} {k:Nat} {Q:Option Value->Shared->Prop}
  (hx:s.heap.get? a=some o) (hc:o.cls=.type "list") (hdat:o.data=.seq xs k) (hd:o.dict=none) (hA:A.handled=none)
  (h:∀ h' tk,(∀ b ob,s.heap.get? b=some ob->h'.get? b=some ob)->Q none { s with heap:=h',toks:=tk }) :
  wpAny (model prog w) A (getAttr? (.ref a) "keys") Q E s:=by
 unfold getAttr? getAttrBy?
 refine AA (D8 (AA (BI (keys_by (s:={ s with toks:=s.toks+1 }) hx hc hdat hd hA fun h' tk e ne=>?_))))
 obtain⟨kp,nw,ob,vs,he,h1,h2⟩:=ne
 refine AA (Br (T := "AttributeError") (b:=true) ⟨ob,he,h1⟩ Qn ?_)
 exact AB (h h' tk kp)
def putAll (kvs:List (Key×V)) (ps:List (Key×V)):List (Key×V):=ps.foldl (fun acc p=>ZH acc p.1 p.2) kvs
section
variable {prog : Program} {w : World} {A : Around} {R : Result -> Shared -> Prop}
def QM (prog:Program) (w:World) (h:Heap) (v:Value) (k:Key) (x:Value):Prop:=∃ b key,v=.ref b/\h.IsTuple b #[key,x]/\(zR prog w).is k key=true
theorem QM.keep {prog:Program} {w:World} {h h':Heap} {v x:Value} {k:Key} {b0:Addr} (p:QM prog w h v k x) (hs:∀ b o,b ≠ b0->h.get? b=some o->h'.get? b=some o) (hn:∀ o,h.get? b0=some o->o.cls ≠ .type "tuple"):QM prog w h' v k x:=by
 obtain⟨b,key,rfl,⟨o,e,c,r⟩,hk⟩:=p
 exact⟨b,key,rfl,⟨o,hs b o (fun z=>by subst z;exact hn o e c) e,c,r⟩,hk⟩
theorem upd_loop (hh:A.handled=none) (D L it:Addr) (items:Array Value) (hDL:D ≠ L) (hDi:D ≠ it) (hLi:L ≠ it) (ps:List (Key×Value)) (hlen:ps.length=items.size) (hsz:ps.length<=sizeLine) :
  ∀ (n i:Nat) (s:Shared) (acc:List (Key×Value)),n+i=items.size->acc.length<=i->s.heap.IsListIter it L i->s.heap.IsList L items->s.heap.DictOf (zR prog w) D acc ->
  (∀ (j:Nat) (p:Key×Value) (v:Value),ps[j]? = some p->items[j]? = some v->QM prog w s.heap v p.1 p.2) ->
  (∀ h' tk,h'.DictOf (zR prog w) D ((ps.drop i).foldl (fun (acc:List (Key×Value)) (p:Key×Value)=>stored acc p.1 p.2) acc)->(∀ b o,b ≠ D->b ≠ it->s.heap.get? b=some o->h'.get? b=some o)->R (.ok (.ret .none)) { s with heap:=h',toks:=tk }) ->
  codeAny (model prog w) A (.builtin "dict.update.loop" ⟨[.ref D,.ref it,rawInt i,.none],[]⟩) R s:=by
 intro n
 induction n with
 | zero=>
  intro i s acc hn hacc hit hl hd hp hR
  refine Ax qI ?_
  rw[Au zL _]
  show wpAny _ A.in1 (pyNext (.ref it) >>= _) _ _ s
  refine AA (CF (show A.in1.handled=none from hh) hit hl (by simp;omega) fun h' eb=>?_)
  show wpAny _ _ (Builtin.Dict.addKeywords D [] >>= _) _ _ _
  refine AA (AB (AB (hR h' s.toks ?_ fun b o _ h2 e=>eb b o h2 e)))
  rw[List.drop_eq_nil_of_le (by omega)]
  exact hd.extBut eb hDi
 | succ n ih=>
  intro i s acc hn hacc hit hl hd hp hR
  have hi:i < items.size:=by omega
  obtain⟨v,hv⟩:∃ v,items[i]? = some v:=⟨items[i],by simp[hi]⟩
  obtain⟨p,hpi⟩:∃ p,ps[i]? = some p:=⟨ps[i]'(by omega),by rw[AK (by omega)]⟩
  refine Ax qI ?_
  rw[Au zL _]
  show wpAny _ A.in1 (pyNext (.ref it) >>= _) _ _ s
  refine AA (CB hit hl hv fun h1 hit1 hs1=>?_)
  obtain⟨oi,hoi,hci,_⟩:=hit
  have hp1:∀ (j:Nat) (p:Key×Value) (v:Value),ps[j]? = some p->items[j]? = some v->QM prog w h1 v p.1 p.2:=fun j p v a b=>(hp j p v a b).keep (b0:=it) (fun b o hb e=>hs1.extBut b o hb e) fun o e=>by
   rw[hoi] at e;cases e;rw[hci];decide
  obtain⟨b,key,rfl,hb,hk⟩:=hp1 i p v hpi hv
  obtain⟨ot,e1,e2,nt,e3⟩:=id hb
  have hd1:=hd.extBut hs1.extBut hDi
  refine AA (Ah (AA (wpAny_tryCatch ?_)))
  unfold Builtin.Dict.pairItems
  refine AA (Bp (T := "tuple") ⟨ot,e1,e2⟩ ?_)
  rw[if_pos (by decide)]
  refine AA (wpAny_seqItems e1 e3 (AB ?_))
  show wpAny _ _ (holding [key,p.2] (dictSet D key p.2)) _ _ _
  refine Ah (wpAny_dictSet_pairs (hsz:=by omega) hk hd1 fun h2 hd2 hs2=>?_)
  refine AB ⟨BQ zL _,?_⟩
  have hl1:h1.IsList L items:=hl.extBut hs1.extBut hLi
  have hle:(stored acc p.1 p.2).length<=i+1:=by
   unfold stored
   split
   ·rw[AC];omega
   ·rw[AI];simp;omega
  obtain⟨oD,_,_,hoD,hcD,_⟩:=hd1
  have:=ih (i+1) { s with heap:=h2,toks:=s.toks+1 } (stored acc p.1 p.2) (by omega) hle (hit1.extBut hs2.extBut (Am hDi)) (hl1.extBut hs2.extBut (Am hDL)) hd2 (fun j p v a b=>(hp1 j p v a b).keep (b0:=D) (fun b o hb e=>hs2.extBut b o hb e) fun o e=>by
    rw[hoD] at e;cases e;rw[hcD.1];decide) fun h' tk hd' hk'=>?_
  ·simpa using this
  ·refine hR h' tk ?_ fun b o h1 h2 e=>hk' b o h1 h2 (hs2.extBut b o h1 (hs1.extBut b o h2 e))
   have e4:ps.drop i=p :: ps.drop (i+1):=by
    rw[AE] at hpi
    obtain⟨h5,h6⟩:=hpi
    rw[<- h6]
    exact CK h5
   rw[e4,CO]
   exact hd'
theorem QN {E:Value->Shared->Prop} {Q:Value->Shared->Prop} {s:Shared} {L:Addr} {o:Obj} {items:Array Value} {k:Nat} {ps:List (Key×Value)} (hh:A.handled=none) (hx:s.heap.get? L=some o) (hc:o.cls=.type "list") (hdat:o.data=.seq items k) (hdn:o.dict=none)
  (hlen:ps.length=items.size) (hsz:ps.length<=sizeLine) (hp:∀ (j:Nat) (p:Key×Value) (v:Value),ps[j]? = some p->items[j]? = some v->QM prog w s.heap v p.1 p.2)
  (h:∀ h' tk,h'.DictOf (zR prog w) s.heap.objs.size (ps.foldl (fun (acc:List (Key×Value)) (p:Key×Value)=>stored acc p.1 p.2) [])->(∀ b o,s.heap.get? b=some o->h'.get? b=some o)->Q (.ref s.heap.objs.size) { s with heap:=h',toks:=tk }) :
  wpAny (model prog w) A (call (.type "dict") [.ref L]) Q E s:=by
 refine callType_codes (Q₁:=fun obj s₁=>obj=.ref s.heap.objs.size/\s₁ = { s with heap:=s.heap.push { cls:=.type "dict",data:=.dict #[] } }) PySem.F.kt_called_dict (EB _) PySem.F.entry_dict_init (kt_code_dict_new _ ⟨rfl,rfl⟩) ?_
 rintro obj s₁ ⟨rfl,rfl⟩
 have hnew:(s.heap.push { cls:=.type "dict",data:=.dict #[] }).DictOf (zR prog w) s.heap.objs.size []:=Heap.DictOf.new s.heap
 have hx1:=AD { cls:=.type "dict",data:=.dict #[] } hx
 have Llt:L < s.heap.objs.size:=AJ hx
 refine⟨hnew.typeIs,PySem.F.args_dict_init_2 _ _,?_⟩
 unfold Builtin.«dict.__init__»
 refine AA ?_
 unfold Builtin.Dict.selfAndRest
 refine AA (wpAny_notOrdered_dict hnew.typeIs ?_)
 show wpAny _ _ (pure (s.heap.objs.size,[Value.ref L])) _ _ _
 refine AB ?_
 show wpAny _ _ (Builtin.Dict.updateFrom "dict.__init__" s.heap.objs.size (.ref L) [] .none) _ _ _
 unfold Builtin.Dict.updateFrom
 refine AA (Bp (T := "list") ⟨o,hx1,hc⟩ ?_)
 rw[if_pos (by decide)]
 refine AA (wW hx1 hc hdat hdn (show A.in1.in1.handled=none from hh) fun h' tk kp=>?_)
 rw[if_pos (by rfl)]
 have hL':h'.IsList L items:=⟨o,kp _ _ hx1,hc,k,hdat⟩
 refine AA (Ba (AA (B3 hL' ?_)))
 have Dget:∃ od,h'.get? s.heap.objs.size=some od:=⟨_,kp _ _ (AH _ rfl)⟩
 have Dlt:s.heap.objs.size < h'.objs.size:=let ⟨_,e⟩:=Dget;AJ e
 refine AB ⟨BQ zL _,?_⟩
 have it0:(h'.push { cls:=.type "list_iterator",data:=.fields #[.ref L,.int 0 0] }).IsListIter h'.objs.size L 0:=⟨_,AH _ rfl,rfl,rfl⟩
 have hd':(h'.push { cls:=.type "list_iterator",data:=.fields #[.ref L,.int 0 0] }).DictOf (zR prog w) s.heap.objs.size []:=by
  obtain⟨od,es,ep,e,r⟩:=hnew
  exact⟨od,es,ep,AD _ (kp _ _ e),r⟩
 refine upd_loop (A:=A.in1) (show A.in1.handled=none from hh) s.heap.objs.size L h'.objs.size items (BE Llt) (AN Dlt) (AN (Ci Llt Dlt)) ps hlen hsz items.size 0 { s with heap:=h'.push { cls:=.type "list_iterator",data:=.fields #[.ref L,.int 0 0] },toks:=tk } [] rfl (AG _) it0 ⟨o,AD _ (kp _ _ hx1),hc,k,hdat⟩ hd' (fun j p v a b=>?_) fun h2 tk2 hd2 hk2=>?_
 ·obtain⟨bb,key,e1,⟨ot,e2,r⟩,e3⟩:=hp j p v a b
  exact⟨bb,key,e1,⟨ot,AD _ (kp _ _ (AD _ e2)),r⟩,e3⟩
 ·refine⟨rfl,h h2 tk2 ?_ fun b ob e=>hk2 b ob (AN (AJ e)) (AN (Ci (AJ e) Dlt)) (AD _ (kp _ _ (AD _ e)))⟩
  rw[Co] at hd2
  exact hd2
end
def Prs (H:Hp):List V->List (Key×V)->Prop:=Paired fun x p=>∃ b,x=.ref b/\H b=some (.tup [kV p.1,p.2])
theorem prs_at {P:Program} {w:World} {H:Hp} {h:Heap} (ok:HOk P w H h) {xs:List V} {ps:List (Key×V)} (r:Prs H xs ps):∀ {us:List Value},zX xs us->∃ rs:List (Key×Value),KV ps rs/\∀ (j:Nat) (p:Key×Value) (v:Value),rs[j]? = some p->us[j]? = some v->QM P w h v p.1 p.2:=by
 unfold Prs at r
 induction r with
 | nil=>
  intro us rv
  exact⟨[],.nil,fun j p v e=>by simp at e⟩
 | @cons x p xs ps hx t ih=>
  intro us rv
  cases rv with
  | @cons _ u _ us hu rv=>
   obtain⟨rs,r1,r2⟩:=ih rv
   obtain⟨b,rfl,hb⟩:=hx
   obtain⟨_,its,ri,o,e1,e2,⟨n,e3⟩,_⟩:=(show qd P w H h b (.tup [kV p.1,p.2]) from ok b _ hb)
   cases ri with
   | @cons _ ku _ _ hk ri=>
    cases ri with
    | @cons _ vu _ _ hv ri=>
     cases ri
     refine⟨(p.1,vu) :: rs,.cons ⟨rfl,hv⟩ r1,fun j q v ej ev=>?_⟩
     cases j with
     | zero=>
      cases (AL ej)
      cases (AL ev)
      obtain rfl:u=Value.ref b:=hu
      exact⟨b,ku,rfl,⟨o,e1,e2,n,e3⟩,WN hk⟩
     | succ j=>exact r2 j q v ej ev
theorem put_all {ps:List (Key×V)} {rs:List (Key×Value)} (r:KV ps rs):∀ {acc:List (Key×V)} {bcc:List (Key×Value)},KV acc bcc->KV (putAll acc ps) (rs.foldl (fun (acc:List (Key×Value)) (p:Key×Value)=>stored acc p.1 p.2) bcc):=by
 unfold KV at r
 induction r with
 | nil=>exact fun q=>q
 | @cons p q ps qs h t ih=>
  intro acc bcc ra
  obtain⟨h1,h2⟩:=h
  show KV (putAll (ZH acc p.1 p.2) ps) _
  rw[CO,<- h1]
  exact ih (KV.put ra p.1 h2)
theorem ZT:∀ (ps acc:List (Key×V)),(putAll acc ps).length<=acc.length+ps.length
 | [],acc=>AG _
 | p :: ps,acc=>by
  have h1:=ZT ps (ZH acc p.1 p.2)
  have h2:=jF acc p.1 p.2
  show (putAll (ZH acc p.1 p.2) ps).length<=_
  rw[Ab];omega
theorem WQ:bootBuiltins "dict" = some (.type "dict"):=by decide +kernel
section
variable {X : Cx}
def tDictP (K:PySem.W.Frag) (ta:TA):TE:=fun σ H Q=>ta σ H fun vs H1=>∃ p xs ps,vs=[.ref p]/\H1 p=some (.lst xs)/\Prs H1 xs ps/\∀ D,H1 D=none->Q (.ref D) (upd H1 D (.dK (putAll [] ps)))
theorem pe_dictP (K:PySem.W.Frag) {a:Expr} {ta:TA} {p pos:Pos} (hg:Gl X "dict") (hm:X.mg "dict" = none) (ha:PA X [a] ta) (hs:starEach [a] X.env=[(false,eval a X.env)]:=by rfl) (hc:X.calm=true:=by rfl) (hK:X.K=K:=by rfl) :
  PE X (.Call (.Name "dict" p) [a] [] pos) (tDictP K ta):=by
 subst hK
 intro pins s σ H Q I h
 refine Call_ (ZI I hg hm WQ (BD (thn (ha pos pins s σ H _ I h) fun us s1 ⟨vs,H1,I1,r1,q1⟩=>?_) hs rfl))
 obtain⟨p1,xs,ps,e,hq,hps,q⟩:=q1
 subst e
 obtain⟨u1,rfl,r2⟩:=vals1 r1
 cases r2
 obtain⟨hz,its,n,rv,eo⟩:=(show qd X.prog X.w H1 s1.heap p1 (.lst xs) from I1.hok p1 _ hq)
 obtain⟨rs,rk,hpa⟩:=prs_at I1.hok hps rv
 have l1:rs.length=its.toArray.size:=by
  have a1:=rk.length
  have a2:=Aw hps
  have a3:=rv.length
  simp;omega
 have l2:ps.length<=sizeLine:=by
  have a2:=Aw hps
  omega
 refine QN (ps:=rs) (I1.ok.hd hc) eo rfl rfl rfl l1 (by have:=rk.length;omega) (fun j p v a b=>hpa j p v a (by simpa using b)) fun h' tk hd' kp=>?_
 have hb:(s1.heap.objs.size == sysModules)=false:=beq_eq_false_iff_ne.mpr (Am (AN I1.big))
 have hl:(putAll [] ps).length<=sizeLine:=by
  have:=ZT ps []
  simp at this;omega
 exact⟨.ref s1.heap.objs.size,_,I1.laid (a:=s1.heap.objs.size) (o:=.dK (putAll [] ps)) (t':=tk) kp (AG _) ⟨hl,hb,_,put_all rk .nil,hd'⟩,rfl,q _ (I1.hok.fresh (AG _))⟩
def tKGet (td ty:TE):TE:=fun σ H Q=>td σ H fun x H1=>ty σ H1 fun y H2=>∃ a kvs k v,x=.ref a/\H2 a=some (.dK kvs)/\y=kV k/\jz kvs k=some v/\Q v H2
theorem xL {o i:Expr} {pos:Pos} {td ty:TE} (ho:PE X o td) (hi:PE X i ty) (hs:NoSl i):PE X (.Subscript o i pos) (tKGet td ty):=by
 intro pins s σ H Q I h
 refine xK PySem.F.slot_dict_getitem.lookup hs (thn (ho pins s σ H _ I h) fun u s1 ⟨x,H1,I1,rx,q1⟩=>thn (hi pins s1 σ H1 _ I1 q1) fun iv s2 ⟨y,H2,I2,ry,a,kvs,k,v,ex,ea,ey,l,q2⟩=>?_)
 subst ex ey
 obtain rfl:u=Value.ref a:=rx
 obtain⟨z,hd,vs,rel,dd⟩:=dk_of I2.hok ea
 obtain⟨w',hw,rw'⟩:=yo.some_of (v:=v) (o:=valueAt vs k) (by rw[<- l];exact rel.val k)
 exact⟨dd.typeIs,wpAny_getItem_of (WN ry) dd.mapOf hw ⟨v,H2,I2.tok _,rw',q2⟩⟩
end
open PySem PySem.Spec PyProof.Rows L4
theorem Prs.tk {H H':Hp} (s:Tk H H') {xs:List V} {ps:List (Key×V)} (h:Prs H xs ps):Prs H' xs ps:=by
 unfold Prs at h ⊢
 induction h with
 | nil=>exact .nil
 | cons r _ ih=>
  obtain⟨b,e,hb⟩:=r
  exact .cons ⟨b,e,s _ _ hb⟩ ih
theorem Prs.snoc {H:Hp} {xs:List V} {ps:List (Key×V)} {p:Key×V} {b:Addr} (h:Prs H xs ps) (hb:H b=some (.tup [kV p.1,p.2])):Prs H (xs++[.ref b]) (ps++[p]):=by
 unfold Prs at h ⊢
 induction h with
 | nil=>exact .cons ⟨b,rfl,hb⟩ .nil
 | cons r _ ih=>exact .cons r ih
section
variable {prog : Program} {w : World} {K : Type} [DecidableEq K] {knd : KeyKind prog w K} {A : Around} {E : Value -> Shared -> Prop} {s : Shared}
end
section
variable {X : Cx}
theorem Yg:qA X (.type "dict") (fun xs H Q=>∃ g kvs,xs=[.ref g]/\H g=some (.dK kvs)/\∀ p,H p=none->Q (.ref p) (upd H p (.dK kvs))):=by
 intro pins s σ H xs us Q I rv h
 obtain⟨g,kvs,rfl,hg,q⟩:=h
 obtain⟨u1,rfl,r2⟩:=vals1 rv
 cases r2
 exact d_copyOf I (.inl hg) fun p s' hp I'=>⟨.ref p,_,I',rfl,q p hp⟩
end
theorem QO:Manifest.owners.lookup (String.ofList ['d','e','s','r','e','v','e','r'].reverse)=some Manifest.sig_reversed:=by kernel_rfl
theorem qy:Slot "reversed" "__next__" "reversed.__next__":=
 .of (owner := "reversed") (n := "__next__") (by rw[CU,By];kernel_rfl) (by decide +kernel) (by decide +kernel) (by decide +kernel)
  (by first | exact .inl (by decide +kernel) | exact .inr (by decide +kernel)) (by rw[Bg];kernel_rfl)
theorem Zn:entryFor table "reversed.__next__" = some Builtin.«reversed.__next__»:=entryFor_of_tree (by kernel_rfl)
theorem j8 (a:Value):argsOk "reversed.__next__" ⟨[a],[]⟩:=by
 unfold argsOk;rw[signature?_of (id := "reversed.__next__") (n:=['_','_','t','x','e','n','_','_']) (o:=['d','e','s','r','e','v','e','r']) (by kernel_rfl) QO];kernel_rfl
theorem jG:Slot "reversed" "__length_hint__" "reversed.__length_hint__":=
 .of (owner := "reversed") (n := "__length_hint__") (by rw[CU,By];kernel_rfl) (by decide +kernel) (by decide +kernel) (by decide +kernel)
  (by first | exact .inl (by decide +kernel) | exact .inr (by decide +kernel)) (by rw[Bg];kernel_rfl)
theorem Jh:entryFor table "reversed.__length_hint__" = some Builtin.«reversed.__length_hint__»:=entryFor_of_tree (by kernel_rfl)
theorem QP (a:Value):argsOk "reversed.__length_hint__" ⟨[a],[]⟩:=by
 unfold argsOk;rw[signature?_of (id := "reversed.__length_hint__") (n:=['_','_','t','n','i','h','_','h','t','g','n','e','l','_','_']) (o:=['d','e','s','r','e','v','e','r']) (by kernel_rfl) QO];kernel_rfl
theorem ZU:Slot "reversed" "__iter__" "reversed.__iter__":=
 .of (owner := "reversed") (n := "__iter__") (by rw[CU,By];kernel_rfl) (by decide +kernel) (by decide +kernel) (by decide +kernel)
  (by first | exact .inl (by decide +kernel) | exact .inr (by decide +kernel)) (by rw[Bg];kernel_rfl)
theorem QQ (a:Value):argsOk "reversed.__iter__" ⟨[a],[]⟩:=by
 unfold argsOk;rw[signature?_of (id := "reversed.__iter__") (n:=['_','_','r','e','t','i','_','_']) (o:=['d','e','s','r','e','v','e','r']) (by kernel_rfl) QO];kernel_rfl
theorem Ji:entryFor table "reversed.__iter__" = some Builtin.«dict_keyiterator.__iter__»:=
 entryFor_alias (id' := "dict_keyiterator.__iter__") (by kernel_rfl) (by first | rfl | decide +kernel | (unfold String.splitOn;simp +decide [String.splitOnAux])) (by decide +kernel) (by kernel_rfl)
theorem Yh:typeLookup (.type "tuple") "__reversed__" = pure none:=am_miss_of_fast (by decide +kernel)
theorem Yi:typeLookup (.type "reversed") "__len__" = pure none:=am_miss_of_fast (by decide +kernel)
theorem J1:Slot "reversed" "__init__" "object.__init__":=
 .of (owner := "object") (n := "__init__") (by rw[CU,By];kernel_rfl) (by decide +kernel) (by decide +kernel) (by decide +kernel)
  (by first | exact .inl (by decide +kernel) | exact .inr (by decide +kernel)) (by rw[Bg];kernel_rfl)
theorem Yj:TypeCalled "reversed" "reversed.__new__" "object.__init__":=
 ⟨by decide +kernel,by decide +kernel,⟨_,_,PySem.F.mro_reversed⟩,PySem.F.made_reversed,by decide +kernel,by rw[Bg];kernel_rfl,J1⟩
theorem wX:isSubtype (.type "tuple") (.type "dict")=pure false:=by rw[Bg];kernel_rfl
theorem seq_nat' {v n:Nat} (h:v < n):seqIndex? (v:Int) n=some v:=by
 unfold seqIndex?
 have h1:¬ ((v:Int) < 0):=by omega
 simp only[h1,if_false]
 rw[if_pos (by simp;omega)]
 rfl
def revO (t:Addr) (i:Int):Obj:={ cls:=.type "reversed",data:=.fields #[.ref t,rawInt i] }
def Zz (h:Heap) (a t:Addr) (i:Int):Prop:=∃ o,h.get? a=some o/\o.cls=.type "reversed" /\ o.data=.fields #[.ref t,rawInt i]
theorem Zz.typeIs {s:Shared} {a t:Addr} {i:Int} (x:Zz s.heap a t i):s.TypeIs (.ref a) "reversed":=let ⟨o,ho,hc,_⟩:=x;⟨o,ho,hc⟩
theorem Zz.at {h h':Heap} {a t:Addr} {i:Int} (x:Zz h a t i) (e:∀ o,h.get? a=some o->h'.get? a=some o):Zz h' a t i:=let ⟨o,ho,r⟩:=x;⟨o,e _ ho,r⟩
theorem J2 (t:Addr) (items:Array Value) (hz:(items.size:Int) < 2 ^ 63) :
  Meets (Builtin.«reversed.__new__» ⟨[.type "reversed",.ref t],[]⟩) (fun _ R s=>IsTup s.heap t items/\∀ tk,R (.ok (.ret (.ref s.heap.objs.size))) { s with heap:=s.heap.push (revO t ((items.size:Int) - 1)),toks:=tk }):=
 .of_wp fun prog w A R s h=>by
  obtain⟨ht,h⟩:=h
  have hT:s.TypeIs (.ref t) "tuple":=ht.typeIs
  unfold Builtin.«reversed.__new__»
  refine AA (A3 (newClass_reversed _) ?_)
  try dsimp only
  refine AA (A3 (a:=()) (by first | rfl | kernel_rfl) ?_)
  refine AA (A3 (a:=()) (by first | rfl | kernel_rfl) ?_)
  try dsimp only
  refine AA (B2 hT Yh ?_)
  try dsimp only
  refine AA ?_
  refine AA (m:=isInstance (.ref t) (.type "dict")) (Br (T := "tuple") (b:=false) hT wX ?_)
  rw[if_neg AY]
  refine AA (m:=specialOf (.ref t) "__getitem__") (B2 hT EA.lookup ?_)
  refine A3 (a:=true) (by first | rfl | kernel_rfl) ?_
  show wpAny _ _ (call (.builtin "len") [.ref t] >>= _) _ _ _
  refine AA (len_tuple ht hz ?_)
  show wpAny _ _ (asInt? (.int items.size (s.toks+1)) >>= _) _ _ _
  refine AA (A3 (a:=some (items.size:Int)) rfl ?_)
  show wpAny _ _ (newObj (.type "reversed") (.fields #[.ref t,rawInt ((items.size:Int) - 1)]) >>= _) _ _ _
  refine AA (Aj (AB ?_) (by size_fits))
  exact⟨_,rfl,h _⟩
section
variable {prog : Program} {w : World} {A : Around} {E : Value -> Shared -> Prop} {s : Shared}
theorem ZA {t:Addr} {items:Array Value} {Q:Value->Shared->Prop} (ht:IsTup s.heap t items) (hz:(items.size:Int) < 2 ^ 63)
  (h:∀ tk,Q (.ref s.heap.objs.size) { s with heap:=s.heap.push (revO t ((items.size:Int) - 1)),toks:=tk }):wpAny (model prog w) A (call (.type "reversed") [.ref t]) Q E s:=by
 refine callType_new Yj (by decide) (PySem.F.typeCall_reversed_1 _) (PySem.F.newCall_reversed_1 _) (fun obj=>PySem.F.args_object_init_2 obj _) PySem.F.entry_reversed_new (J2 t items hz) ⟨ht,fun tk=>?_⟩
 exact⟨⟨_,AH _ rfl,rfl⟩,h tk⟩
theorem J3 {it t:Addr} {i:Nat} {items:Array Value} {x:Value} {Q:Option Value->Shared->Prop} (hit:Zz s.heap it t (i:Int)) (ht:IsTup s.heap t items) (hx:items[i]? = some x) (hz:(items.size:Int) < 2 ^ 63)
  (hQ:∀ h' tk,Zz h' it t ((i:Int) - 1)->Heap.SameBut it s.heap h'->Q (some x) { s with heap:=h',toks:=tk }):wpAny (model prog w) A (pyNext (.ref it)) Q E s:=by
 obtain⟨o,ho,hc,hd⟩:=id hit
 have hi:i < items.size:=by
  rcases Cj i items.size with z | z
  ·exact z
  ·rw[Bj z] at hx;cases hx
 unfold pyNext
 refine AA (BI (wpAny_callSpecial?_slot (name:=Str.ofString "__next__") hit.typeIs qy
  (An qy hit.typeIs Zn ?_ (j8 _))))
 unfold Builtin.«reversed.__next__»
 refine AA (A3 (a:=(Value.ref it,[])) rfl ?_)
 try dsimp only
 refine AA (Bq ho hd (x:=.ref t) rfl ?_)
 refine AA (Bq ho hd (x:=rawInt (i:Int)) rfl ?_)
 show wpAny _ _ (if (i:Int) < 0 then _ else _) _ _ s
 rw[if_neg (by omega)]
 show wpAny _ _ (specialOf (.ref t) "__getitem__" >>= _) _ _ s
 refine AA (B2 ht.typeIs EA.lookup ?_)
 show wpAny _ _ (mkInt (i:Int) >>= _) _ _ _
 refine AA (wpAny_mkInt ?_)
 refine AA (BI (getItem_tuple (s:={ s with toks:=s.toks+1 }) ht (by omega) (by omega) (j:=i) (seq_nat' hi) hx ?_))
 show wpAny _ _ (field (.ref it) 1 >>= _) _ _ _
 refine AA (Bq ho hd (x:=rawInt (i:Int)) rfl ?_)
 show wpAny _ _ (setField (.ref it) 1 (rawInt ((i:Int) - 1)) >>= _) _ _ _
 refine AA (BP ho hd (by simp) (AB ⟨x,rfl,AB (hQ _ _ ?_ (As ..))⟩))
 exact⟨_,Ae _ ho (BO (Ap hd _)),(CJ ..).trans hc,by
  rw[Ap hd];simp⟩
theorem wY {it t:Addr} {Q:Option Value->Shared->Prop} (hh:A.handled=none) (hit:Zz s.heap it t (-1))
  (hQ:∀ h',Heap.ExtBut it s.heap h'->Q none { s with heap:=h' }):wpAny (model prog w) A (pyNext (.ref it)) Q E s:=by
 obtain⟨o,ho,hc,hd⟩:=id hit
 unfold pyNext
 refine AA (BI (wpAny_callSpecial?_slot (name:=Str.ofString "__next__") hit.typeIs qy
  (An qy hit.typeIs Zn ?_ (j8 _))))
 unfold Builtin.«reversed.__next__»
 refine AA (A3 (a:=(Value.ref it,[])) rfl ?_)
 try dsimp only
 refine AA (Bq ho hd (x:=.ref t) rfl ?_)
 refine AA (Bq ho hd (x:=rawInt (-1)) rfl ?_)
 show wpAny _ _ (if (-1:Int) < 0 then _ else _) _ _ s
 rw[if_pos (by decide)]
 refine AA (Ba ?_)
 refine AA ?_
 refine AA (m:=setField (.ref it) 1 (rawInt (-1))) (BP ho hd (by simp) ?_)
 have ho2:=Ae (Obj.mapFields fun vs=>vs.set! 1 (rawInt (-1))) ho (BO (Ap hd _))
 have hd2:=Ap hd (fun vs=>vs.set! 1 (rawInt (-1)))
 refine BP ho2 hd2 (by simp) ?_
 refine AA ?_
 show wpAny _ _ (newExc (.type "StopIteration") [] >>= _) _ _ _
 refine AA ?_
 simp only[newExc,newTuple]
 refine AA (Aj ?_ (by size_fits))
 refine AA (m:=firstArgMember _ _) (A3 (a:=Value.none) (by first | rfl | (simp only[firstArgMember];rfl)) ?_)
 refine Aj ?_ (by size_fits)
 simp only[raiseNew]
 refine AA (DM ?_)
 first | rw[show A.in1.handled=none from hh] | rw[hh]
 refine AA (AB (De ?_))
 refine AA (Br (T := "StopIteration") (b:=true) ⟨_,AH _ rfl,rfl⟩ Dh ?_)
 refine AB (hQ _ ?_)
 intro b o' hb e
 exact AD _ (AD _ ((A4 _ _ (Am hb)).trans ((A4 _ _ (Am hb)).trans e)))
theorem JD {it t:Addr} {i:Int} {Q:Value->Shared->Prop} (hit:Zz s.heap it t i) (h:Q (.ref it) s):wpAny (model prog w) A (pyIter (.ref it)) Q E s:=by
 refine CH hit.typeIs ZU (An ZU hit.typeIs Ji ?_ (QQ _))
 show wpAny _ _ (ret (.ref it)) _ _ s
 exact AB ⟨_,rfl, "reversed",_,hit.typeIs,qy.lookup,h⟩
theorem hint_rev {it t:Addr} {i:Nat} {items:Array Value} {Q:Bool->Shared->Prop} (hit:Zz s.heap it t ((i:Int) - 1)) (ht:IsTup s.heap t items) (hi:i<=items.size) (hz:items.size<=1000)
  (h:∀ b tk,Q b { s with toks:=tk }):wpAny (model prog w) A (Builtin.List.listLengthHint (.ref it)) Q E s:=by
 obtain⟨o,ho,hc,hd⟩:=id hit
 unfold Builtin.List.listLengthHint
 refine AA (B2 hit.typeIs Yi ?_)
 show wpAny _ _ (specialOf (Value.ref it) (Str.ofString "__length_hint__") >>= _) _ _ _
 refine AA (B2 hit.typeIs jG.lookup ?_)
 generalize hid:("reversed.__length_hint__" : String)=id0
 wp_delta
 rw[show splitId id0=some ("reversed", "__length_hint__") from by subst hid;decide +kernel]
 subst hid
 refine AA (Br (T := "reversed") (b:=true) hit.typeIs PySem.F.sub_reversed_self ?_)
 refine Ar (fun hab=>absurd hab (by decide)) (fun _=>?_)
 refine Ar (fun hab=>absurd hab (by decide +kernel)) (fun _=>?_)
 refine AA (Ba ?_)
 refine AA (A3 (jG.bind _) ?_)
 have htl:Builtin.List.listTooLong ((i:Int).toNat)=false:=by simp[Builtin.List.listTooLong,sizeLine];omega
 have hfi:Builtin.List.listFitsIndex (i:Int)=true:=by simp[Builtin.List.listFitsIndex];omega
 refine AA (BI (An jG hit.typeIs Jh ?_ (QP _)))
 unfold Builtin.«reversed.__length_hint__»
 refine AA (A3 (a:=Value.ref it) rfl ?_)
 refine AA (Bq ho hd (x:=.ref t) rfl ?_)
 show wpAny _ _ (if (Value.ref t == Value.none)=true then _ else call (.builtin "len") [.ref t] >>= _) _ _ s
 rw[if_neg (show ¬ ((Value.ref t == Value.none)=true) from AY)]
 refine AA (len_tuple ht (by omega) ?_)
 show wpAny _ _ (asInt? (.int items.size (s.toks+1)) >>= _) _ _ _
 refine AA (A3 (a:=some (items.size:Int)) rfl ?_)
 refine AA (Bq ho hd (x:=rawInt ((i:Int) - 1)) rfl ?_)
 show wpAny _ _ (if ((items.size:Nat):Int) < ((i:Int) - 1)+1 then _ else _) _ _ _
 rw[if_neg (by omega)]
 rw[show (i:Int) - 1+1=(i:Int) by omega]
 show wpAny _ _ (mkInt (i:Int) >>= fun v=>ret v) _ _ _
 refine AA (wpAny_mkInt (AB ⟨_,rfl,?_⟩))
 have h0:¬ ((i:Int) < 0):=by omega
 dsimp only
 generalize (i:Int)=k at *
 refine AA (m:=asInt? (Value.int k _)) (AB ?_)
 refine Ar (fun hab=>absurd hab (by rw[hfi];decide)) (fun _=>?_)
 refine Ar (fun hab=>absurd hab h0) (fun _=>?_)
 exact Ar (fun hab=>absurd hab (by rw[htl];decide)) (fun _=>AB (h _ _))
end
theorem Walks.rev {prog:Program} {w:World} {A:Around} (hh:A.handled=none) (I l:Addr) (hne:l ≠ I) (items:Array Value) (hz:(items.size:Int) < 2 ^ 63) :
  Walks prog w A I [I,l] [I] items.size (fun i v=>items[items.size - 1 - i]? = some v) (fun i h=>i<=items.size/\Zz h I l ((items.size:Int) - 1 - (i:Int))/\IsTup h l items) where
 sub:=fun b hb=>by simp at hb;simp[hb]
 frame:=fun _ _ _ x hk=>⟨x.1,x.2.1.at fun o e=>hk I (by simp) o e,let ⟨o,e,r⟩:=x.2.2;⟨o,hk l (by simp) o e,r⟩⟩
 item:=fun i s Q E hi x hQ=>by
  have e:(items.size:Int) - 1 - (i:Int)=((items.size - 1 - i:Nat):Int):=by omega
  have hit:=x.2.1
  rw[e] at hit
  have hx:items[items.size - 1 - i]? = some (items[items.size - 1 - i]'(by omega)):=BZ (by omega)
  refine J3 hit x.2.2 hx hz fun h' tk hit' hs'=>?_
  have e2:((items.size - 1 - i:Nat):Int) - 1=(items.size:Int) - 1 - ((i+1:Nat):Int):=by omega
  rw[e2] at hit'
  exact hQ _ h' tk hx ⟨hi,hit',let ⟨o,e,r⟩:=x.2.2;⟨o,(hs'.2 l hne).trans e,r⟩⟩ fun b o hb eo=>hs'.extBut b o (fun h=>hb (by simp[h])) eo
 done:=fun s Q E x hQ=>by
  have e:(items.size:Int) - 1 - (items.size:Int) = -1:=by omega
  have hit:=x.2.1
  rw[e] at hit
  exact wY hh hit fun h' he'=>hQ h' s.toks fun b o hb eo=>he' b o (fun h=>hb (by simp[h])) eo
 self:=fun _ _ _ _ x hQ=>JD x.2.1 hQ
section
variable {prog : Program} {w : World} {A : Around} {s : Shared}
theorem Yk {R:Result->Shared->Prop} {it t:Addr} {items:Array Value} (hh:A.handled=none) (hit:Zz s.heap it t ((items.size:Int) - 1)) (ht:IsTup s.heap t items) (hne:t ≠ it) (hz:items.size<=1000)
  (S:Addr) (res:Value) (c₀:Nat) (hS:s.heap.get? S=some { cls:=.type "list",data:=.seq #[] c₀ })
  (hR:∀ h' tk acc' c',(∀ b o,b ≠ S->b ≠ it->s.heap.get? b=some o->h'.get? b=some o)->h'.get? S=some { cls:=.type "list",dict:=none,data:=.seq acc' c',slots:=#[] } ->
   ItemsOf (fun i v=>items[items.size - 1 - i]? = some v) acc' items.size->R (.ok (.ret res)) { s with heap:=h',toks:=tk }) :
  wpAny (model prog w) A.in1 (Builtin.List.listExtendWith (.ref S) (.ref it) res)
   (fun fin s'=>match fin with | .done f=>R (.ok f) s' | .again c'=>c'.quiet=true/\codeAny (model prog w) A c' R s') (fun e s'=>R (.error e) s') s:=by
 have hSit:S ≠ it:=fun e=>by
  obtain⟨o,ho,hc,_⟩:=hit
  rw[e,ho] at hS
  have:=AL hS
  rw[this] at hc
  exact absurd hc (show ¬ (Value.type "list" = Value.type _) by decide)
 have hSt:S ≠ t:=fun e=>by
  obtain⟨o,ho,hc,_⟩:=ht
  rw[e,ho] at hS
  have:=AL hS
  rw[this] at hc
  exact absurd hc (show ¬ (Value.type "list" = Value.type _) by decide)
 have hSf:S ∉ [it,t]:=fun hm=>by
  rcases AR.mp hm with h | h
  ·exact hSit h
  ·exact hSt (AF.mp h)
 have W:=(Walks.rev (prog:=prog) (w:=w) (A:=A.in1) hh it t hne items (by omega)).toS
 have key:∀ (h:Heap) (c₁ tk:Nat),Zz h it t ((items.size:Int) - 1)->IsTup h t items->(∀ b o,b ≠ S->s.heap.get? b=some o->h.get? b=some o) ->
   h.get? S=some { cls:=.type "list",data:=.seq #[] c₁ }->codeAny (model prog w) A (.builtin "list.extend.loop" ⟨[.ref S,.ref it,res],[]⟩) R { s with heap:=h,toks:=tk }:=by
  intro h c₁ tk hit' ht' hk hS₁
  refine codeAny_extend_loopS W (by rw[DH];omega) S hSf res items.size 0 _ #[] c₁ rfl (A0 _) ⟨A0 _,by simpa using hit',ht'⟩ hS₁ (ItemsOf.nil _) fun s' acc' c' hm hS' hacc=>?_
  rw[Moved.eq_with hm]
  refine hR s'.heap s'.toks acc' c' (fun b o hb hi e=>hm.heap b o (fun hmem=>?_) (hk b o hb e)) hS' hacc
  rcases AR.mp hmem with e' | hmem
  ·exact hb e'
  ·exact hi (AF.mp hmem)
 unfold Builtin.List.listExtendWith
 refine AA (Bp (T := "reversed") hit.typeIs ?_)
 have h1:Builtin.List.listSameRef (.ref S) (.ref it)=false:=by simp[Builtin.List.listSameRef,hSit]
 have h2:(Value.type "reversed" == Value.type "list")=false:=by decide
 have h3:(Value.type "reversed" == Value.type "tuple")=false:=by decide
 simp only[h1,h2,h3,Bool.or_false,Bool.false_eq_true,if_false]
 refine AA (JD hit ?_)
 refine AA (Ah (hint_rev (i:=items.size) hit ht (AG _) hz fun b tk=>?_))
 refine Ar (fun _=>?_) (fun _=>AB ⟨BQ CI _,key _ c₀ _ hit ht (fun b o _ e=>e) hS⟩)
 refine AA (Ba ?_)
 refine AA ?_
 show wpAny _ _ (updateSeq S (·.push .none) >>= fun _=>updateSeq S (·.pop)) _ _ _
 refine AA (Cr hS rfl ?_)
 have hS₂:=Ae (Obj.mapSeq (·.push Value.none)) hS rfl
 refine Cr (hz:=by seq_fits) hS₂ rfl ?_
 have hS₃:=Ae (Obj.mapSeq (·.pop)) hS₂ rfl
 have oth:∀ b o,b ≠ S->s.heap.get? b=some o->((s.heap.update S (Obj.mapSeq (·.push Value.none))).update S (Obj.mapSeq (·.pop))).get? b=some o:=fun b o hb e=>(A4 _ _ (Am hb)).trans ((A4 _ _ (Am hb)).trans e)
 refine AB ⟨BQ CI _,key _ _ _ (hit.at fun o e=>oth it o (Am hSit) e) (let ⟨o,e,r⟩:=ht;⟨o,oth t o (Am hSt) e,r⟩) oth hS₃⟩
theorem init_rev {R:Result->Shared->Prop} {it t:Addr} {items:Array Value} (hh:A.handled=none) (hit:Zz s.heap it t ((items.size:Int) - 1)) (ht:IsTup s.heap t items) (hne:t ≠ it) (hz:items.size<=1000) (S:Addr) (hS:s.heap.get? S=some { cls:=.type "list",data:=.seq #[] })
  (hSt:S ≠ t) (hSi:S ≠ it) (hR:∀ h' tk acc' c',(∀ b o,b ≠ S->b ≠ it->s.heap.get? b=some o->h'.get? b=some o)->h'.get? S=some { cls:=.type "list",dict:=none,data:=.seq acc' c',slots:=#[] } ->
   ItemsOf (fun i v=>items[items.size - 1 - i]? = some v) acc' items.size->R (.ok (.ret .none)) { s with heap:=h',toks:=tk }) :
  wpAny (model prog w) A.in1 (Builtin.«list.__init__» ⟨[.ref S,.ref it],[]⟩)
   (fun fin s'=>match fin with | .done f=>R (.ok f) s' | .again c'=>c'.quiet=true/\codeAny (model prog w) A c' R s') (fun e s'=>R (.error e) s') s:=by
 show wpAny _ _ (do let old <- Builtin.List.listItems (.ref S);Builtin.List.listUpdate (.ref S) (fun _=>#[]);letGo old.toList.reverse;Builtin.List.listExtendWith (.ref S) (.ref it) .none) _ _ s
 refine AA ?_
 unfold Builtin.List.listItems
 refine AA (wpAny_seqItems hS rfl (AB ?_))
 show wpAny _ _ (updateSeq S (fun _=>#[]) >>= fun _=>letGo (#[]:Array Value).toList.reverse >>= fun _=>Builtin.List.listExtendWith (.ref S) (.ref it) .none) _ _ s
 refine AA (Cr hS rfl ?_)
 have hS₂:=Ae (Obj.mapSeq (fun _=>(#[]:Array Value))) hS rfl
 have oth:∀ b o,b ≠ S->s.heap.get? b=some o->(s.heap.update S (Obj.mapSeq (fun _=>(#[]:Array Value)))).get? b=some o:=
  fun b o hb e=>(A4 _ _ (Am hb)).trans e
 refine AA (wpAny_letGo ?_)
 refine Yk hh (hit.at fun o e=>oth it o (Am hSi) e) (let ⟨o,e,r⟩:=ht;⟨o,oth t o (Am hSt) e,r⟩) hne hz S .none _ hS₂ fun h' tk acc' c' hk hS' hacc=>?_
 exact hR h' tk acc' c' (fun b o hb hi e=>hk b o hb hi (oth b o hb e)) hS' hacc
theorem J4 {E:Value->Shared->Prop} {Q:Value->Shared->Prop} {it t:Addr} {items:Array Value} (hh:A.handled=none) (hit:Zz s.heap it t ((items.size:Int) - 1)) (ht:IsTup s.heap t items) (hne:t ≠ it) (hz:items.size<=1000)
  (hQ:∀ h' tk acc' c',(∀ b o,b ≠ it->s.heap.get? b=some o->h'.get? b=some o) ->
   h'.get? s.heap.objs.size=some { cls:=.type "list",dict:=none,data:=.seq acc' c',slots:=#[] }->ItemsOf (fun i v=>items[items.size - 1 - i]? = some v) acc' items.size->Q (.ref s.heap.objs.size) { s with heap:=h',toks:=tk }) :
  wpAny (model prog w) A (call (.type "list") [.ref it]) Q E s:=by
 refine callType_codes (Q₁:=fun obj s₁=>obj=.ref s.heap.objs.size/\s₁ = { s with heap:=s.heap.push { cls:=.type "list",data:=.seq #[] } }) PySem.F.called_list (PySem.F.typeCall_list_1 _) PySem.F.entry_list_init
  (code_list_new _ ⟨rfl,rfl⟩) fun obj s₁ h₁=>?_
 obtain⟨rfl,rfl⟩:=h₁
 have hS:(s.heap.push { cls:=.type "list",data:=.seq #[] }).get? s.heap.objs.size=some { cls:=.type "list",data:=.seq #[] }:=AH _ rfl
 have lt1:it < s.heap.objs.size:=let ⟨_,e,_⟩:=hit;AJ e
 have lt2:t < s.heap.objs.size:=let ⟨_,e,_⟩:=ht;AJ e
 refine⟨⟨_,hS,rfl⟩,PySem.F.args_list_init_2 _ _,init_rev (A:=A.in1) hh (hit.at fun o e=>AD _ e) (let ⟨o,e,r⟩:=ht;⟨o,AD _ e,r⟩) hne hz _ hS (BE lt2) (BE lt1) fun h' tk acc' c' hk hS' hacc=>?_⟩
 exact⟨rfl,hQ h' tk acc' c' (fun b o hi e=>hk b o (AN (AJ e)) hi (AD _ e)) hS' hacc⟩
end
theorem WR:bootBuiltins "reversed" = some (.type "reversed"):=by decide +kernel
theorem vals_rev {xs:List V} {its:List Value} {acc:Array Value} (r:zX xs its) (h:ItemsOf (fun i v=>its.toArray[its.toArray.size - 1 - i]? = some v) acc its.toArray.size):zX xs.reverse acc.toList:=by
 have l:=r.length
 refine JY (by rw[CM];have:=h.1;simp at this ⊢;omega) fun i x u hx hu=>?_
 have hi:i < xs.length:=by
  have:=(AE.mp hx).1
  rw[CM] at this
  exact this
 rw[List.getElem?_reverse hi] at hx
 obtain⟨u',hu',ru⟩:=r.get hx
 have e:=h.2 i u (by simpa using hu)
 have e2:its[its.length - 1 - i]? = some u:=by simpa using e
 rw[<- l,hu'] at e2
 rw[<- AL e2]
 exact ru
section
variable {X : Cx}
def tListRev (K:PySem.W.Frag) (ta:TA):TE:=fun σ H Q=>ta σ H fun vs H1=>∃ p xs,vs=[.ref p]/\SqT K H1 p xs/\xs.length<=1000/\∀ l,H1 l=none->Q (.ref l) (upd H1 l (.lst xs.reverse))
theorem Yl (K:PySem.W.Frag) {a:Expr} {ta:TA} {p p2 pos pos2:Pos} (hg:Gl X "list") (hm:X.mg "list" = none) (hg2:Gl X "reversed") (hm2:X.mg "reversed" = none) (ha:PA X [a] ta) (hs:starEach [a] X.env=[(false,eval a X.env)]:=by rfl) (hs2:starEach [.Call (.Name "reversed" p2) [a] [] pos2] X.env=[(false,eval (.Call (.Name "reversed" p2) [a] [] pos2) X.env)]:=by rfl) (hc:X.calm=true:=by rfl) (hK:X.K=K:=by rfl) :
  PE X (.Call (.Name "list" p) [.Call (.Name "reversed" p2) [a] [] pos2] [] pos) (tListRev K ta):=by
 subst hK
 intro pins s σ H Q I h
 refine Call_ (ZI I hg hm Zw (BD ?_ hs2 rfl))
 rw[hs2]
 show wpAny _ _ (spliced [(false,eval (.Call (.Name "reversed" p2) [a] [] pos2) X.env)]) _ _ s
 refine Calls.spliced_cons ?_
 refine Call_ (ZI I hg2 hm2 WR (BD (thn (ha pos2 pins s σ H _ I h) fun us s1 ⟨vs,H1,I1,r1,q1⟩=>?_) hs rfl))
 obtain⟨p1,xs,e,hq,hz,q⟩:=q1
 subst e
 obtain⟨u1,rfl,r2⟩:=vals1 r1
 cases r2
 obtain⟨its,rv,pl,_⟩:=I1.tuple hq
 have lv:=rv.length
 have plt:p1 < s1.heap.objs.size:=PyProof.Rows.IsTup.lt pl
 have sz:its.toArray.size<=1000:=by simp;omega
 refine ZA pl (by omega) fun tk=>?_
 refine Calls.spliced_nil ?_
 have I2:Inv X pins σ H1 { s1 with heap:=s1.heap.push (revO p1 ((its.toArray.size:Int) - 1)),toks:=tk }:=I1.kept (t':=tk) fun _ _ e=>AD _ e
 have hsz:(s1.heap.push (revO p1 ((its.toArray.size:Int) - 1))).objs.size=s1.heap.objs.size+1:=Bb ..
 refine J4 (s:={ s1 with heap:=s1.heap.push (revO p1 ((its.toArray.size:Int) - 1)),toks:=tk }) (I1.ok.hd hc) (it:=s1.heap.objs.size) (t:=p1) (items:=its.toArray) ⟨_,AH _ rfl,rfl,rfl⟩ (let ⟨o,e,r⟩:=pl;⟨o,AD _ e,r⟩) (AN plt) sz fun h' tk2 acc c' kp he hacc=>?_
 have he':h'.get? (s1.heap.objs.size+1)=some { cls:=.type "list",dict:=none,data:=.seq acc c',slots:=#[] }:=by
  have:({ s1 with heap:=s1.heap.push (revO p1 ((its.toArray.size:Int) - 1)),toks:=tk }:Shared).heap.objs.size=s1.heap.objs.size+1:=hsz
  rw[this] at he
  exact he
 have I3:Inv X pins σ H1 { s1 with heap:=h',toks:=tk2 }:=by
  refine I1.changed (t':=tk2) (ch:=[]) (fun b hb=>by cases hb) fun c o _ e=>kp c o (AN (AJ e)) (AD _ e)
 have Hn:H1 (s1.heap.objs.size+1)=none:=I1.hok.fresh (DQ _)
 have I4:Inv X pins σ (upd H1 (s1.heap.objs.size+1) (.lst xs.reverse)) { s1 with heap:=h',toks:=tk2 }:=by
  refine I3.adopt Hn (B5 (Nat.le_succ_of_le I1.sz)) (BE (BF I1.lt)) (fun xx cc e zz=>?_) (fun p hp zz=>?_) ⟨by rw[CM];exact B8 (zq (by omega)),acc.toList,c',vals_rev rv hacc,by simpa using he'⟩
  ·obtain⟨_,q⟩:=I1.cell xx cc e
   exact absurd q.lt (by rw[zz];exact Nat.not_lt.mpr (DQ _))
  ·exact absurd (AJ (I1.pin p hp).1) (by rw[zz];exact Nat.not_lt.mpr (DQ _))
 rw[hsz]
 exact⟨.ref (s1.heap.objs.size+1),_,I4,rfl,q _ Hn⟩
open Classical in
def sKPut (td ty tv:TE):TS:=fun D σ H=>tv σ H fun v H1=>td σ H1 fun x H2=>ty σ H2 fun y H3=>∃ a kvs k,x=.ref a/\y=kV k/\H3 a=some (.dK kvs)/\kvs.length < sizeLine/\D.nx σ (upd H3 a (.dK (ZH kvs k v)))
theorem ps_kput {o i value:Expr} {pos pos':Pos} {td ty tv:TE} {j:Nat} (hr:jV j X.A) (ho:PE X o td) (hi:PE X i ty) (hv:PE X value tv) (hs:swapsWith value (some (.Subscript o i pos')) pos.line X.env=pure false) :
  PS X (.Assign [.Subscript o i pos'] value pos) (sKPut td ty tv):=by
 intro pins s σ H D I h
 have hu:X.A.units+64 < cLine:=hr.units
 refine wpAny_Assign_Subscript (thn (hv pins s σ H _ I h) fun r s1 ⟨v,H1,I1,rv,q1⟩=>thn (ho pins s1 σ H1 _ I1 q1) fun u s2 ⟨x,H2,I2,rx,q2⟩=>thn (hi pins s2 σ H2 _ I2 q2) fun iv s3 ⟨y,H3,I3,ry,a,kvs,k,ex,ey,e,l,q3⟩=>?_) hs
 subst ex ey
 obtain rfl:u=Value.ref a:=rx
 exact xJ (by omega) I3 (DPut.k e l) ry rv fun s4 I4=>⟨σ,_,I4,q3⟩
end
section
variable {X : Cx}
def rNeNil (K:PySem.W.Frag):R2:=fun x y H Q=>∃ p q xs,x=.ref p/\y=.ref q/\SqL K H p xs/\SqL K H q []/\Q (.bl (!xs.isEmpty)) H
theorem Zh (K:PySem.W.Frag) {k:Nat} (hr:jV k X.A) (hK:X.K=K:=by rfl):OpR X (compareOp .NotEq) (rNeNil K):=by
 subst hK
 intro pins s σ H x y v u Q I rx ry h
 obtain⟨p,q,xs,rfl,rfl,h1,h2,hq⟩:=h
 cases rx
 cases ry
 obtain⟨us,r1,pl1,_⟩:=I.list h1
 obtain⟨vs,r2,pl2,_⟩:=I.list h2
 have hu:X.A.units < cLine:=Nat.lt_of_succ_lt (hu_of hr)
 cases r2
 cases xs with
 | nil=>
  cases r1
  exact SeqAt.RcNeAt.lists (e:=fun _=>true) pl1.isList pl2.isList rfl hu (fun j h _=>absurd h (BX _)) X.prog X.w _ _ ⟨.bl _,H,I,rfl,hq⟩
 | cons x xs=>
  have l1:=r1.length
  exact SeqAt.RcNeAt.lists_lengths pl1.isList pl2.isList (by simp at l1 ⊢;intro z;rw[z] at l1;cases l1) hu X.prog X.w _ _ ⟨.bl _,H,I,rfl,hq⟩
end
end L2
namespace L4
open PySem L2
end L4
namespace L2
open PySem PySem.Spec PyProof.Rows
section
variable {prog : Program} {w : World} {A : Around} {R : Result -> Shared -> Prop}
abbrev TK (prog:Program) (w:World):HeapKind prog w (List Key):=tupleKind (zR prog w)
theorem wZ {h h':Heap} {ks:List Key} {a b0:Addr} (x:(TK prog w).is h ks a) (hs:∀ b o,b ≠ b0->h.get? b=some o->h'.get? b=some o) (hn:∀ o,h.get? b0=some o->o.cls ≠ .type "tuple"):(TK prog w).is h' ks a:=by
 obtain⟨o,items,n,e,c,r⟩:=x
 exact⟨o,items,n,hs a o (fun z=>by subst z;exact hn o e c) e,c,r⟩
theorem JE {h h':Heap} {d b0:Addr} {xs:List (List Key×Addr×Value)} (m:h.DictOfH (TK prog w) d xs) (hd:d ≠ b0) (hs:∀ b o,b ≠ b0->h.get? b=some o->h'.get? b=some o) (hn:∀ o,h.get? b0=some o->o.cls ≠ .type "tuple"):h'.DictOfH (TK prog w) d xs:=by
 obtain⟨o,es,ep,ho,hc,hd',he,his,hn'⟩:=m
 exact⟨o,es,ep,hs d o hd ho,hc,hd',he,fun x hx=>wZ (his x hx) hs hn,hn'⟩
def ZB (prog:Program) (w:World) (h:Heap) (v:Value) (p:List Key×Addr×Value):Prop:=∃ b,v=.ref b/\h.IsTuple b #[.ref p.2.1,p.2.2]/\(TK prog w).is h p.1 p.2.1
theorem ZB.keep {h h':Heap} {v:Value} {p:List Key×Addr×Value} {b0:Addr} (x:ZB prog w h v p) (hs:∀ b o,b ≠ b0->h.get? b=some o->h'.get? b=some o) (hn:∀ o,h.get? b0=some o->o.cls ≠ .type "tuple"):ZB prog w h' v p:=by
 obtain⟨b,rfl,⟨o,e,c,r⟩,hk⟩:=x
 exact⟨b,rfl,⟨o,hs b o (fun z=>by subst z;exact hn o e c) e,c,r⟩,wZ hk hs hn⟩
def xM (acc ps:List (List Key×Addr×Value)):List (List Key×Addr×Value):=ps.foldl (fun acc p=>storedH acc p.1 p.2.1 p.2.2) acc
theorem WS (acc:List (List Key×Addr×Value)) (k:List Key) (a:Addr) (v:Value):(storedH acc k a v).length<=acc.length+1:=by
 unfold storedH
 split
 ·rw[AC];omega
 ·rw[AI];simp
theorem xN (hh:A.handled=none) (hu:A.units+1 < cLine) (D L it:Addr) (items:Array Value) (hDL:D ≠ L) (hDi:D ≠ it) (hLi:L ≠ it) (ps:List (List Key×Addr×Value)) (hlen:ps.length=items.size) (hsz:ps.length<=sizeLine) :
  ∀ (n i:Nat) (s:Shared) (acc:List (List Key×Addr×Value)),n+i=items.size->acc.length<=i->s.heap.IsListIter it L i->s.heap.IsList L items->s.heap.DictOfH (TK prog w) D acc ->
  (∀ (j:Nat) (p:List Key×Addr×Value) (v:Value),ps[j]? = some p->items[j]? = some v->ZB prog w s.heap v p) ->
  (∀ h' tk,h'.DictOfH (TK prog w) D (xM acc (ps.drop i))->(∀ b o,b ≠ D->b ≠ it->s.heap.get? b=some o->h'.get? b=some o)->R (.ok (.ret .none)) { s with heap:=h',toks:=tk }) ->
  codeAny (model prog w) A (.builtin "dict.update.loop" ⟨[.ref D,.ref it,rawInt i,.none],[]⟩) R s:=by
 intro n
 induction n with
 | zero=>
  intro i s acc hn hacc hit hl hd hp hR
  obtain⟨oi,hoi,hci,_⟩:=id hit
  refine Ax qI ?_
  rw[Au zL _]
  show wpAny _ A.in1 (pyNext (.ref it) >>= _) _ _ s
  refine AA (CF (show A.in1.handled=none from hh) hit hl (by simp;omega) fun h' eb=>?_)
  show wpAny _ _ (Builtin.Dict.addKeywords D [] >>= _) _ _ _
  refine AA (AB (AB (hR h' s.toks ?_ fun b o _ h2 e=>eb b o h2 e)))
  rw[List.drop_eq_nil_of_le (by omega)]
  exact JE hd hDi (fun b o hb e=>eb b o hb e) fun o e=>by rw[hoi] at e;cases e;rw[hci];decide
 | succ n ih=>
  intro i s acc hn hacc hit hl hd hp hR
  have hi:i < items.size:=by omega
  obtain⟨v,hv⟩:∃ v,items[i]? = some v:=⟨items[i],by simp[hi]⟩
  obtain⟨p,hpi⟩:∃ p,ps[i]? = some p:=⟨ps[i]'(by omega),by rw[AK (by omega)]⟩
  refine Ax qI ?_
  rw[Au zL _]
  show wpAny _ A.in1 (pyNext (.ref it) >>= _) _ _ s
  refine AA (CB hit hl hv fun h1 hit1 hs1=>?_)
  obtain⟨oi,hoi,hci,_⟩:=hit
  have nti:∀ o,s.heap.get? it=some o->o.cls ≠ .type "tuple":=fun o e=>by rw[hoi] at e;cases e;rw[hci];decide
  have hp1:∀ (j:Nat) (p:List Key×Addr×Value) (v:Value),ps[j]? = some p->items[j]? = some v->ZB prog w h1 v p:=fun j p v a b=>(hp j p v a b).keep (b0:=it) (fun b o hb e=>hs1.extBut b o hb e) nti
  obtain⟨b,rfl,hb,hk⟩:=hp1 i p v hpi hv
  obtain⟨ot,e1,e2,nt,e3⟩:=id hb
  have hd1:=JE hd hDi (fun b o hb e=>hs1.extBut b o hb e) nti
  refine AA (Ah (AA (wpAny_tryCatch ?_)))
  unfold Builtin.Dict.pairItems
  refine AA (Bp (T := "tuple") ⟨ot,e1,e2⟩ ?_)
  rw[if_pos (by decide)]
  refine AA (wpAny_seqItems e1 e3 (AB ?_))
  show wpAny _ _ (holding [.ref p.2.1,p.2.2] (dictSet D (.ref p.2.1) p.2.2)) _ _ _
  refine Ah (wpAny_dictSet_heap (s:={ s with heap:=h1 }) (hsz:=by omega) (CW hu) hk hd1 fun h2 hd2 hs2=>?_)
  refine AB ⟨BQ zL _,?_⟩
  have hl1:h1.IsList L items:=hl.extBut hs1.extBut hLi
  have hle:(storedH acc p.1 p.2.1 p.2.2).length<=i+1:=Ag (WS ..) (by omega)
  obtain⟨oD,_,_,hoD,hcD,_⟩:=id hd1
  have:=ih (i+1) { s with heap:=h2,toks:=s.toks+(TK prog w).draws p.1 } (storedH acc p.1 p.2.1 p.2.2) (by omega) hle (hit1.extBut hs2.extBut (Am hDi)) (hl1.extBut hs2.extBut (Am hDL)) hd2 (fun j p v a b=>(hp1 j p v a b).keep (b0:=D) (fun b o hb e=>hs2.extBut b o hb e) fun o e=>by
    rw[hoD] at e;cases e;rw[hcD.1];decide) fun h' tk hd' hk'=>?_
  ·simpa using this
  ·refine hR h' tk ?_ fun b o h1 h2 e=>hk' b o h1 h2 (hs2.extBut b o h1 (hs1.extBut b o h2 e))
   have e4:ps.drop i=p :: ps.drop (i+1):=by
    rw[AE] at hpi
    obtain⟨h5,h6⟩:=hpi
    rw[<- h6]
    exact CK h5
   unfold xM
   rw[e4,CO]
   exact hd'
theorem Qq {E:Value->Shared->Prop} {Q:Value->Shared->Prop} {s:Shared} {L:Addr} {o:Obj} {items:Array Value} {k:Nat} {ps:List (List Key×Addr×Value)} (hh:A.handled=none) (hu:A.units+2 < cLine) (hx:s.heap.get? L=some o) (hc:o.cls=.type "list") (hdat:o.data=.seq items k) (hdn:o.dict=none)
  (hlen:ps.length=items.size) (hsz:ps.length<=sizeLine) (hp:∀ (j:Nat) (p:List Key×Addr×Value) (v:Value),ps[j]? = some p->items[j]? = some v->ZB prog w s.heap v p)
  (h:∀ h' tk,h'.DictOfH (TK prog w) s.heap.objs.size (xM [] ps)->(∀ b o,s.heap.get? b=some o->h'.get? b=some o)->Q (.ref s.heap.objs.size) { s with heap:=h',toks:=tk }) :
  wpAny (model prog w) A (call (.type "dict") [.ref L]) Q E s:=by
 refine callType_codes (Q₁:=fun obj s₁=>obj=.ref s.heap.objs.size/\s₁ = { s with heap:=s.heap.push { cls:=.type "dict",data:=.dict #[] } }) PySem.F.kt_called_dict (EB _) PySem.F.entry_dict_init (kt_code_dict_new _ ⟨rfl,rfl⟩) ?_
 rintro obj s₁ ⟨rfl,rfl⟩
 have hnew:(s.heap.push { cls:=.type "dict",data:=.dict #[] }).DictOf (zR prog w) s.heap.objs.size []:=Heap.DictOf.new s.heap
 have hnewH:(s.heap.push { cls:=.type "dict",data:=.dict #[] }).DictOfH (TK prog w) s.heap.objs.size []:=⟨_,#[],0,AH _ rfl,⟨rfl,rfl,rfl⟩,rfl,rfl,fun x hx=>(by cases hx),.nil⟩
 have hx1:=AD { cls:=.type "dict",data:=.dict #[] } hx
 have Llt:L < s.heap.objs.size:=AJ hx
 refine⟨hnew.typeIs,PySem.F.args_dict_init_2 _ _,?_⟩
 unfold Builtin.«dict.__init__»
 refine AA ?_
 unfold Builtin.Dict.selfAndRest
 refine AA (wpAny_notOrdered_dict hnew.typeIs ?_)
 show wpAny _ _ (pure (s.heap.objs.size,[Value.ref L])) _ _ _
 refine AB ?_
 show wpAny _ _ (Builtin.Dict.updateFrom "dict.__init__" s.heap.objs.size (.ref L) [] .none) _ _ _
 unfold Builtin.Dict.updateFrom
 refine AA (Bp (T := "list") ⟨o,hx1,hc⟩ ?_)
 rw[if_pos (by decide)]
 refine AA (wW hx1 hc hdat hdn (show A.in1.in1.handled=none from hh) fun h' tk kp=>?_)
 rw[if_pos (by rfl)]
 have hL':h'.IsList L items:=⟨o,kp _ _ hx1,hc,k,hdat⟩
 refine AA (Ba (AA (B3 hL' ?_)))
 have Dget:∃ od,h'.get? s.heap.objs.size=some od:=⟨_,kp _ _ (AH _ rfl)⟩
 have Dlt:s.heap.objs.size < h'.objs.size:=let ⟨_,e⟩:=Dget;AJ e
 refine AB ⟨BQ zL _,?_⟩
 have it0:(h'.push { cls:=.type "list_iterator",data:=.fields #[.ref L,.int 0 0] }).IsListIter h'.objs.size L 0:=⟨_,AH _ rfl,rfl,rfl⟩
 have hd':(h'.push { cls:=.type "list_iterator",data:=.fields #[.ref L,.int 0 0] }).DictOfH (TK prog w) s.heap.objs.size []:=by
  obtain⟨od,es,ep,e,h1,h2,h3,_,h5⟩:=hnewH
  exact⟨od,es,ep,AD _ (kp _ _ e),h1,h2,h3,(fun x hx=>by cases hx),h5⟩
 refine xN (A:=A.in1) (show A.in1.handled=none from hh) (show A.units+1+1 < cLine from hu) s.heap.objs.size L h'.objs.size items (BE Llt) (AN Dlt) (AN (Ci Llt Dlt)) ps hlen hsz items.size 0 { s with heap:=h'.push { cls:=.type "list_iterator",data:=.fields #[.ref L,.int 0 0] },toks:=tk } [] rfl (AG _) it0 (hL'.push _) hd' (fun j p v a b=>?_) fun h2 tk2 hd2 hk2=>?_
 ·obtain⟨bb,e1,⟨ot,e2,r⟩,⟨o3,i3,n3,e3,r3⟩⟩:=hp j p v a b
  exact⟨bb,e1,⟨ot,AD _ (kp _ _ (AD _ e2)),r⟩,⟨o3,i3,n3,AD _ (kp _ _ (AD _ e3)),r3⟩⟩
 ·refine⟨rfl,h h2 tk2 ?_ fun b ob e=>hk2 b ob (AN (AJ e)) (AN (Ci (AJ e) Dlt)) (AD _ (kp _ _ (AD _ e)))⟩
  rw[Co] at hd2
  exact hd2
end
def J5 (H:Hp):List V->List (List Key×V)->Prop:=Paired fun x p=>∃ b kb,x=.ref b/\H b=some (.tup [.ref kb,p.2])/\H kb=some (.tup (p.1.map kV))
def putAllT (kvs ps:List (List Key×V)):List (List Key×V):=ps.foldl (fun acc p=>ZH acc p.1 p.2) kvs
theorem prsT_at {P:Program} {w:World} {H:Hp} {h:Heap} (ok:HOk P w H h) {xs:List V} {ps:List (List Key×V)} (r:J5 H xs ps):∀ {us:List Value},zX xs us->∃ rs:List (List Key×Addr×Value),KT H ps rs/\∀ (j:Nat) (p:List Key×Addr×Value) (v:Value),rs[j]? = some p->us[j]? = some v->ZB P w h v p:=by
 unfold J5 at r
 induction r with
 | nil=>
  intro us rv
  exact⟨[],.nil,fun j p v e=>by simp at e⟩
 | @cons x p xs ps hx t ih=>
  intro us rv
  cases rv with
  | @cons _ u _ us hu rv=>
   obtain⟨rs,r1,r2⟩:=ih rv
   obtain⟨b,kb,rfl,hb,hkb⟩:=hx
   obtain⟨_,its,ri,o,e1,e2,⟨n,e3⟩,_⟩:=(show qd P w H h b (.tup [.ref kb,p.2]) from ok b _ hb)
   cases ri with
   | @cons _ ku _ _ hk ri=>
    cases ri with
    | @cons _ vu _ _ hv ri=>
     cases ri
     obtain rfl:ku=Value.ref kb:=hk
     refine⟨(p.1,kb,vu) :: rs,.cons ⟨rfl,hkb,hv⟩ r1,fun j q v ej ev=>?_⟩
     cases j with
     | zero=>
      cases (AL ej)
      cases (AL ev)
      obtain rfl:u=Value.ref b:=hu
      exact⟨b,rfl,⟨o,e1,e2,n,e3⟩,JC ok hkb⟩
     | succ j=>exact r2 j q v ej ev
theorem put_allT {H:Hp} {ps:List (List Key×V)} {rs:List (List Key×Addr×Value)} (r:KT H ps rs):∀ {acc:List (List Key×V)} {bcc:List (List Key×Addr×Value)},KT H acc bcc->KT H (putAllT acc ps) (xM bcc rs):=by
 unfold KT at r
 induction r with
 | nil=>exact fun q=>q
 | @cons p q ps qs h t ih=>
  intro acc bcc ra
  obtain⟨h1,h2,h3⟩:=h
  show KT H (putAllT (ZH acc p.1 p.2) ps) (xM (storedH bcc q.1 q.2.1 q.2.2) qs)
  rw[<- h1]
  exact ih (KT.put ra p.1 h2 h3)
theorem Zo:∀ (ps acc:List (List Key×V)),(putAllT acc ps).length<=acc.length+ps.length
 | [],acc=>AG _
 | p :: ps,acc=>by
  have h1:=Zo ps (ZH acc p.1 p.2)
  have h2:=jF acc p.1 p.2
  show (putAllT (ZH acc p.1 p.2) ps).length<=_
  rw[Ab];omega
section
variable {X : Cx}
def tDictPT (ta:TA):TE:=fun σ H Q=>ta σ H fun vs H1=>∃ p xs ps,vs=[.ref p]/\H1 p=some (.lst xs)/\J5 H1 xs ps/\∀ D,H1 D=none->Q (.ref D) (upd H1 D (.dT (putAllT [] ps)))
theorem Wa {k:Nat} (hr:jV k X.A) {a:Expr} {ta:TA} {p pos:Pos} (hg:Gl X "dict") (hm:X.mg "dict" = none) (ha:PA X [a] ta) (hs:starEach [a] X.env=[(false,eval a X.env)]:=by rfl) (hc:X.calm=true:=by rfl) :
  PE X (.Call (.Name "dict" p) [a] [] pos) (tDictPT ta):=by
 intro pins s σ H Q I h
 have hu:X.A.units+64 < cLine:=hr.units
 refine Call_ (ZI I hg hm WQ (BD (thn (ha pos pins s σ H _ I h) fun us s1 ⟨vs,H1,I1,r1,q1⟩=>?_) hs rfl))
 obtain⟨p1,xs,ps,e,hq,hps,q⟩:=q1
 subst e
 obtain⟨u1,rfl,r2⟩:=vals1 r1
 cases r2
 obtain⟨hz,its,n,rv,eo⟩:=(show qd X.prog X.w H1 s1.heap p1 (.lst xs) from I1.hok p1 _ hq)
 obtain⟨rs,rk,hpa⟩:=prsT_at I1.hok hps rv
 have a1:ps.length=rs.length:=Aw rk
 have a2:=Aw hps
 have l1:rs.length=its.toArray.size:=by
  have a3:=rv.length
  simp;omega
 refine Qq (ps:=rs) (I1.ok.hd hc) (by omega) eo rfl rfl rfl l1 (by omega) (fun j p v a b=>hpa j p v a (by simpa using b)) fun h' tk hd' kp=>?_
 have hb:(s1.heap.objs.size == sysModules)=false:=beq_eq_false_iff_ne.mpr (Am (AN I1.big))
 have hl:(putAllT [] ps).length<=sizeLine:=by
  have:=Zo ps []
  simp at this;omega
 have Hn:H1 s1.heap.objs.size=none:=I1.hok.fresh (AG _)
 obtain⟨od,es,ep,f1,f2,f3,f4,_,f6⟩:=hd'
 exact⟨.ref s1.heap.objs.size,_,I1.laid (a:=s1.heap.objs.size) (o:=.dT (putAllT [] ps)) (t':=tk) kp (AG _) ⟨hl,hb,_,(put_allT rk .nil).keeps fun b ys e=>by rw[zk (zr e Hn)];exact e,od,es,ep,f1,f2,f3,f4,f6⟩,rfl,q _ Hn⟩
theorem hu1 {k:Nat} {A:Around} (hr:jV k A):A.units+1 < cLine:=by
 have:A.units+64 < cLine:=hr.units
 omega
def rTNotIn:R2:=fun y x H Q=>∃ a b kvs k,x=.ref a/\y=.ref b/\H a=some (.dT kvs)/\H b=some (.tup (k.map kV))/\Q (.bl (!(jz kvs k).isSome)) H
theorem Wb {j:Nat} (hr:jV j X.A):OpR X (compareOp .NotIn) rTNotIn:=by
 intro pins s σ H x y v u Q I rx ry h
 obtain⟨a,b,kvs,k,rfl,rfl,ha,hb,q⟩:=h
 have hu:X.A.units+64 < cLine:=hr.units
 obtain rfl:u=Value.ref a:=ry
 exact d_notIn (by omega) I (Yf.t ha hb) rx fun s' I'=>⟨.bl _,H,I',rfl,q⟩
end
open PySem
abbrev Rs (xs:Array Nat):Prop:=xs.toList.Pairwise (· < ·)
def JF (xs:List Nat) (j:Nat):Nat:=(xs.filter fun x=>decide (x < j)).length
theorem yE (xs:List Nat) (j:Nat):JF xs j<=xs.length:=B9 _ _
theorem jH:∀ (xs:List Nat) (j i:Nat) (x:Nat),xs.Pairwise (· < ·)->xs[i]? = some x->(x < j ↔ i < JF xs j)
 | [],j,i,x,_,h=>by simp at h
 | y :: xs,j,0,x,hp,h=>by
  obtain rfl:y=x:=by simpa using h
  unfold JF
  rw[Dx]
  by_cases hy:y < j
  ·simp[hy]
  ·have:xs.filter (fun x=>decide (x < j))=[]:=by
    rw[List.filter_eq_nil_iff]
    intro z hz
    have:=(Ck.mp hp).1 z hz
    simp
    omega
   simp[hy,this]
 | y :: xs,j,i+1,x,hp,h=>by
  have h':xs[i]? = some x:=by simpa using h
  have ih:=jH xs j i x (Ck.mp hp).2 h'
  have hyx:=(Ck.mp hp).1 x (AV h')
  unfold JF at ih ⊢
  rw[Dx]
  by_cases hy:y < j
  ·simp only[hy,decide_true,if_true,List.length_cons]
   rw[ih]
   omega
  ·simp only[hy,decide_false,Bool.false_eq_true,if_false]
   constructor
   ·intro hx
    omega
   ·intro hi
    have:=ih.mpr (by omega)
    omega
theorem J6 {xs:Array Nat} {j:Nat} (hr:Rs xs):∀ (fuel lo hi:Nat),hi - lo<=fuel->lo<=JF xs.toList j->JF xs.toList j<=hi->hi<=xs.size->SetTable.below.go xs j fuel lo hi=JF xs.toList j
 | 0,lo,hi,h1,h2,h3,h4=>by
  unfold SetTable.below.go
  omega
 | fuel+1,lo,hi,h1,h2,h3,h4=>by
  unfold SetTable.below.go
  by_cases hlt:lo < hi
  ·rw[if_pos hlt]
   have hm:(lo+hi) / 2 < xs.size:=by omega
   have hx:xs.toList[(lo+hi) / 2]? = some xs[(lo+hi) / 2]:=by simp[hm]
   have hc:=jH xs.toList j _ _ hr hx
   have eg:xs.getD ((lo+hi) / 2) j=xs[(lo+hi) / 2]:=by simp[Array.getD,hm]
   dsimp only
   rw[eg]
   by_cases hy:xs[(lo+hi) / 2] < j
   ·rw[if_pos hy]
    have:=hc.mp hy
    exact J6 hr fuel _ _ (by omega) (by omega) h3 h4
   ·rw[if_neg hy]
    have:¬ (lo+hi) / 2 < JF xs.toList j:=fun z=>hy (hc.mpr z)
    exact J6 hr fuel _ _ (by omega) h2 (by omega) (by omega)
  ·rw[if_neg hlt]
   omega
theorem ZV {xs:Array Nat} (hr:Rs xs) (j:Nat):SetTable.below xs j=JF xs.toList j:=by
 unfold SetTable.below
 have:=yE xs.toList j
 exact J6 hr _ _ _ (by omega) (A0 _) (by simpa using this) (AG _)
theorem at_below {xs:Array Nat} (hr:Rs xs) {j:Nat}:xs[SetTable.below xs j]? = some j ↔ j ∈ xs.toList:=by
 rw[ZV hr]
 constructor
 ·intro h
  have:xs.toList[JF xs.toList j]? = some j:=by simpa using h
  exact AV this
 ·intro h
  obtain⟨i,hi⟩:=BM.mp h
  have h1:¬ i < JF xs.toList j:=fun z=>BC _ ((jH _ _ _ _ hr hi).mpr z)
  have hil:=(AE.mp hi).1
  have hcl:JF xs.toList j<=i:=by omega
  have hc:JF xs.toList j < xs.toList.length:=by omega
  have hx:xs.toList[JF xs.toList j]? = some xs.toList[JF xs.toList j]:=AK hc
  have h2:¬ xs.toList[JF xs.toList j] < j:=fun z=>BC _ ((jH _ _ _ _ hr hx).mp z)
  have e:JF xs.toList j=i:=by
   rcases Nat.lt_or_eq_of_le hcl with h3 | h3
   ·exfalso
    have:=Ct.mp hr (JF xs.toList j) i hc hil h3
    have ei:xs.toList[i]=j:=(AE.mp hi).2
    omega
   ·exact h3
  rw[e]
  simpa using hi
theorem JG {xs:Array Nat} (hr:Rs xs) {i x:Nat} (h:xs[i]? = some x):SetTable.below xs (x+1)=i+1:=by
 rw[ZV hr]
 have hx:xs.toList[i]? = some x:=by simpa using h
 have h1:=(jH _ (x+1) _ _ hr hx).mp (BR _)
 by_cases h2:i+1 < xs.toList.length
 ·have hy:xs.toList[i+1]? = some xs.toList[i+1]:=AK h2
  have h3:¬ xs.toList[i+1] < x+1:=by
   have hil:=(AE.mp hx).1
   have:=Ct.mp hr i (i+1) hil h2 (BR _)
   have ei:xs.toList[i]=x:=(AE.mp hx).2
   omega
  have hn:¬ i+1 < JF xs.toList (x+1):=fun z=>h3 ((jH _ (x+1) _ _ hr hy).mpr z)
  omega
 ·have:=yE xs.toList (x+1)
  omega
theorem ZW {α:Type} (xs:Array α) (p:Nat) (x:α):(SetTable.insertAt xs p x).toList=xs.toList.take p++x :: xs.toList.drop p:=by
 unfold SetTable.insertAt
 simp
 exact A8 (by simp)
theorem JH {xs:Array Nat} (hr:Rs xs) {j:Nat} (hj:j ∉ xs.toList):Rs (SetTable.insertAt xs (SetTable.below xs j) j):=by
 unfold Rs
 rw[ZW,ZV hr]
 have hle:=yE xs.toList j
 rw[Ce]
 refine⟨hr.sublist (List.take_sublist _ _),?_,?_⟩
 ·rw[Ck]
  refine⟨fun y hy=>?_,hr.sublist (List.drop_sublist _ _)⟩
  obtain⟨i,hi⟩:=BM.mp hy
  rw[List.getElem?_drop] at hi
  have h1:¬ y < j:=fun z=>by
   have:=(jH _ j _ _ hr hi).mp z
   omega
  have h2:y ≠ j:=fun z=>hj (z ▸ AV hi)
  omega
 ·intro a ha b hb
  obtain⟨i,hi⟩:=BM.mp ha
  have hil:=(AE.mp hi).1
  rw[AZ] at hil
  rw[List.getElem?_take_of_lt (by omega)] at hi
  have haj:a < j:=(jH _ j _ _ hr hi).mpr (by omega)
  rcases AR.mp hb with rfl | hb
  ·exact haj
  ·obtain⟨i',hi'⟩:=BM.mp hb
   rw[List.getElem?_drop] at hi'
   have h1:¬ b < j:=fun z=>by
    have:=(jH _ j _ _ hr hi').mp z
    omega
   omega
structure Zp (t:SetTable) (b:Bool):Prop where
 dum:t.dummies = #[]
 rs:Rs t.place
 led:t.led=b
theorem Zp.plainOff {t:SetTable} {b:Bool} (h:Zp t b):Zp { t with plain:=false } b:=⟨h.dum,h.rs,h.led⟩
theorem rs_range (n:Nat):Rs (Array.range n):=by
 unfold Rs
 rw[Array.toList_range]
 exact List.pairwise_lt_range
theorem Zp.standIn {t:SetTable} {b:Bool} (h:Zp t b) (n:Nat):Zp (t.standIn n) b:=⟨rfl,rs_range n,h.led⟩
theorem Zp.fresh (b:Bool):Zp (.fresh 0 0 b) b:=⟨rfl,List.Pairwise.nil,rfl⟩
theorem WT (j:Nat):SetTable.has #[] j=false:=by
 unfold SetTable.has
 simp
theorem Ym {t:SetTable} {b:Bool} (h:Zp t b) {j:Nat} (e:t.slot j=.empty):j ∉ t.place.toList:=fun hm=>by
 unfold SetTable.slot at e
 have:=(at_below h.rs).mpr hm
 dsimp only at e
 rw[this] at e
 simp at e
theorem WU {t:SetTable} {b:Bool} (h:Zp t b) {j:Nat}:t.slot j ≠ .dummy:=fun e=>by
 unfold SetTable.slot at e
 rw[h.dum,WT] at e
 dsimp only at e
 split at e
 ·cases e
 ·simp at e
theorem xO (t:SetTable) (p:SetTable.Probe):(t.advance p).dummy=p.dummy:=by
 unfold SetTable.advance
 split <;> rfl
theorem JI {t:SetTable} {b:Bool} (h:Zp t b) {f:Nat->Int} {x:Int}:∀ (fuel:Nat) (p:SetTable.Probe) (j:Nat) (d:Option Nat),p.dummy=none->SetTable.probe.go t f x fuel p=some (.empty j d)->d=none/\t.slot j=.empty
 | 0,p,j,d,_,e=>by
  unfold SetTable.probe.go at e
  cases e
 | fuel+1,p,j,d,hp,e=>by
  unfold SetTable.probe.go at e
  cases hs:t.slot p.j with
  | empty=>
   rw[hs] at e
   dsimp only at e
   injection e with e
   injection e with e1 e2
   rw[<- e1,<- e2]
   exact⟨hp,hs⟩
  | dummy=>exact absurd hs (WU h)
  | live i=>
   rw[hs] at e
   dsimp only at e
   split at e
   ·cases e
   ·exact JI h fuel _ j d (by rw[xO];exact hp) e
theorem xP {t:SetTable} {b:Bool} (h:Zp t b) {x:Int} {sl:Nat} {wd:Bool} (e:t.freeSlot x=some (sl,wd)):wd=false/\sl ∉ t.place.toList:=by
 unfold SetTable.freeSlot SetTable.probe at e
 split at e
 ·rename_i j d hg
  obtain⟨rfl,hs⟩:=JI h _ _ j d rfl hg
  injection e with e
  injection e with e1 e2
  rw[<- e1,<- e2]
  exact⟨rfl,Ym h hs⟩
 ·cases e
theorem Zp.put {t:SetTable} {b:Bool} (h:Zp t b) {sl:Nat} (hs:sl ∉ t.place.toList):Zp (t.put sl).1 b:=by
 unfold SetTable.put
 refine⟨?_,JH h.rs hs,h.led⟩
 dsimp only
 rw[h.dum,WT]
 rfl
theorem Zp.orStandIn {t:SetTable} {b:Bool} (h:Zp t b) (n:Nat):Zp (t.orStandIn n) b:=by
 unfold SetTable.orStandIn
 split
 ·exact h
 ·exact h.standIn n
theorem xQ {t:SetTable} {b:Bool} (h:Zp t b) (es:Array (Int×Value)) (x:Int) (v:Value):Zp (layNew t es x v).2.1 b:=by
 unfold layNew
 split
 ·rename_i sl wd hf
  exact (h.put (xP h hf).2).orStandIn _
 ·exact h.standIn _
theorem Wc {f:Nat->Option Nat}:∀ (n:Nat),(((List.range n).filterMap fun j=>(f j).map (j,·)).map (·.1)).Pairwise (· < ·):=by
 intro n
 have e:(((List.range n).filterMap fun j=>(f j).map (j,·)).map (·.1))=(List.range n).filter fun j=>(f j).isSome:=by
  induction List.range n with
  | nil=>rfl
  | cons a l ih=>
   rw[CN,Dx]
   cases hf:f a with
   | none=>simpa using ih
   | some k=>simpa using ih
 rw[e]
 exact List.Pairwise.filter _ List.pairwise_lt_range
theorem WV {t:SetTable} {b:Bool} (h:Zp t b) (es:Array (Int×Value)) (w:Nat):Zp (relayAll t es w).2.1 b:=by
 unfold relayAll
 split
 ·rename_i t' order hr
  dsimp only
  split
  ·unfold SetTable.relaid SetTable.laid at hr
   cases ho:SetTable.layClean (SetTable.sizeAbove w - 1) (es.map (·.1)) with
   | none=>
    rw[ho] at hr
    cases hr
   | some owner=>
    rw[ho] at hr
    have hr':=AL hr
    have e1:_=t':=Be Prod.fst hr'
    rw[<- e1]
    exact⟨rfl,Wc (f:=fun j=>owner.getD j none) _,h.led⟩
  ·exact h.standIn _
 ·exact h.standIn _
section
variable {prog : Program} {w : World} {K : Type} [DecidableEq K] {knd : KeyKind prog w K} {A : Around} {E : Value -> Shared -> Prop} {s : Shared}
def SetT (knd:KeyKind prog w K) (h:Heap) (a:Addr) (S:K->Bool) (n:Nat) (b:Bool):Prop:=
 ∃ o es ep t,h.get? a=some o/\o.ExactSet/\o.data=.set es ep t/\ElemsOf knd es.toList/\(∀ k,S k=true ↔ ∃ e ∈ es.toList,knd.is k e.2=true)/\es.size < scanBound/\t.fits es.size=true/\es.size=n/\Zp t b
theorem JJ {h:Heap} {a:Addr} {o:Obj} {es:Array (Int×Value)} {ep:Nat} {t:SetTable} {b:Bool} (ho:h.get? a=some o) (hex:o.ExactSet) (hd:o.data=.set es ep t)
  {es':Array (Int×Value)} {t':SetTable} {S':K->Bool} (hel:ElemsOf knd es'.toList) (hmem:∀ k,S' k=true ↔ ∃ e ∈ es'.toList,knd.is k e.2=true) (hb:es'.size < scanBound) (hf:t'.fits es'.size=true) (ht:Zp t' b) :
  (h.update a (Obj.putSet es' t')).get? a=some { o with data:=.set es' (ep+1) t' }/\SetT knd (h.update a (Obj.putSet es' t')) a S' es'.size b:=by
 have hg:(h.update a (Obj.putSet es' t')).get? a=some { o with data:=.set es' (ep+1) t' }:=by
  have:=Ae (Obj.putSet es' t') ho (by rw[Dr es' t' hd];rfl)
  rw[Dr es' t' hd] at this;exact this
 exact⟨hg,_,es',ep+1,t',hg,hex,rfl,hel,hmem,hb,hf,rfl,ht⟩
theorem yF {g:Bool->Sem Unit} (hg:∀ (b:Bool) (s₁:Shared) (Q':Unit->Shared->Prop),Q' () s₁->wpAny (model prog w) A (g b) Q' E s₁)
  {a:Addr} {o:Obj} {es:Array (Int×Value)} {ep:Nat} {t:SetTable} (ho:s.heap.get? a=some o) (hex:o.ExactSet) (hd:o.data=.set es ep t)
  {es1:Array (Int×Value)} {t2:SetTable} {S':K->Bool} {bb:Bool} (hel1:ElemsOf knd es1.toList) (hmem1:∀ k',S' k'=true ↔ ∃ e ∈ es1.toList,knd.is k' e.2=true)
  (hb1:es1.size < scanBound) (hf2:t2.fits es1.size=true) (ht2:Zp t2 bb) {wasDummy:Bool} {R:Option Bool->Shared->Prop}
  (h:∀ h',Heap.SameBut a s.heap h'->SetT knd h' a S' es1.size bb->R (some true) { s with heap:=h' }) :
  wpAny (model prog w) A (do
    storeSet a es1 t2
    if (!wasDummy && t2.tooFull)=true then do
      g (relayAll t2 es1 (SetTable.grown es1.size)).2.2
      storeSet a (relayAll t2 es1 (SetTable.grown es1.size)).1 (relayAll t2 es1 (SetTable.grown es1.size)).2.1
      pure (some true)
     else pure (some true)) R E s:=by
 refine AA (DF ho hd ?_ (B4 hb1))
 obtain⟨ho1,hS1⟩:=JJ (knd:=knd) ho hex hd hel1 hmem1 hb1 hf2 ht2
 have hsb1:=As s.heap a (Obj.putSet es1 t2)
 split
 ·have hp:=relayAll_perm t2 es1 (SetTable.grown es1.size)
  have hfr:=relayAll_fits t2 es1 (SetTable.grown es1.size)
  have htr:=WV ht2 es1 (SetTable.grown es1.size)
  generalize hRl:relayAll t2 es1 (SetTable.grown es1.size)=Rl at hp hfr htr ⊢
  obtain⟨es2,t3,gave2⟩:=Rl
  dsimp only at hp hfr htr ⊢
  have hel2:ElemsOf knd es2.toList:=hel1.perm hp
  have hmem2:∀ k',S' k'=true ↔ ∃ e ∈ es2.toList,knd.is k' e.2=true:=fun k'=>(hmem1 k').trans ⟨fun ⟨e,he,q⟩=>⟨e,hp.mem_iff.mpr he,q⟩,fun ⟨e,he,q⟩=>⟨e,hp.mem_iff.mp he,q⟩⟩
  have hsz:es2.size=es1.size:=by rw[<- Ad,hp.length_eq,Ad]
  have hb2:es2.size < scanBound:=by rw[hsz];exact hb1
  refine AA (hg _ _ _ ?_)
  refine AA (DF ho1 rfl ?_ (B4 hb2))
  obtain⟨_,hS2⟩:=JJ (knd:=knd) ho1 hex rfl hel2 hmem2 hb2 hfr htr
  rw[hsz] at hS2
  exact AB (h _ (hsb1.trans (As _ a _)) hS2)
 ·exact AB (h _ hsb1 hS1)
theorem setAddT {a:Addr} {S:K->Bool} {n:Nat} {bb:Bool} {k:K} {x:Value} {Q:Bool->Shared->Prop} (hkey:knd.is k x=true) (hsc:x.scannable=true) (hS:SetT knd s.heap a S n bb)
  (hroom:n+1 < scanBound)
  (h:∀ h',Heap.SameBut a s.heap h'->SetT knd h' a (fun k'=>S k' || decide (k'=k)) (if S k then n else n+1) bb->Q (!S k) { s with heap:=h' }) :
  wpAny (model prog w) A (setAddHashed a x (knd.hash k)) Q E s:=by
 obtain⟨o,es,ep,t,ho,hex,hd,hel,hmem,hb,hf,hn,ht⟩:=hS
 have hb1:es.size+1 < scanBound:=by rw[hn];exact hroom
 unfold setAddHashed setAddHashedIn
 refine Ah (AA (Ak ho hd hf ?_))
 dsimp only
 rw[byScan_of hsc hb hel]
 simp only[↓reduceIte]
 unfold setAddByScan
 refine AA ?_
 refine AA (Ba ?_)
 refine AA (wpAny_setScan_of hkey ho hd hf hel ?_)
 cases hr:List.findIdx? (fun e=>knd.is k e.2) es.toList with
 | some j=>
  dsimp only
  obtain⟨hj,hpj,_⟩:=Dc.mp hr
  have hSk:S k=true:=(hmem k).mpr ⟨es.toList[j],Bc hj,hpj⟩
  refine AB (AB ?_)
  have e:s = { s with heap:=s.heap }:=by cases s;rfl
  have:=h s.heap (Heap.SameBut.refl a s.heap) ⟨o,es,ep,t,ho,hex,hd,hel,fun k'=>by
   rw[Bool.or_eq_true,decide_eq_true_eq,<- hmem k']
   exact⟨fun hk=>hk.elim id (fun e=>e ▸ hSk),.inl⟩,hb,hf,by rw[hSk];exact hn,ht⟩
  rw[hSk] at this;rw[e];exact this
 | none=>
  dsimp only
  have hSk:S k=false:=by
   cases hk:S k with
   | false=>rfl
   | true=>obtain⟨e,he,hp⟩:=(hmem k).mp hk;have:=List.findIdx?_eq_none_iff.mp hr e he;rw[hp] at this;exact Bool.noConfusion this
  have hgw:∀ (b:Bool) {s₁:Shared} {Q':Unit->Shared->Prop},Q' () s₁->wpAny (model prog w) A (match b with | true=>rule "set.scan.the-table-gave-way" | false=>pure ()) Q' E s₁:=
   fun b s₁ Q' hq=>by cases b <;> first | exact AB hq | exact Ba hq
  have hperm:=layNew_perm t es (knd.hash k) x
  have hfits:=layNew_fits t es (knd.hash k) x
  have hti:=xQ ht es (knd.hash k) x
  generalize hL:layNew t es (knd.hash k) x=L at hperm hfits hti ⊢
  obtain⟨es1,t1,wasDummy,gave⟩:=L
  dsimp only at hperm hfits hti ⊢
  rw[Dq] at hperm
  have hel1:ElemsOf knd es1.toList:=(hel.push hkey hsc).perm hperm
  have hmem1:∀ k',(S k' || decide (k'=k))=true ↔ ∃ e ∈ es1.toList,knd.is k' e.2=true:=mem_push_iff hkey hmem hperm
  have hb1':es1.size < scanBound:=by rw[<- Ad,hperm.length_eq,AI,Ad];simpa using hb1
  refine AA (hgw _ ?_)
  have hsz1:es1.size=n+1:=by rw[<- Ad,hperm.length_eq,AI,Ad,hn];rfl
  have hend:∀ h',Heap.SameBut a s.heap h'->SetT knd h' a (fun k'=>S k' || decide (k'=k)) es1.size bb->Q true { s with heap:=h' }:=by
   intro h' hsb hS';have:=h h' hsb;rw[hSk] at this;rw[hsz1] at hS';exact this hS'
  split
  ·refine AA ?_
   rw[hashByValue_scannable 8 hsc]
   refine AB ?_
   refine yF (bb:=bb) ?_ ho hex hd hel1 hmem1 hb1' ?_ ?_ ?_
   ·intro b s₁ Q' hq;cases b <;> first | exact AB hq | exact Ba hq
   ·split
    ·exact hfits
    ·exact SetTable.fits_plain_off hfits
   ·split
    ·exact hti
    ·exact hti.plainOff
   ·intro h' hsb hS';dsimp only;exact AB (hend h' hsb hS')
  ·refine AA (AB ?_)
   simp only[↓reduceIte]
   refine yF (bb:=bb) ?_ ho hex hd hel1 hmem1 hb1' hfits hti ?_
   ·intro b s₁ Q' hq;cases b <;> first | exact AB hq | exact Ba hq
   ·intro h' hsb hS';dsimp only;exact AB (hend h' hsb hS')
end
def tt0 (mask:Nat) (P:List Nat):SetTable:={ mask:=mask,place:=P.toArray,dummies:=#[],finger:=0,led:=true,moves:=0,plain:=true }
def Yn:Nat->Nat->List (List Nat)
 | 0,_=>[[]]
 | hi+1,n=>Yn hi n++(if n=0 then [] else (Yn hi (n - 1)).map (·++[hi]))
theorem J7:∀ (hi n:Nat),[] ∈ Yn hi n
 | 0,n=>AF.mpr rfl
 | hi+1,n=>A1 _ (J7 hi n)
theorem QA:∀ (hi n:Nat) (P:List Nat),P.Pairwise (· < ·)->(∀ p ∈ P,p < hi)->P.length<=n->P ∈ Yn hi n
 | 0,n,P,_,hl,_=>by
  cases P with
  | nil=>exact J7 0 n
  | cons p P=>exact absurd (hl p (AO ..)) (BX _)
 | hi+1,n,P,hp,hl,hn=>by
  rcases List.eq_nil_or_concat P with rfl | ⟨Q,q,rfl⟩
  ·exact J7 _ _
  ·rw[List.concat_eq_append] at *
   rw[Ce] at hp
   obtain⟨h1,_,h3⟩:=hp
   have hq:=hl q (by simp)
   rw[AI] at hn
   have hn':Q.length+1<=n:=hn
   by_cases e:q=hi
   ·refine Ai _ ?_
    rw[if_neg (by omega),e]
    exact AS.mpr ⟨Q,QA hi (n - 1) Q h1 (fun p hp=>by have:=h3 p hp q (by simp);omega) (by omega),rfl⟩
   ·refine A1 _ (QA hi n _ ?_ (fun p hp=>?_) (by rw[AI];exact hn))
    ·rw[Ce]
     exact⟨h1,List.pairwise_singleton _ _,h3⟩
    ·rcases Aa.mp hp with h | h
     ·have:=h3 p h q (by simp)
      omega
     ·rw[AF.mp h]
      omega
theorem free7':((Yn 8 4).all fun P=>(List.range 9).all fun d=>match (tt0 7 P).freeSlot (d:Int) with
  | some (sl,_)=>decide (sl < 8)
  | none=>false)=true:=by decide +kernel
theorem free31':((Yn 9 9).all fun P=>(List.range 9).all fun d=>P.contains d || (tt0 31 P).freeSlot (d:Int) == some (d,false))=true:=by decide +kernel
theorem xR (t:SetTable) (hd:t.dummies = #[]) (h:Int):t.freeSlot h=(tt0 t.mask t.place.toList).freeSlot h:=by
 obtain⟨mask,place,dummies,finger,led,moves,plain⟩:=t
 dsimp only at hd
 subst hd
 obtain⟨pl⟩:=place
 unfold SetTable.freeSlot SetTable.probe
 have slot_as:∀ j,SetTable.slot ⟨mask,⟨pl⟩,#[],finger,led,moves,plain⟩ j=SetTable.slot (tt0 mask pl) j:=fun j=>rfl
 have adv_as:∀ p,SetTable.advance ⟨mask,⟨pl⟩,#[],finger,led,moves,plain⟩ p=SetTable.advance (tt0 mask pl) p:=fun p=>rfl
 have go_as:∀ (f:Nat->Int) (x:Int) (fuel:Nat) (p:SetTable.Probe),SetTable.probe.go ⟨mask,⟨pl⟩,#[],finger,led,moves,plain⟩ f x fuel p=SetTable.probe.go (tt0 mask pl) f x fuel p:=by
  intro f x fuel
  induction fuel with
  | zero=>intro p;rfl
  | succ fuel ih=>
   intro p
   unfold SetTable.probe.go
   rw[slot_as]
   cases SetTable.slot (tt0 mask pl) p.j with
   | empty=>rfl
   | dummy=>
    dsimp only
    rw[adv_as]
    exact ih _
   | live i=>
    dsimp only
    rw[adv_as,ih]
 rw[go_as]
 rfl
structure Dg (es:Array (Int×Value)) (t:SetTable) (b:Bool):Prop where
 ti:Zp t b
 plain:t.plain=true
 len:t.place.size=es.size
 form:(t.mask=7/\es.size<=4/\∀ p ∈ t.place.toList,p < 8)\/(t.mask=31/\es.size<=9/\es.toList.map (·.1)=t.place.toList.map (fun (p:Nat)=>(p:Int))/\∀ p ∈ t.place.toList,p < 9)
theorem dg_fresh (b:Bool):Dg #[] (.fresh 0 0 b) b:=⟨Zp.fresh b,rfl,rfl,.inl ⟨rfl,A0 _,fun p hp=>by cases hp⟩⟩
theorem QB {α:Type} (xs:Array α) (p:Nat) (x:α) (hp:p<=xs.size):(SetTable.insertAt xs p x).size=xs.size+1:=by
 rw[<- Ad,ZW,AI,Ab,AZ,BS,Ad]
 omega
theorem yG {xs:Array Nat} (hr:Rs xs) (j:Nat):SetTable.below xs j<=xs.size:=by
 rw[ZV hr]
 simpa using yE xs.toList j
theorem lay7 {es:Array (Int×Value)} {t:SetTable} {b:Bool} (h:Dg es t b) (h7:t.mask=7) (h4:es.size<=4) (h8:∀ p ∈ t.place.toList,p < 8) {d:Nat} (hd:d < 9) (v:Value) :
  ∃ sl,sl < 8/\sl ∉ t.place.toList/\t.freeSlot (d:Int)=some (sl,false):=by
 have hm:=QA 8 4 t.place.toList h.ti.rs h8 (by have:=h.len;simp;omega)
 have hc:=A7.mp (A7.mp free7' _ hm) d (BN.mpr hd)
 have e:=xR t h.ti.dum (d:Int)
 rw[h7] at e
 rw[<- e] at hc
 cases hf:t.freeSlot (d:Int) with
 | none=>rw[hf] at hc;cases hc
 | some z=>
  obtain⟨sl,wd⟩:=z
  rw[hf] at hc
  obtain⟨h1,h2⟩:=xP h.ti hf
  exact⟨sl,Az hc,h2,by rw[h1]⟩
theorem lay31 {es:Array (Int×Value)} {t:SetTable} {b:Bool} (h:Dg es t b) (h31:t.mask=31) (h9:∀ p ∈ t.place.toList,p < 9) (hs:es.size<=9) {d:Nat} (hd:d < 9) (hn:d ∉ t.place.toList):t.freeSlot (d:Int)=some (d,false):=by
 have hm:=QA 9 9 t.place.toList h.ti.rs h9 (by have:=h.len;simp;omega)
 have hc:=A7.mp (A7.mp free31' _ hm) d (BN.mpr hd)
 have e:=xR t h.ti.dum (d:Int)
 rw[h31] at e
 rw[<- e] at hc
 rcases (Bool.or_eq_true _ _).mp hc with hc | hc
 ·exact absurd (by simpa using hc) hn
 ·exact eq_of_beq hc
structure Own (ds:List Nat) (owner:Array (Option Nat)) (k:Nat):Prop where
 size:owner.size=32
 own:∀ j i,owner.getD j none=some i ↔ (i < k/\ds[i]? = some j)
theorem bits_dig {d:Nat} (hd:d < 9):SetTable.bits (d:Int) % (31+1)=d:=by
 unfold SetTable.bits
 have e:((d:Int) % (2 ^ 64:Int))=(d:Int):=Int.emod_eq_of_lt (by omega) (by rw[show (2 ^ 64:Int)=18446744073709551616 from by decide];omega)
 rw[e,BW]
 omega
theorem free_own {ds:List Nat} {owner:Array (Option Nat)} {k d:Nat} (h:Own ds owner k) (hd:d < 9) (hn:∀ i,i < k->ds[i]? ≠ some d) (p:Nat):SetTable.layClean.free 31 owner (SetTable.turns 31) d p=some d:=by
 show SetTable.layClean.free 31 owner 46 d p=some d
 unfold SetTable.layClean.free
 have hr:SetTable.runEnd 31 d+1 - d=10:=by
  unfold SetTable.runEnd
  rw[if_pos (by omega)]
  omega
 rw[hr]
 have h0:(owner.getD (d+0) (some 0)).isNone=true:=by
  have h1:owner.getD d none=none:=by
   cases e:owner.getD d none with
   | none=>rfl
   | some i=>
    obtain⟨a,b⟩:=(h.own d i).mp e
    exact absurd b (hn i a)
  have hs:d < owner.size:=by rw[h.size];omega
  rw[Nat.add_zero]
  simp[Array.getD,hs] at h1 ⊢
  exact h1
 rw[show List.range 10=0 :: [1,2,3,4,5,6,7,8,9] from rfl,List.find?_cons_of_pos (p:=fun k=>(owner.getD (d+k) (some 0)).isNone) h0]
 rfl
theorem own_step {ds:List Nat} {owner:Array (Option Nat)} {k d:Nat} (h:Own ds owner k) (hd:d < 9) (hk:ds[k]? = some d) (hn:∀ i,i < k->ds[i]? ≠ some d):Own ds (owner.setIfInBounds d (some k)) (k+1):=by
 refine⟨by simp[h.size],fun j i=>?_⟩
 have hs:d < owner.size:=by rw[h.size];omega
 by_cases e:j=d
 ·subst e
  have e1:(owner.setIfInBounds j (some k)).getD j none=some k:=by simp[Array.getD,hs]
  rw[e1]
  constructor
  ·intro z
   cases z
   exact⟨BR _,hk⟩
  ·rintro⟨a,b⟩
   rcases Nat.lt_succ_iff_lt_or_eq.mp a with a | a
   ·exact absurd b (hn i a)
   ·rw[a]
 ·have e1:(owner.setIfInBounds d (some k)).getD j none=owner.getD j none:=by
   simp only[Array.getD_eq_getD_getElem?,Array.getElem?_setIfInBounds]
   rw[if_neg (fun z=>e z.symm)]
  rw[e1,h.own]
  constructor
  ·rintro⟨a,b⟩
   exact⟨BF a,b⟩
  ·rintro⟨a,b⟩
   rcases Nat.lt_succ_iff_lt_or_eq.mp a with a | a
   ·exact⟨a,b⟩
   ·subst a
    rw[hk] at b
    exact absurd (AL b).symm e
theorem xS {ds:List Nat} (hd:∀ d ∈ ds,d < 9) (nd:ds.Nodup):∃ owner,SetTable.layClean 31 (ds.map fun (d:Nat)=>(d:Int)).toArray=some owner/\Own ds owner ds.length:=by
 unfold SetTable.layClean
 rw[<- Array.foldl_toList]
 have key:∀ (r:List Nat) (pre:List Nat) (owner:Array (Option Nat)),ds=pre++r->Own ds owner pre.length ->
   ∃ owner',(r.map fun (d:Nat)=>(d:Int)).foldl (fun (acc:Option (Array (Option Nat)×Nat)) h=>do
    let (owner,k) <- acc
    let j <- SetTable.layClean.free 31 owner (SetTable.turns 31) (SetTable.bits h % (31+1)) (SetTable.bits h)
    pure (owner.setIfInBounds j (some k),k+1)) (some (owner,pre.length))=some (owner',ds.length)/\Own ds owner' ds.length:=by
  intro r
  induction r with
  | nil=>
   intro pre owner e ho
   rw[BY] at e
   rw[e] at ho ⊢
   exact⟨owner,rfl,ho⟩
  | cons d r ih=>
   intro pre owner e ho
   have hk:ds[pre.length]? = some d:=by rw[e];simp
   have hdd:d < 9:=hd d (by rw[e];simp)
   have hn:∀ i,i < pre.length->ds[i]? ≠ some d:=fun i hi z=>by
    have hk2:=hk
    have:=(List.getElem?_inj (AE.mp z).1 nd).mp (z.trans hk2.symm)
    omega
   have hs:=own_step ho hdd hk hn
   have hf:=free_own ho hdd hn (SetTable.bits (d:Int))
   rw[AQ,CO]
   have e2:(do
    let (owner,k) <- some (owner,pre.length)
    let j <- SetTable.layClean.free 31 owner (SetTable.turns 31) (SetTable.bits (d:Int) % (31+1)) (SetTable.bits (d:Int))
    pure (owner.setIfInBounds j (some k),k+1))=some (owner.setIfInBounds d (some pre.length),pre.length+1):=by
    show (SetTable.layClean.free 31 owner (SetTable.turns 31) (SetTable.bits (d:Int) % (31+1)) (SetTable.bits (d:Int)) >>= fun j=>some (owner.setIfInBounds j (some pre.length),pre.length+1))=_
    rw[bits_dig hdd,hf]
    rfl
   rw[e2]
   have:=ih (pre++[d]) (owner.setIfInBounds d (some pre.length)) (by rw[e];simp) (by rw[List.length_append];exact hs)
   rw[AI] at this
   exact this
 obtain⟨owner,e,ho⟩:=key ds [] (Array.replicate 32 none) rfl ⟨by simp,fun j i=>by
  constructor
  ·intro z
   exfalso
   by_cases hj:j < 32
   ·simp[Array.getD,hj] at z
   ·simp[Array.getD,hj] at z
  ·rintro⟨a,_⟩
   exact absurd a (BX _)⟩
 refine⟨owner,?_,ho⟩
 rw[show ((ds.map fun (d:Nat)=>(d:Int)).toArray).toList=ds.map fun (d:Nat)=>(d:Int) from rfl]
 exact Be (Option.map (·.1)) e
def qE (owner:Array (Option Nat)):List (Nat×Nat):=(List.range 32).filterMap fun j=>(owner.getD j none).map (j,·)
theorem Zi {ds:List Nat} {owner:Array (Option Nat)} (h:Own ds owner ds.length) (hd:∀ d ∈ ds,d < 9) {z:Nat×Nat}:z ∈ qE owner ↔ ds[z.2]? = some z.1:=by
 unfold qE
 rw[Cm]
 constructor
 ·rintro⟨j,hj,e⟩
  obtain⟨i,e1,rfl⟩:=Ac.mp e
  exact ((h.own j i).mp e1).2
 ·intro e
  have hi:=(AE.mp e).1
  have h9:=hd _ (AV e)
  refine⟨z.1,BN.mpr (by omega),?_⟩
  rw[(h.own z.1 z.2).mpr ⟨hi,e⟩]
  rfl
theorem xT (owner:Array (Option Nat)):((qE owner).map (·.1)).Pairwise (· < ·):=Wc (f:=fun j=>owner.getD j none) 32
theorem xU {ds:List Nat} {owner:Array (Option Nat)} (h:Own ds owner ds.length) (hd:∀ d ∈ ds,d < 9):List.Perm ((qE owner).map (·.2)) (List.range ds.length):=by
 have rs:=xT owner
 rw[Bw] at rs
 refine (List.perm_ext_iff_of_nodup ?_ List.nodup_range).mpr fun i=>?_
 ·unfold List.Nodup
  rw[Bw]
  refine C6 (fun {a b} ha hb hab e=>?_) rs
  have h1:=(Zi h hd).mp ha
  have h2:=(Zi h hd).mp hb
  rw[e,h2] at h1
  have:=AL h1
  omega
 ·rw[AS,BN]
  constructor
  ·rintro⟨z,hz,rfl⟩
   exact (AE.mp ((Zi h hd).mp hz)).1
  ·intro hi
   exact⟨(ds[i],i),(Zi h hd).mpr (AK hi),rfl⟩
theorem xV {es:Array (Int×Value)}:∀ (L:List Nat),(∀ i ∈ L,i < es.size)->L.filterMap (es[·]?)=L.map fun i=>es.getD i (0,.none)
 | [],_=>rfl
 | i :: L,h=>by
  have hi:=h i (AO ..)
  rw[CN,AQ,xV L fun k hk=>h k (AU _ hk)]
  simp[hi,Array.getD]
theorem xW {es:Array (Int×Value)} {t:SetTable} {b:Bool} {ds:List Nat} (ti:Zp t b) (hp:t.plain=true) (he:es.toList.map (·.1)=ds.map fun (d:Nat)=>(d:Int)) (hd:∀ d ∈ ds,d < 9) (nd:ds.Nodup) (h9:ds.length<=9) {w:Nat} (hw:SetTable.sizeAbove w=32) :
  Dg (relayAll t es w).1 (relayAll t es w).2.1 b/\List.Perm (relayAll t es w).1.toList es.toList:=by
 have hl:es.size=ds.length:=by
  have:=Be List.length he
  simpa using this
 obtain⟨owner,eo,ho⟩:=xS hd nd
 have eh:es.map (·.1)=(ds.map fun (d:Nat)=>(d:Int)).toArray:=by
  apply Array.toList_inj.mp
  rw[Array.toList_map]
  exact he
 have er:t.relaid (es.map (·.1)) w=some ({ mask:=31,place:=((qE owner).map (·.1)).toArray,dummies:=#[],finger:=t.finger,led:=t.led,moves:=t.movedTo 31,plain:=t.plain },((qE owner).map (·.2)).toArray):=by
  unfold SetTable.relaid SetTable.laid
  rw[hw,eh,eo]
  rfl
 have perm:=xU ho hd
 have ll:(qE owner).length=ds.length:=by
  have:=perm.length_eq
  rwa [AC,Av] at this
 have hin:∀ i ∈ (qE owner).map (·.2),i < es.size:=fun i hi=>by
  rw[hl]
  exact BN.mp (perm.mem_iff.mp hi)
 have efm:(((qE owner).map (·.2)).toArray.filterMap (es[·]?)).toList=((qE owner).map (·.2)).map fun i=>es.getD i (0,.none):=by
  rw[Array.toList_filterMap]
  exact xV _ hin
 have esz:(((qE owner).map (·.2)).toArray.filterMap (es[·]?)).size=ds.length:=by
  rw[<- Ad,efm,AC,AC,ll]
 have cov:coversAll ((qE owner).map (·.2)).toArray es.size=true:=by
  unfold coversAll
  rw[List.isPerm_iff,hl]
  exact perm
 have ra:relayAll t es w=(((qE owner).map (·.2)).toArray.filterMap (es[·]?),{ mask:=31,place:=((qE owner).map (·.1)).toArray,dummies:=#[],finger:=t.finger,led:=t.led,moves:=t.movedTo 31,plain:=t.plain },false):=by
  unfold relayAll
  rw[er]
  dsimp only
  rw[cov,esz]
  rw[if_pos]
  simp only[SetTable.fits,SetTable.fill,Bool.true_and,List.size_toArray,List.length_map,ll,Array.size_empty,Bool.and_eq_true,beq_iff_eq,decide_eq_true_eq]
  refine⟨trivial,?_⟩
  show _+0<=31
  omega
 have pm:=relayAll_perm t es w
 rw[ra] at pm ⊢
 refine⟨⟨⟨rfl,xT owner,ti.led⟩,hp,?_,.inr ⟨rfl,by rw[esz];exact h9,?_,fun p hp'=>?_⟩⟩,pm⟩
 ·show ((qE owner).map (·.1)).toArray.size=_
  rw[esz,Af,AC,ll]
 ·show (((qE owner).map (·.2)).toArray.filterMap (es[·]?)).toList.map (·.1)=((qE owner).map (·.1)).map fun (p:Nat)=>(p:Int)
  rw[efm,A2,A2,A2]
  refine DT fun z hz=>?_
  have hz':=(Zi ho hd).mp hz
  have hi:=(AE.mp hz').1
  have:(es.toList.map (·.1))[z.2]? = some ((z.1:Nat):Int):=by rw[he,AW,hz'];rfl
  rw[AW] at this
  obtain⟨y,hy,ey⟩:=Ac.mp this
  have hes:z.2 < es.size:=by omega
  show (es.getD z.2 (0,.none)).1=((z.1:Nat):Int)
  rw[<- ey]
  have:es[z.2]? = some y:=by simpa using hy
  simp[Array.getD,hes] at this ⊢
  rw[this]
 ·have hp'':p ∈ (qE owner).map (·.1):=by simpa using hp'
  obtain⟨z,hz,rfl⟩:=AS.mp hp''
  exact hd _ (AV ((Zi ho hd).mp hz))
structure DgE (es:Array (Int×Value)) (t:SetTable) (b:Bool) (ds:List Nat):Prop where
 dg:Dg es t b
 he:es.toList.map (·.1)=ds.map fun (d:Nat)=>(d:Int)
 hd:∀ d ∈ ds,d < 9
 nd:ds.Nodup
theorem DgE.len {es:Array (Int×Value)} {t:SetTable} {b:Bool} {ds:List Nat} (h:DgE es t b ds):es.size=ds.length:=by
 have:=Be List.length h.he
 simpa using this
theorem xX (b:Bool):DgE #[] (.fresh 0 0 b) b []:=⟨dg_fresh b,rfl,(fun d h=>by cases h),.nil⟩
theorem nine:∀ (m:Nat) (xs:List Nat),xs.Nodup->(∀ x ∈ xs,x < m)->xs.length<=m
 | 0,xs,_,h=>by
  cases xs with
  | nil=>exact AG _
  | cons x xs=>exact absurd (h x (AO ..)) (BX _)
 | m+1,xs,nd,h=>by
  have h1:=nine m (xs.erase m) (nd.erase m) fun x hx=>by
   have h2:=h x (List.mem_of_mem_erase hx)
   have h3:x ≠ m:=fun e=>by
    rw[e] at hx
    exact (List.Nodup.not_mem_erase nd) hx
   omega
  have h2:xs.length - 1<=(xs.erase m).length:=by
   rw[List.length_erase]
   split <;> omega
  omega
def addE (t:SetTable) (es:Array (Int×Value)) (x:Int) (v:Value):Array (Int×Value)×SetTable:=
 if (layNew t es x v).2.1.tooFull=true then ((relayAll (layNew t es x v).2.1 (layNew t es x v).1 (SetTable.grown (layNew t es x v).1.size)).1,(relayAll (layNew t es x v).2.1 (layNew t es x v).1 (SetTable.grown (layNew t es x v).1.size)).2.1) else ((layNew t es x v).1,(layNew t es x v).2.1)
theorem xY {t:SetTable} {es:Array (Int×Value)} {x:Int} {v:Value} {sl:Nat} {b:Bool} (h:Zp t b) (hl:t.place.size=es.size) (hf:t.freeSlot x=some (sl,false)) (hm:es.size+1<=t.mask) :
  layNew t es x v=(SetTable.insertAt es (SetTable.below t.place sl) (x,v),{ t with place:=SetTable.insertAt t.place (SetTable.below t.place sl) sl },false,false):=by
 have hp:(t.put sl)=({ t with place:=SetTable.insertAt t.place (SetTable.below t.place sl) sl },SetTable.below t.place sl):=by
  unfold SetTable.put
  rw[h.dum,WT]
  obtain⟨mask,place,dummies,finger,led,moves,plain⟩:=t
  have:=h.dum
  dsimp only at this
  subst this
  rfl
 have bl:=yG h.rs sl
 have s1:(SetTable.insertAt es (SetTable.below t.place sl) (x,v)).size=es.size+1:=QB _ _ _ (by omega)
 have s2:(SetTable.insertAt t.place (SetTable.below t.place sl) sl).size=es.size+1:=by rw[QB _ _ _ bl,hl]
 have fit:({ t with place:=SetTable.insertAt t.place (SetTable.below t.place sl) sl }:SetTable).fits (es.size+1)=true:=by
  unfold SetTable.fits SetTable.fill
  dsimp only
  rw[s2,h.dum]
  simp
  omega
 unfold layNew
 rw[hf]
 dsimp only
 rw[hp]
 dsimp only
 rw[s1]
 unfold SetTable.orStandIn
 rw[if_pos fit,fit]
 rfl
theorem ins_map {α β:Type} (f:α->β) (xs:Array α) (p:Nat) (x:α):(SetTable.insertAt xs p x).toList.map f=(xs.toList.map f).take p++f x :: (xs.toList.map f).drop p:=by
 rw[ZW,AM,AQ,Cb,DX]
theorem xZ {xs ys:List Nat} (h:List.Perm (xs.map fun (d:Nat)=>(d:Int)) (ys.map fun (d:Nat)=>(d:Int))):List.Perm xs ys:=by
 have:=h.map Int.toNat
 simpa [List.map_map,Function.comp_def] using this
theorem dig_add {es:Array (Int×Value)} {t:SetTable} {b:Bool} {ds:List Nat} (h:DgE es t b ds) {d:Nat} (hd9:d < 9) (hn:d ∉ ds) (v:Value) :
  (layNew t es (d:Int) v).2.2.1=false/\(layNew t es (d:Int) v).2.1.plain=true/\∃ ds',DgE (addE t es (d:Int) v).1 (addE t es (d:Int) v).2 b ds'/\List.Perm ds' (d :: ds):=by
 have hl:=h.dg.len
 have el:=h.len
 have n9:ds.length+1<=9:=nine 9 (d :: ds) (BA.mpr ⟨hn,h.nd⟩) (fun x hx=>by
  rcases AR.mp hx with rfl | hx
  ·exact hd9
  ·exact h.hd x hx)
 have perm:∀ p,List.Perm (ds.take p++d :: ds.drop p) (d :: ds):=fun p=>by
  refine Dv.trans ?_
  rw[DN]
 have good:∀ p,(∀ x ∈ ds.take p++d :: ds.drop p,x < 9)/\(ds.take p++d :: ds.drop p).Nodup:=fun p=>by
  refine⟨fun x hx=>?_,?_⟩
  ·rcases AR.mp ((perm p).mem_iff.mp hx) with rfl | hx
   ·exact hd9
   ·exact h.hd x hx
  ·exact (perm p).nodup_iff.mpr (BA.mpr ⟨hn,h.nd⟩)
 have main:∀ sl,t.freeSlot (d:Int)=some (sl,false)->es.size+1<=t.mask->sl ∉ t.place.toList ->
   Zp { t with place:=SetTable.insertAt t.place (SetTable.below t.place sl) sl } b/\(SetTable.insertAt es (SetTable.below t.place sl) ((d:Int),v)).toList.map (·.1)=(ds.take (SetTable.below t.place sl)++d :: ds.drop (SetTable.below t.place sl)).map (fun (d:Nat)=>(d:Int))/\(SetTable.insertAt es (SetTable.below t.place sl) ((d:Int),v)).size=es.size+1/\(SetTable.insertAt t.place (SetTable.below t.place sl) sl).size=es.size+1:=fun sl hf hm hs=>by
  have bl:=yG h.dg.ti.rs sl
  refine⟨⟨h.dg.ti.dum,JH h.dg.ti.rs hs,h.dg.ti.led⟩,?_,QB _ _ _ (by omega),by rw[QB _ _ _ bl,hl]⟩
  rw[ins_map,h.he,AM,AQ,Cb,DX]
 rcases h.dg.form with ⟨f7,f4,f8⟩ | ⟨f31,f9,fe,f99⟩
 ·obtain⟨sl,s8,hs,hf⟩:=lay7 h.dg f7 f4 f8 hd9 v
  have hm:es.size+1<=t.mask:=by omega
  have eL:=xY (v:=v) h.dg.ti hl hf hm
  obtain⟨ti',he',s1,s2⟩:=main sl hf hm hs
  obtain⟨g1,g2⟩:=good (SetTable.below t.place sl)
  have pp:=perm (SetTable.below t.place sl)
  generalize ds.take (SetTable.below t.place sl)++d :: ds.drop (SetTable.below t.place sl)=ds' at he' g1 g2 pp
  refine⟨by rw[eL],by rw[eL];exact h.dg.plain,?_⟩
  unfold addE
  rw[eL]
  dsimp only
  by_cases hfull:({ t with place:=SetTable.insertAt t.place (SetTable.below t.place sl) sl }:SetTable).tooFull=true
  ·rw[if_pos hfull]
   have h5:es.size+1=5:=by
    unfold SetTable.tooFull SetTable.fill at hfull
    dsimp only at hfull
    rw[s2,h.dg.ti.dum,f7] at hfull
    have:=Az hfull
    simp at this
    omega
   have hw:SetTable.sizeAbove (SetTable.grown (SetTable.insertAt es (SetTable.below t.place sl) ((d:Int),v)).size)=32:=by
    rw[s1,h5]
    decide
   have r:=xW (es:=SetTable.insertAt es (SetTable.below t.place sl) ((d:Int),v)) (t:={ t with place:=SetTable.insertAt t.place (SetTable.below t.place sl) sl }) (b:=b) ti' h.dg.plain he' g1 g2 (by rw[pp.length_eq];exact n9) hw
   obtain⟨r1,r2⟩:=r
   have rl:=r2.length_eq
   rw[Ad,Ad] at rl
   replace rl:=rl.trans s1
   rcases r1.form with ⟨_,q4,_⟩ | ⟨q1,q2,q3,q4⟩
   ·exfalso
    omega
   ·have pl:=r2.map Prod.fst
    have he2:=he'
    rw[show (fun (x:Int×Value)=>x.1)=Prod.fst from rfl] at q3 he2
    rw[q3,he2] at pl
    replace pl:=xZ pl
    refine⟨_,⟨r1,q3,q4,pl.nodup_iff.mpr g2⟩,pl.trans pp⟩
  ·rw[if_neg hfull]
   have h4:es.size+1<=4:=by
    unfold SetTable.tooFull SetTable.fill at hfull
    dsimp only at hfull
    rw[s2,h.dg.ti.dum,f7] at hfull
    simp at hfull
    omega
   refine⟨ds',⟨⟨ti',h.dg.plain,by dsimp only;rw[s1,s2],.inl ⟨f7,by dsimp only;rw[s1];exact h4,fun p hp=>?_⟩⟩,he',g1,g2⟩,pp⟩
   have hp':p ∈ (SetTable.insertAt t.place (SetTable.below t.place sl) sl).toList:=hp
   rw[ZW] at hp'
   rcases Aa.mp hp' with hp' | hp'
   ·exact f8 p (Bx hp')
   ·rcases AR.mp hp' with rfl | hp'
    ·exact s8
    ·exact f8 p (DR hp')
 ·have eds:ds=t.place.toList:=by
   have h1:=h.he.symm.trans fe
   exact List.map_inj_right (fun a b e=>by omega) |>.mp h1
  have hs:d ∉ t.place.toList:=eds ▸ hn
  have hf:=lay31 h.dg f31 f99 f9 hd9 hs
  have hm:es.size+1<=t.mask:=by omega
  have eL:=xY (v:=v) h.dg.ti hl hf hm
  obtain⟨ti',he',s1,s2⟩:=main d hf hm hs
  obtain⟨g1,g2⟩:=good (SetTable.below t.place d)
  have pp:=perm (SetTable.below t.place d)
  have ed':ds.take (SetTable.below t.place d)++d :: ds.drop (SetTable.below t.place d)=(SetTable.insertAt t.place (SetTable.below t.place d) d).toList:=by rw[ZW,eds]
  rw[ed'] at he' g1 g2 pp
  refine⟨by rw[eL],by rw[eL];exact h.dg.plain,_,?_,pp⟩
  unfold addE
  rw[eL]
  dsimp only
  have hfull:¬ ({ t with place:=SetTable.insertAt t.place (SetTable.below t.place d) d }:SetTable).tooFull=true:=by
   unfold SetTable.tooFull SetTable.fill
   dsimp only
   rw[s2,h.dg.ti.dum,f31]
   simp
   omega
  rw[if_neg hfull]
  exact⟨⟨ti',h.dg.plain,by dsimp only;rw[s1,s2],.inr ⟨f31,by dsimp only;rw[s1];omega,he',g1⟩⟩,he',g1,g2⟩
def DIs (b:Bool) (h:Heap) (a:Addr) (ds:List Nat):Prop:=
 ∃ o es ep t,h.get? a=some o/\o.ExactSet/\o.data=.set es ep t/\DgE es t b ds/\∀ e ∈ es.toList,∃ tk,e.2=Value.int e.1 tk
theorem DIs.keep {b:Bool} {h h':Heap} {a:Addr} {ds:List Nat} (x:DIs b h a ds) (k:∀ o,h.get? a=some o->h'.get? a=some o):DIs b h' a ds:=by
 obtain⟨o,es,ep,t,ho,r⟩:=x
 exact⟨o,es,ep,t,k o ho,r⟩
theorem Dg.fits {es:Array (Int×Value)} {t:SetTable} {b:Bool} (h:Dg es t b):t.fits es.size=true:=by
 unfold SetTable.fits SetTable.fill
 rw[h.len,h.ti.dum]
 simp
 rcases h.form with ⟨h1,h2,_⟩ | ⟨h1,h2,_⟩ <;> omega
theorem Dg.small {es:Array (Int×Value)} {t:SetTable} {b:Bool} (h:Dg es t b):es.size<=9:=by
 rcases h.form with ⟨h1,h2,_⟩ | ⟨h1,h2,_⟩ <;> omega
theorem J8:∀ d:Nat,d < 9->hashInt (d:Int)=(d:Int):=by decide
theorem DgE.mem {es:Array (Int×Value)} {t:SetTable} {b:Bool} {ds:List Nat} (h:DgE es t b ds) {e:Int×Value} (he:e ∈ es.toList):∃ d ∈ ds,e.1=(d:Int):=by
 have:=List.mem_map_of_mem (f:=fun (x:Int×Value)=>x.1) he
 rw[h.he] at this
 obtain⟨d,hd,e'⟩:=AS.mp this
 exact⟨d,hd,e'.symm⟩
theorem DgE.at {es:Array (Int×Value)} {t:SetTable} {b:Bool} {ds:List Nat} (h:DgE es t b ds) {d:Nat} (hd:d ∈ ds):∃ e ∈ es.toList,e.1=(d:Int):=by
 have:(d:Int) ∈ ds.map fun (d:Nat)=>(d:Int):=List.mem_map_of_mem hd
 rw[<- h.he] at this
 obtain⟨e,he,e'⟩:=AS.mp this
 exact⟨e,he,e'⟩
section
variable {prog : Program} {w : World} {A : Around} {E : Value -> Shared -> Prop} {s : Shared}
theorem Xa {es:Array (Int×Value)} {t:SetTable} {b:Bool} {ds:List Nat} (h:DgE es t b ds) (hv:∀ e ∈ es.toList,∃ tk,e.2=Value.int e.1 tk):ElemsOf (intKind prog w) es.toList:=fun e he=>by
 obtain⟨tk,ev⟩:=hv e he
 obtain⟨d,hd,e1⟩:=h.mem he
 rw[ev]
 refine⟨⟨e.1,by simp[intKind,Value.isInt],?_⟩,rfl⟩
 show e.1=hashInt e.1
 rw[e1,J8 d (h.hd d hd)]
theorem Wd {h:Heap} {a:Addr} {o:Obj} {es es':Array (Int×Value)} {ep:Nat} {t t':SetTable} {b:Bool} {ds':List Nat} (ho:h.get? a=some o) (hex:o.ExactSet) (hd:o.data=.set es ep t) (hg:DgE es' t' b ds') (hv:∀ e ∈ es'.toList,∃ tk,e.2=Value.int e.1 tk) :
  DIs b (h.update a (Obj.putSet es' t')) a ds':=by
 have hgt:(h.update a (Obj.putSet es' t')).get? a=some { o with data:=.set es' (ep+1) t' }:=by
  have:=Ae (Obj.putSet es' t') ho (by rw[Dr es' t' hd];rfl)
  rw[Dr es' t' hd] at this;exact this
 exact⟨_,es',ep+1,t',hgt,hex,rfl,hg,hv⟩
theorem setAddD {a:Addr} {ds:List Nat} {b:Bool} {d:Nat} {tk:Tok} {Q:Bool->Shared->Prop} (hS:DIs b s.heap a ds) (hd9:d < 9)
  (h:∀ h' ds',Heap.SameBut a s.heap h'->DIs b h' a ds'->List.Perm ds' (if d ∈ ds then ds else d :: ds)->Q (!decide (d ∈ ds)) { s with heap:=h' }) :
  wpAny (model prog w) A (setAddHashed a (.int (d:Int) tk) (hashInt (d:Int))) Q E s:=by
 obtain⟨o,es,ep,t,ho,hex,hd,hg,hv⟩:=hS
 have hf:=hg.dg.fits
 have hel:=Xa (prog:=prog) (w:=w) hg hv
 have hb:es.size < scanBound:=by have:=hg.dg.small;unfold scanBound;omega
 have hkey:(intKind prog w).is (d:Int) (.int (d:Int) tk)=true:=by simp[intKind,Value.isInt]
 unfold setAddHashed setAddHashedIn
 refine Ah (AA (Ak ho hd hf ?_))
 dsimp only
 rw[byScan_of (knd:=intKind prog w) rfl hb hel]
 simp only[↓reduceIte]
 unfold setAddByScan
 refine AA ?_
 refine AA (Ba ?_)
 refine AA (wpAny_setScan_of (knd:=intKind prog w) hkey ho hd hf hel ?_)
 cases hr:List.findIdx? (fun e=>(intKind prog w).is (d:Int) e.2) es.toList with
 | some j=>
  dsimp only
  obtain⟨hj,hpj,_⟩:=Dc.mp hr
  have hm:=Bc hj
  have hin:d ∈ ds:=by
   obtain⟨tk',ev⟩:=hv _ hm
   obtain⟨d',hd',e1⟩:=hg.mem hm
   rw[ev] at hpj
   have:es.toList[j].1=(d:Int):=by
    simp[intKind,Value.isInt] at hpj
    exact hpj
   rw[e1] at this
   rwa [show d'=d by omega] at hd'
  refine AB (AB ?_)
  have e:s = { s with heap:=s.heap }:=by cases s;rfl
  have:=h s.heap ds (Heap.SameBut.refl a s.heap) ⟨o,es,ep,t,ho,hex,hd,hg,hv⟩ (by rw[if_pos hin])
  rw[BV hin] at this;rw[e];exact this
 | none=>
  dsimp only
  have hin:d ∉ ds:=fun hin=>by
   obtain⟨e,he,e1⟩:=hg.at hin
   obtain⟨tk',ev⟩:=hv e he
   have:=List.findIdx?_eq_none_iff.mp hr e he
   rw[ev,e1] at this
   simp[intKind,Value.isInt] at this
  have hgw:∀ (b:Bool) {s₁:Shared} {Q':Unit->Shared->Prop},Q' () s₁->wpAny (model prog w) A (match b with | true=>rule "set.scan.the-table-gave-way" | false=>pure ()) Q' E s₁:=
   fun b s₁ Q' hq=>by cases b <;> first | exact AB hq | exact Ba hq
  have eh:(intKind prog w).hash (d:Int)=(d:Int):=J8 d hd9
  have eh':hashInt (d:Int)=(d:Int):=J8 d hd9
  obtain⟨a1,a2,ds',a3,a4⟩:=dig_add hg hd9 hin (.int (d:Int) tk)
  have hperm:=layNew_perm t es (d:Int) (.int (d:Int) tk)
  unfold addE at a3
  rw[show (intKind prog w).hash (d:Int)=(d:Int) from eh] at *
  try rw[eh']
  generalize hL:layNew t es (d:Int) (.int (d:Int) tk)=L at a1 a2 a3 hperm ⊢
  obtain⟨es1,t1,wasDummy,gave⟩:=L
  dsimp only at a1 a2 a3 hperm ⊢
  subst a1
  rw[Dq] at hperm
  have hv1:∀ e ∈ es1.toList,∃ tk,e.2=Value.int e.1 tk:=fun e he=>by
   rcases Aa.mp (hperm.mem_iff.mp he) with he | he
   ·exact hv e he
   ·rw[AF.mp he]
    exact⟨tk,rfl⟩
  have s1:es1.size=es.size+1:=by
   rw[<- Ad,hperm.length_eq,AI,Ad]
   rfl
  have hsm:=hg.dg.small
  have hb1:es1.size < scanBound:=by unfold scanBound;omega
  have pp:List.Perm ds' (if d ∈ ds then ds else d :: ds):=by rw[if_neg hin];exact a4
  have fin:∀ h',Heap.SameBut a s.heap h'->DIs b h' a ds'->Q true { s with heap:=h' }:=fun h' z1 z2=>by
   have:=h h' ds' z1 z2 pp
   rw[Ay hin] at this
   exact this
  refine AA (hgw _ ?_)
  rw[if_pos a2]
  refine AA ?_
  rw[hashByValue_scannable 8 rfl]
  refine AB ?_
  simp only[plainKind,↓reduceIte,Bool.not_false,Bool.true_and]
  have hgt:(s.heap.update a (Obj.putSet es1 t1)).get? a=some { o with data:=.set es1 (ep+1) t1 }:=by
   have:=Ae (Obj.putSet es1 t1) ho (by rw[Dr es1 t1 hd];rfl)
   rw[Dr es1 t1 hd] at this;exact this
  have hsb1:=As s.heap a (Obj.putSet es1 t1)
  refine AA (DF ho hd ?_ (B4 hb1))
  by_cases hfull:t1.tooFull=true
  ·rw[if_pos hfull] at a3 ⊢
   have hp:=relayAll_perm t1 es1 (SetTable.grown es1.size)
   generalize hRl:relayAll t1 es1 (SetTable.grown es1.size)=Rl at hp a3 ⊢
   obtain⟨es2,t3,gave2⟩:=Rl
   dsimp only at hp a3 ⊢
   refine AA (hgw _ ?_)
   have hb2:es2.size < scanBound:=by have:=a3.dg.small;unfold scanBound;omega
   refine AA (DF hgt rfl ?_ (B4 hb2))
   exact AB (AB (fin _ (hsb1.trans (As _ a _)) (Wd hgt hex rfl a3 fun e he=>hv1 e (hp.mem_iff.mp he))))
  ·rw[if_neg hfull] at a3 ⊢
   exact AB (AB (fin _ hsb1 (Wd ho hex hd a3 hv1)))
end
abbrev zZ (w:World):Bool:=w.params.followText "set-order"
section
variable {prog : Program} {w : World} {A : Around} {E : Value -> Shared -> Prop} {s : Shared}
theorem ZX (a:Value) {Q₁:Value->Shared->Prop}
  (h:Q₁ (.ref s.heap.objs.size) { s with heap:=s.heap.push { cls:=.type "set",dict:=none,data:=.set #[] 0 (.fresh 0 0 (!zZ w)) } }) :
  codeAny (model prog w) A (.call (.builtin "set.__new__") ⟨[.type "set",a],[]⟩) (wants Q₁ E) s:=by
 refine DW ?_
 show wpAny _ A.in1 (do checkBuiltinCall "set.__new__" ⟨[.type "set",a],[]⟩;again (.builtin "set.__new__" ⟨[.type "set",a],[]⟩)) _ _ s
 refine AA (A3 (PySem.F.newCall_set_1 a) (AB ⟨BQ PySem.F.plain_set_new _,Ax PySem.F.entry_set_new ?_⟩))
 rw[Au PySem.F.plain_set_new _]
 unfold Builtin.«set.__new__» Builtin.Frozenset.newClass
 have hsub:=sub_set_self
 obtain⟨hp,g,d,tk,os⟩:=s
 dsimp only
 wp_walk
 refine BU (AB ?_)
 dsimp only
 simp only[newObj]
 refine AA (wpAny_alloc (AB ?_))
 exact AB h
theorem Xb {R:Result->Shared->Prop} {J l a:Addr} {items:Array Value} {ys:List Nat} {bb:Bool} (hh:A.in1.handled=none) (hJ:l ≠ J) (aJ:a ≠ J) (al:a ≠ l) (hv:∀ (i:Nat) (v:Value),items[i]? = some v->∃ t,v=.int ((ys.getD i 0:Nat):Int) t) (hn:items.size=ys.length) (hb:∀ y ∈ ys,y < 9) :
  ∀ (k i:Nat) (s:Shared) (ds:List Nat),ys.length - i=k->i<=ys.length->s.heap.IsListIter J l i->s.heap.IsList l items->DIs bb s.heap a ds->(∀ d,d ∈ ds ↔ d ∈ ys.take i) ->
   (∀ h' tk ds',(∀ b o,b ≠ a->b ≠ J->s.heap.get? b=some o->h'.get? b=some o)->DIs bb h' a ds'->(∀ d,d ∈ ds' ↔ d ∈ ys)->R (.ok (.ret .none)) { s with heap:=h',toks:=tk }) ->
   codeAny (model prog w) A (.builtin "set.update.loop" ⟨[.ref a,.ref J],[]⟩) R s:=by
 intro k
 induction k with
 | zero=>
  intro i s ds hk hi h1 h2 h3 hds hR
  have e:i=ys.length:=by omega
  subst e
  refine Ax Bi ?_
  rw[Au A5 _]
  show wpAny _ A.in1 (pyNext (.ref J) >>= _) _ _ s
  refine AA (CF hh h1 h2 (by first | omega | (simp;omega)) fun h' eb=>?_)
  show wpAny _ A.in1 (ret Value.none) _ _ _
  rw[Aq] at hds
  exact AB (hR h' s.toks ds (fun b o _ nb e=>eb b o nb e) (h3.keep fun o e=>eb a o aJ e) hds)
 | succ k ih=>
  intro i s ds hk hi h1 h2 h3 hds hR
  have hlt:i < ys.length:=by omega
  refine Ax Bi ?_
  rw[Au A5 _]
  show wpAny _ A.in1 (pyNext (.ref J) >>= _) _ _ s
  have hi2:items[i]? = some (items[i]'(by omega)):=by simp[show i < items.size by omega]
  refine AA (CB h1 h2 hi2 fun h' h1' sb=>?_)
  obtain⟨t,et⟩:=hv i _ hi2
  rw[et]
  have h3':DIs bb h' a ds:=h3.keep fun o e=>(sb.2 a aJ).trans e
  show wpAny _ A.in1 (holding [Value.int ((ys.getD i 0:Nat):Int) t] (setAdd a (.int ((ys.getD i 0:Nat):Int) t)) >>= _) _ _ _
  refine AA (Ah ?_)
  unfold setAdd
  have is1:(PySem.intKind prog w).is ((ys.getD i 0:Nat):Int) (.int ((ys.getD i 0:Nat):Int) t)=true:=by
   simp[PySem.intKind,Value.isInt]
  refine Ah (AA ((PySem.intKind prog w).pyHash (k:=((ys.getD i 0:Nat):Int)) is1 ?_))
  have ey:ys[i]? = some (ys.getD i 0):=by simp[List.getD,hlt]
  have e1:ys.take (i+1)=ys.take i++[ys.getD i 0]:=by rw[Dj,ey];rfl
  refine setAddD (s:={ s with heap:=h',toks:=s.toks+1 }) h3' (hb _ (AV ey)) fun h'' ds' sb2 h4 pm=>?_
  have hds':∀ d,d ∈ ds' ↔ d ∈ ys.take (i+1):=fun d=>by
   rw[pm.mem_iff,e1,Aa,AF,<- hds d]
   split
   ·rename_i hc
    constructor
    ·exact .inl
    ·rintro (z | rfl)
     ·exact z
     ·exact hc
   ·rw[AR]
    exact Or.comm
  refine AB ⟨BQ A5 _,ih (i+1) { s with heap:=h'',toks:=s.toks+1 } ds' (by omega) hlt ?_ ?_ h4 hds' fun h6 tk ds6 k6 s6 m6=>hR h6 tk ds6 (fun b o na nJ e=>k6 b o na nJ ((sb2.2 b na).trans ((sb.2 b nJ).trans e))) s6 m6⟩
  ·obtain⟨o,q1,q2⟩:=h1'
   exact⟨o,(sb2.2 J (Am aJ)).trans q1,q2⟩
  ·obtain⟨o,q1,q2⟩:=h2
   exact⟨o,(sb2.2 l (Am al)).trans ((sb.2 l hJ).trans q1),q2⟩
theorem Xc {l:Addr} {items:Array Value} {ys:List Nat} {Q:Value->Shared->Prop} (hh:A.handled=none) (hl:s.heap.IsList l items) (hi:∀ (i:Nat) (v:Value),items[i]? = some v->∃ t,v=.int ((ys.getD i 0:Nat):Int) t) (hn:items.size=ys.length) (hb:∀ y ∈ ys,y < 9)
  (h:∀ h' tk ds,DIs (!zZ w) h' s.heap.objs.size ds->(∀ d,d ∈ ds ↔ d ∈ ys)->(∀ b o,b < s.heap.objs.size->s.heap.get? b=some o->h'.get? b=some o)->Q (.ref s.heap.objs.size) { s with heap:=h',toks:=tk }) :
  wpAny (model prog w) A (call (.type "set") [.ref l]) Q E s:=by
 obtain⟨c0,tl0,hmro⟩:=Ao.mro
 have made:=Ao.made;have subs:=Ao.sub
 have nt:=Ao.notType;have cc:=Ao.canCreate;have tcall:=PySem.F.typeCall_set_1 (.ref l)
 refine B7 (DW ?_)
 show wpAny _ _ (callAny (.type "set") ⟨[.ref l],[]⟩) _ _ _
 refine AB ⟨CY _ (by decide +kernel),Ax PySem.F.entry_type_call ?_⟩
 rw[Around.under_plain (weight_type_call_type "set" [.ref l] []) rfl]
 repeat (any_goals (first | assumption | wp_step))
 refine Bf (ZX (.ref l) (E:=E) (Q₁:=fun v s1=>∃ b:Bool,b=(!zZ w)/\v=.ref s.heap.objs.size/\s1 = { s with heap:=s.heap.push (zU b) }) ⟨_,rfl,rfl,rfl⟩) fun r s1 hr=>?_
 match r,hr with
 | .error e,hr=>exact hr
 | .ok (.ret v),hr=>
  obtain⟨b,eb,ev,es⟩:=hr
  subst ev es
  have at0:(s.heap.push (zU b)).get? s.heap.objs.size=some (zU b):=AH _ rfl
  have ty0:Shared.TypeIs { s with heap:=s.heap.push (zU b) } (.ref s.heap.objs.size) "set":=⟨_,at0,rfl⟩
  have il:=Ao.init.lookup
  have ib:=Ao.init.bind (.ref s.heap.objs.size)
  repeat (any_goals (first | assumption | wp_step))
  refine Bf (Bh (R:=wants (fun r s2=>r=.none/\∃ h' tk ds,s2 = { s with heap:=h',toks:=tk }/\DIs (!zZ w) h' s.heap.objs.size ds/\(∀ d,d ∈ ds ↔ d ∈ ys)/\∀ b o,b < s.heap.objs.size->s.heap.get? b=some o->h'.get? b=some o) E) Ao.init.plain PySem.F.entry_set_init (check_set_init_1 ty0 ?_)) fun r2 s2 hr2=>?_
  ·obtain⟨⟨oc,od,odt,osl⟩,hol,hcl,nl,hdl⟩:=id hl
   have hcl':oc=_:=hcl;have hdl':odt=_:=hdl
   subst hcl' hdl'
   have hol1:(s.heap.push (zU b)).get? l=some { cls:=.type "list",dict:=od,data:=.seq items nl,slots:=osl }:=AD _ hol
   have n1:=PySem.F.sub_list_set;have n2:=D9
   have n3:(Value.type "list" == Value.type "dict")=false:=by decide
   have hl1:(s.heap.push (zU b)).IsList l items:=⟨_,hol1,rfl,nl,rfl⟩
   have lS:l < s.heap.objs.size:=AJ hol
   have jS:(s.heap.push (zU b)).objs.size=s.heap.objs.size+1:=Bb ..
   unfold Builtin.«set.__init__» noKeywords Builtin.Frozenset.updateFrom
   generalize ePI:pyIter=PI
   wp_walk
   subst ePI
   refine B3 hl1 (AA (Df ?_))
   refine Xb (bb:=!zZ w) (J:=(s.heap.push (zU b)).objs.size) (l:=l) (a:=s.heap.objs.size) (items:=items) (ys:=ys) (by simp[hh]) (AN (by rw[jS];exact BF lS)) (AN (by rw[jS];exact BR _)) (BE lS) hi hn hb (ys.length - 0) 0 _ [] rfl (A0 _) ⟨_,AH _ rfl,rfl,rfl⟩ (hl1.push _) ?_ (fun d=>by simp) fun h' tk ds hk hS hm=>?_
   ·exact⟨_,#[],0,.fresh 0 0 b,AD _ at0,⟨rfl,rfl,rfl⟩,rfl,eb ▸ xX b,fun e he=>by cases he⟩
   ·show wpAny _ _ _ _ _ _
    refine AB ?_
    show wpAny _ _ (ret Value.none) _ _ _
    refine AB ⟨rfl,h',tk,ds,rfl,hS,hm,fun c o hc e=>hk c o (AN hc) (AN (by rw[jS];exact BF hc)) (AD _ (AD _ e))⟩
  ·match r2,hr2 with
   | .error e,hr2=>exact hr2
   | .ok (.ret v),hr2=>
    obtain⟨ev,h',tk,ds,es,hS,hm,hk⟩:=hr2
    subst ev es
    repeat (any_goals (first | assumption | wp_step))
    exact h _ _ _ hS hm hk
   | .ok .next,hr2=>exact hr2.elim
   | .ok .brk,hr2=>exact hr2.elim
   | .ok .cont,hr2=>exact hr2.elim
 | .ok .next,hr=>exact hr.elim
 | .ok .brk,hr=>exact hr.elim
 | .ok .cont,hr=>exact hr.elim
end
theorem Xd {α:Type} (next:Nat->Nat):∀ (fuel k:Nat) (left:List α) (out:Array α),left.length=fuel->List.Perm (pickOrder.go next fuel k left out).toList (out.toList++left)
 | 0,k,left,out,h=>by
  unfold pickOrder.go
  rw[CQ.mp h,BY]
 | fuel+1,k,left,out,h=>by
  unfold pickOrder.go
  have hlt:next k % left.length < left.length:=Nat.mod_lt _ (by omega)
  rw[AK hlt]
  dsimp only
  refine (Xd next fuel (k+1) _ _ (by rw[List.length_eraseIdx,if_pos hlt,h];rfl)).trans ?_
  rw[Dq,Cy]
  refine List.Perm.append_left _ ?_
  generalize next k % left.length=i at hlt
  rw[Ds]
  show List.Perm (left[i] :: (left.take i++left.drop (i+1))) left
  refine Dv.symm.trans ?_
  rw[<- CK hlt,DN]
theorem Xe {α:Type} (next:Nat->Nat) (xs:Array α):List.Perm (pickOrder next xs).toList xs.toList:=by
 have:=Xd next xs.size 0 xs.toList #[] (by simp)
 simpa [pickOrder] using this
theorem zn:Slot "set_iterator" "__next__" "set_iterator.__next__":=
 .of (owner := "set_iterator") (n := "__next__") (by rw[CU,By];kernel_rfl) (by decide +kernel) (by decide +kernel) (by decide +kernel)
  (by first | exact .inl (by decide +kernel) | exact .inr (by decide +kernel)) (by rw[Bg];kernel_rfl)
theorem zV:entryFor table "set_iterator.__next__" = some Builtin.«set_iterator.__next__»:=entryFor_of_tree (by kernel_rfl)
theorem qa (a:Value):argsOk "set_iterator.__next__" ⟨[a],[]⟩:=by
 unfold argsOk;kernel_rfl
theorem qJ:Slot "set_iterator" "__iter__" "set_iterator.__iter__":=
 .of (owner := "set_iterator") (n := "__iter__") (by rw[CU,By];kernel_rfl) (by decide +kernel) (by decide +kernel) (by decide +kernel)
  (by first | exact .inl (by decide +kernel) | exact .inr (by decide +kernel)) (by rw[Bg];kernel_rfl)
theorem j9:entryFor table "set_iterator.__iter__" = some Builtin.«dict_keyiterator.__iter__»:=entryFor_alias (id' := "dict_keyiterator.__iter__") (by kernel_rfl) rfl (by decide +kernel) (by kernel_rfl)
theorem Zq (a:Value):argsOk "set_iterator.__iter__" ⟨[a],[]⟩:=by
 unfold argsOk;kernel_rfl
theorem je:entryFor table "set.__iter__" = some Builtin.«frozenset.__iter__»:=entryFor_alias (id' := "frozenset.__iter__") (by kernel_rfl) rfl (by decide +kernel) (by kernel_rfl)
def QR (w:World) (a:Addr) (es:Array (Int×Value)) (ep:Nat):Array (Int×Value):=if zZ w=true then pickOrder (w.params.setOrder a ep) es else es
theorem QS (w:World) (a:Addr) (es:Array (Int×Value)) (ep:Nat):List.Perm (QR w a es ep).toList es.toList:=by
 unfold QR
 split
 ·exact Xe _ _
 ·exact .refl _
theorem qN (w:World) (a:Addr) (es:Array (Int×Value)) (ep:Nat):(QR w a es ep).size=es.size:=by
 have:=(QS w a es ep).length_eq
 simpa using this
def jA (w:World) (t:SetTable):Nat->Nat
 | 0=>0
 | i+1=>if zZ w=true then 0 else t.place.getD i 0+1
theorem We {w:World} {t:SetTable} (h:zZ w=true):∀ i,jA w t i=0
 | 0=>rfl
 | i+1=>if_pos h
theorem ZY {w:World} {t:SetTable} (h:zZ w=false) (i:Nat):jA w t (i+1)=t.place.getD i 0+1:=if_neg (by rw[h];simp)
def ZZ (h:Heap) (I a:Addr) (sl i n ep:Nat):Prop:=∃ o,h.get? I=some o/\o.cls=.type "set_iterator" /\ o.data=.fields #[.int (sl:Nat) 0,.int (i:Nat) 0,.ref a,.int (n:Nat) 0,.int (ep:Nat) 0]
theorem ZZ.typeIs {s:Shared} {I a:Addr} {sl i n ep:Nat} (x:ZZ s.heap I a sl i n ep):s.TypeIs (.ref I) "set_iterator":=let ⟨o,ho,hc,_⟩:=x;⟨o,ho,hc⟩
def DAt (b:Bool) (h:Heap) (a:Addr) (es:Array (Int×Value)) (ep:Nat) (t:SetTable):Prop:=∃ o,h.get? a=some o/\o.ExactSet/\o.data=.set es ep t/\Dg es t b
section
variable {prog : Program} {w : World} {A : Around} {E : Value -> Shared -> Prop} {s : Shared} {a I : Addr} {es : Array (Int × Value)} {ep : Nat} {t : SetTable}
theorem Z9 {Q:Value->Shared->Prop} (hd:DAt (!zZ w) s.heap a es ep t)
  (hQ:Q (.ref s.heap.objs.size) { s with heap:=s.heap.push { cls:=.type "set_iterator",data:=.fields #[.int (0:Nat) 0,.int (0:Nat) 0,.ref a,.int (es.size:Nat) 0,.int (ep:Nat) 0] } }) :
  wpAny (model prog w) A (pyIter (.ref a)) Q E s:=by
 obtain⟨o,ho,hx,hdat,hg⟩:=hd
 have hf:=hg.fits
 have hT:s.TypeIs (.ref a) "set":=⟨o,ho,hx.1⟩
 refine CH hT Bm (An Bm hT je ?_ (C9 _))
 unfold Builtin.«frozenset.__iter__» Builtin.Frozenset.slot0
 refine AA (AA (AB ?_))
 refine AB ?_
 unfold Builtin.Frozenset.sizeOf setEntries
 refine AA (AA (AA (Ak ho hdat hf (AB (AB ?_)))))
 unfold setDrawn setsByText
 refine AA (AA (Ak ho hdat hf ?_))
 refine AA (AA (BU (AB (AB ?_))))
 refine Ar (fun hab=>absurd (show (!(zZ w) && (!t.plain && decide (es.size > 1)))=true from hab) (by rw[hg.plain];simp)) (fun _=>AA (AB ?_))
 refine AA (D7 ho hdat hf ?_)
 refine AA (Aj ?_)
 exact AB ⟨_,rfl, "set_iterator",_,⟨_,AH _ rfl,rfl⟩,zn.lookup,hQ⟩
theorem JK {xs:Array Nat} (hr:Rs xs):SetTable.below xs 0=0:=by
 rw[ZV hr]
 unfold JF
 rw[List.filter_eq_nil_iff.mpr fun x _=>by simp]
 rfl
theorem Yo {b:Bool} (hg:Dg es t b) (ht:zZ w=false):∀ (i:Nat),i<=t.place.size->SetTable.below t.place (jA w t i)=i
 | 0,_=>JK hg.ti.rs
 | i+1,hi=>by
  rw[ZY ht]
  exact JG hg.ti.rs (by simp[Array.getD,show i < t.place.size by omega])
theorem yH {Q:Option (Value×Nat)->Shared->Prop} {i:Nat} (hi:i<=es.size) (hd:DAt (!zZ w) s.heap a es ep t)
  (hQ:Q ((QR w a es ep)[i]?.map fun e=>(e.2,jA w t (i+1))) s) :
  wpAny (model prog w) A (setNext a (jA w t i) i ep) Q E s:=by
 obtain⟨o,ho,hx,hdat,hg⟩:=id hd
 have hf:=hg.fits
 unfold setNext setsByText
 refine AA (Ak ho hdat hf ?_)
 refine AA (AA (BU (AB ?_)))
 refine Ar (fun hab=>?_) (fun hab=>?_)
 ·have ht:zZ w=true:=hab
  rw[if_neg (by simp)]
  unfold setWalk setsByText
  refine AA (AA (Ak ho hdat hf ?_))
  refine AA (AA (BU (AB ?_)))
  refine Ar (fun _=>?_) (fun hn=>absurd hab hn)
  refine AA (BU (AB (AB ?_)))
  rw[We ht] at hQ ⊢
  unfold QR at hQ
  rw[if_pos ht] at hQ
  exact hQ
 ·have ht:zZ w=false:=Cz.mpr hab
  refine Ar (fun hdr=>absurd (show (!t.plain && decide (es.size > 1))=true from hdr) (by rw[hg.plain];simp)) (fun _=>?_)
  have hled:t.led=true:=by rw[hg.ti.led,ht];rfl
  show wpAny _ _ (_ >>= _) _ _ _
  refine AA (A3 (a:=()) (show (if (!t.led && !es.isEmpty)=true then (unsupported "set:maker-not-led" : Sem Unit) else pure ())=pure () by rw[hled];rfl) ?_)
  refine AB ?_
  rw[Yo hg ht i (by rw[hg.len];exact hi)]
  unfold QR at hQ
  rw[if_neg (by rw[ht];simp),ZY ht] at hQ
  by_cases hlt:i < es.size
  ·have e1:es[i]? = some es[i]:=by simp[hlt]
   have hlt':i < t.place.size:=by rw[hg.len];exact hlt
   have e2:t.place[i]? = some (t.place.getD i 0):=by simp[Array.getD,hlt']
   rw[e1] at hQ ⊢
   rw[e2]
   exact hQ
  ·have e1:es[i]? = none:=Bj (by omega)
   rw[e1] at hQ ⊢
   exact hQ
theorem Qr {Q:Option Value->Shared->Prop} {i:Nat} {e:Int×Value} (hit:ZZ s.heap I a (jA w t i) i es.size ep) (hd:DAt (!zZ w) s.heap a es ep t) (he:(QR w a es ep)[i]? = some e)
  (hQ:∀ h',ZZ h' I a (jA w t (i+1)) (i+1) es.size ep->Heap.SameBut I s.heap h'->Q (some e.2) { s with heap:=h' }) :
  wpAny (model prog w) A (pyNext (.ref I)) Q E s:=by
 obtain⟨oI,hoI,hcI,hdI⟩:=id hit
 obtain⟨o,ho,hx,hdat,hg⟩:=id hd
 have hf:=hg.fits
 unfold pyNext
 refine AA (BI (wpAny_callSpecial?_slot (name:=Str.ofString "__next__") hit.typeIs zn
  (An zn hit.typeIs zV ?_ (qa _))))
 unfold Builtin.«set_iterator.__next__»
 refine AA (AB ?_)
 refine AA (Cd hoI hdI ?_)
 dsimp only
 unfold setEntries
 refine AA (AA (Ak ho hdat hf (AB ?_)))
 rw[if_neg (by simp)]
 have hi:i < es.size:=by
  have:=(Bl.mp he).1
  rwa [qN] at this
 simp only[Int.toNat_natCast]
 refine AA (yH (B8 hi) hd ?_)
 rw[he]
 dsimp only[Option.map_some]
 refine AA (BP hoI hdI (by simp) ?_)
 have h1:=Ae (Obj.mapFields (·.setIfInBounds 0 (rawInt ((jA w t (i+1):Nat):Int)))) hoI (BO (Ap hdI _))
 have d1:=Ap hdI (·.setIfInBounds 0 (rawInt ((jA w t (i+1):Nat):Int)))
 refine AA (BP h1 d1 (by simp) ?_)
 refine AB ⟨_,rfl,AB (hQ _ ⟨_,Ae _ h1 (BO (Ap d1 _)),?_,?_⟩ ((As ..).trans (As ..)))⟩
 ·rw[CJ,CJ]
  exact hcI
 ·rw[Ap d1]
  simp[rawInt]
theorem QT {Q:Option Value->Shared->Prop} (hh:A.handled=none) (hit:ZZ s.heap I a (jA w t es.size) es.size es.size ep) (hd:DAt (!zZ w) s.heap a es ep t)
  (hQ:∀ h',Heap.ExtBut I s.heap h'->Q none { s with heap:=h' }) :
  wpAny (model prog w) A (pyNext (.ref I)) Q E s:=by
 obtain⟨oI,hoI,hcI,hdI⟩:=id hit
 obtain⟨o,ho,hx,hdat,hg⟩:=id hd
 have hf:=hg.fits
 unfold pyNext
 refine AA (BI (wpAny_callSpecial?_slot (name:=Str.ofString "__next__") hit.typeIs zn
  (An zn hit.typeIs zV ?_ (qa _))))
 unfold Builtin.«set_iterator.__next__»
 refine AA (AB ?_)
 refine AA (Cd hoI hdI ?_)
 dsimp only
 unfold setEntries
 refine AA (AA (Ak ho hdat hf (AB ?_)))
 rw[if_neg (by simp)]
 simp only[Int.toNat_natCast]
 refine AA (yH (AG _) hd ?_)
 rw[Bj (by rw[qN];exact AG _)]
 dsimp only[Option.map_none]
 refine AA (BP hoI hdI (by simp) ?_)
 show wpAny _ _ (newExc (.type "StopIteration") [] >>= _) _ _ _
 refine AA ?_
 simp only[newExc,newTuple]
 refine AA (Aj ?_ (by size_fits))
 refine AA (m:=firstArgMember _ _) (A3 (a:=Value.none) (by first | rfl | (simp only[firstArgMember];rfl)) ?_)
 refine Aj ?_ (by size_fits)
 simp only[raiseNew]
 refine AA (DM ?_)
 rw[show A.in1.handled=none from hh]
 refine AA (AB (De ?_))
 refine AA (Br (T := "StopIteration") (b:=true) ⟨_,AH _ rfl,rfl⟩ Dh ?_)
 exact AB (hQ _ (((As ..).extBut.push _).push _))
end
open PySem PySem.Spec PyProof.Rows PySem.W
section
variable {prog : Program} {w : World} {A : Around} {E : Value -> Shared -> Prop} {s : Shared} {a : Addr} {es : Array (Int × Value)} {ep : Nat} {t : SetTable}
theorem QU {Q:Bool->Shared->Prop} (hT:s.TypeIs (.ref a) "set") (h:Q false s):wpAny (model prog w) A (Builtin.List.listLengthHint (.ref a)) Q E s:=by
 unfold Builtin.List.listLengthHint
 refine AA (B2 hT PySem.F.slot_set_len.lookup ?_)
 generalize hid:("set.__len__" : String)=id0
 wp_delta
 rw[show splitId id0=some ("set", "__len__") from by subst hid;decide +kernel]
 subst hid
 refine AA (Br (T := "set") (b:=true) hT (by rw[Bg];kernel_rfl) ?_)
 refine Ar (fun hab=>absurd hab (by decide)) (fun _=>?_)
 refine Ar (fun _=>?_) (fun hab=>absurd (by decide +kernel) hab)
 refine AA (Bp hT ?_)
 exact AB h
theorem DAt.keep {b:Bool} {h h':Heap} (x:DAt b h a es ep t) (k:∀ o,h.get? a=some o->h'.get? a=some o):DAt b h' a es ep t:=let ⟨o,ho,r⟩:=x;⟨o,k o ho,r⟩
theorem ZZ.keep {h h':Heap} {I a:Addr} {sl i n ep:Nat} (x:ZZ h I a sl i n ep) (k:∀ o,h.get? I=some o->h'.get? I=some o):ZZ h' I a sl i n ep:=let ⟨o,ho,r⟩:=x;⟨o,k o ho,r⟩
theorem QV {Q:Value->Shared->Prop} {I a:Addr} {sl i n ep:Nat} (hit:ZZ s.heap I a sl i n ep) (h:Q (.ref I) s):wpAny (model prog w) A (pyIter (.ref I)) Q E s:=by
 refine CH hit.typeIs qJ (An qJ hit.typeIs j9 ?_ (Zq _))
 show wpAny _ _ (ret (.ref I)) _ _ s
 exact AB ⟨_,rfl, "set_iterator",_,hit.typeIs,zn.lookup,h⟩
theorem Yp (hh:A.handled=none) (I:Addr) (hne:a ≠ I):Walks prog w A I [I,a] [I] es.size (fun i v=>∃ e,(QR w a es ep)[i]? = some e/\v=e.2) (fun i h=>ZZ h I a (jA w t i) i es.size ep/\DAt (!zZ w) h a es ep t) where
 sub:=fun b hb=>by simp at hb;simp[hb]
 frame:=fun _ _ _ st hk=>⟨st.1.keep fun o e=>hk I (by simp) o e,st.2.keep fun o e=>hk a (by simp) o e⟩
 item:=fun i s Q E hi st hQ=>by
  have hi':i < (QR w a es ep).size:=by rw[qN];exact hi
  have he:(QR w a es ep)[i]? = some ((QR w a es ep)[i]'hi'):=BZ hi'
  refine Qr st.1 st.2 he fun h' hit' hs'=>?_
  exact hQ _ h' s.toks ⟨_,he,rfl⟩ ⟨hit',st.2.keep fun o e=>hs'.extBut a o hne e⟩ fun b o hb e=>hs'.extBut b o (fun h=>hb (by simp[h])) e
 done:=fun s Q E st hQ=>QT hh st.1 st.2 fun h' he'=>hQ h' s.toks fun b o hb e=>he' b o (fun h=>hb (by simp[h])) e
 self:=fun _ _ _ _ st hQ=>QV st.1 hQ
theorem kdl_setD:KdlSrc prog w "set" a a es.size (fun i v=>∃ e,(QR w a es ep)[i]? = some e/\v=e.2) (fun h=>DAt (!zZ w) h a es ep t) where
 type:=fun _ hm=>let ⟨o,ho,hx,_⟩:=hm;⟨o,ho,hx.1⟩
 there:=fun _ hm=>let ⟨o,ho,_⟩:=hm;⟨AJ ho,AJ ho⟩
 keep:=fun _ _ hm hk=>hm.keep fun o e=>hk a (.inl rfl) o e
 notList:=by decide
 notTuple:=by decide
 hint:=fun _ _ _ _ hm hq=>QU (let ⟨o,ho,hx,_⟩:=hm;⟨o,ho,hx.1⟩) hq
 iter:=fun _ s hh hm=>⟨_,_,(fun _ _ hq=>Z9 hm hq),Yp hh _ (let ⟨o,ho,_⟩:=hm;AN (AJ ho)),⟨⟨_,AH _ rfl,rfl,rfl⟩,hm.keep fun o e=>AD _ e⟩⟩
theorem Yq {ns:List Int} {acc:Array Value} {W:Array (Int×Value)} (hi:ItemsOf (fun i v=>∃ e,W[i]? = some e/\v=e.2) acc W.size) (hv:∀ e ∈ W.toList,∃ tk,e.2=Value.int e.1 tk):IntsAre acc.toList (W.toList.map Prod.fst):=by
 have key:∀ (us:List Value) (es:List (Int×Value)),us.length=es.length->(∀ (i:Nat) u,us[i]? = some u->∃ e,es[i]? = some e/\u=e.2)->(∀ e ∈ es,∃ tk,e.2=Value.int e.1 tk)->IntsAre us (es.map Prod.fst):=by
  intro us
  induction us with
  | nil=>
   intro es hl _ _
   cases es with
   | nil=>exact .nil
   | cons e es=>cases hl
  | cons u us ih=>
   intro es hl hi hv
   cases es with
   | nil=>cases hl
   | cons e es=>
    obtain⟨e',h1,h2⟩:=hi 0 u rfl
    obtain rfl:e=e':=by simpa using h1
    obtain⟨tk,h3⟩:=hv e (AO ..)
    rw[h2,h3]
    exact .cons _ tk (ih es (by simpa using hl) (fun i u hu=>hi (i+1) u (by simpa using hu)) fun e he=>hv e (AU _ he))
 refine key _ _ ?_ (fun i u hu=>?_) hv
 ·rw[Ad,Ad]
  exact hi.1
 ·obtain⟨e,h1,h2⟩:=hi.2 i u (by rw[<- Bo];exact hu)
  exact⟨e,by rw[Bo];exact h1,h2⟩
theorem WW {ds:List Nat} {Q:Value->Shared->Prop} (hh:A.handled=none) (hd:DIs (!zZ w) s.heap a ds)
  (h:∀ (h1 h':Heap) (tk:Nat) (out:Array Value) (e:Nat) (ns':List Int),(∀ b o,s.heap.get? b=some o->h1.get? b=some o)->(∀ b o,h1.get? b=some o->h'.get? b=some o)->h'.get? h1.objs.size=some (seqObj "list" out e)->IntsAre out.toList ns'->ns'.Perm (ds.map fun (d:Nat)=>(d:Int))->ns'.Pairwise (· <= ·)->Q (.ref h1.objs.size) { s with heap:=h',toks:=tk }) :
  wpAny (model prog w) A (call (.builtin "sorted") [.ref a]) Q E s:=by
 obtain⟨o,es,ep,t,ho,hx,hdat,hg,hv⟩:=hd
 have hs:=hg.dg.small
 have h9:es.size<=sizeLine:=B4 (by unfold scanBound;omega)
 refine Calls.call_function_entry kind_sorted plain_sorted entry_sorted (args_sorted1 _) ?_
 unfold Builtin.«sorted»
 refine AA (m:=checkCount "sorted" 1 1 _) (AB ?_)
 refine AA (kdu_collect (A:=A.in1) (kdl_setD (a:=a) (es:=es) (ep:=ep) (t:=t)) hh ⟨o,ho,hx,hdat,hg.dg⟩ h9 fun h' tk acc hk hacc=>?_)
 have wp:=QS w a es ep
 have hacc':=hacc
 rw[<- qN w a es ep] at hacc'
 have hI:=Yq (ns:=[]) hacc' fun e he=>hv e (wp.mem_iff.mp he)
 have hl:acc.toList.length=es.size:=by rw[Ad];exact hacc.1
 have hp:List.Perm ((QR w a es ep).toList.map Prod.fst) (ds.map fun (d:Nat)=>(d:Int)):=by
  have:=wp.map Prod.fst
  have he:=hg.he
  rw[show (fun (x:Int×Value)=>x.1)=Prod.fst from rfl] at he
  rwa [he] at this
 refine AA (wpAny_newList ?_ (by rw[hl];exact h9))
 have hoL:(h'.push (seqObj "list" acc.toList.toArray 0)).get? h'.objs.size=some (seqObj "list" acc.toList.toArray 0):=AH _ rfl
 show wpAny _ _ _ _ _ { s with heap:=h'.push (seqObj "list" acc.toList.toArray 0),toks:=tk }
 refine AA (Ah (An slot_list_sort ⟨_,hoL,rfl⟩ entry_list_sort (list_sort_tree hoL hI (by omega) fun out ns' a1 a2 a3=>⟨_,rfl,?_⟩) (args_list_sort _)))
 obtain⟨e,he⟩:=sortedHeap_at (vs:=acc.toList) (out:=out) hoL
 exact AB ⟨_,rfl,h h' _ tk out e ns' hk (fun b o q1=>by
  have hb:=AJ q1
  rw[sortedHeap_old (AN hb) (by rw[Bb];exact BF hb)]
  exact AD _ q1) he a1 (a2.trans hp) a3⟩
end
def DSet (w:World) (a:Addr) (ds:List Nat):HO:=.ext fun h=>DIs (!zZ w) h a ds
def nI (d:Nat):V:=.int (d:Int)
section
variable {X : Cx}
theorem Yr (K:PySem.W.Frag) (hc:X.calm=true) (hK:X.K=K:=by rfl):qA X (.type "set") (fun xs H Q=>∃ (p:Addr) (ys:List Nat),xs=[.ref p]/\SqL K H p (ys.map nI)/\(∀ y ∈ ys,y < 9)/\∀ (a:Addr) (ds:List Nat),H a=none->ds.Nodup->(∀ d,d ∈ ds ↔ d ∈ ys)->Q (.ref a) (upd H a (DSet X.w a ds))):=by
 subst hK
 intro pins s σ H xs us Q I r h
 obtain⟨p,ys,rfl,hq,hz,q⟩:=h
 obtain⟨u,rfl,ru⟩:=vals1 r
 cases ru
 obtain⟨its,rv,pl,_⟩:=I.list hq
 have hl:=rv.length
 rw[AC] at hl
 refine Xc (I.ok.hd hc) pl.isList (ys:=ys) (fun i v hv=>?_) (by simpa using hl.symm) hz fun h' tk ds hS hm hk=>?_
 ·have hv':its[i]? = some v:=by simpa using hv
  have hi:=(AE.mp hv').1
  have e1:(ys.map nI)[i]? = some (nI (ys.getD i 0)):=by
   rw[AW]
   simp[List.getD,show i < ys.length by omega]
  obtain⟨u,hu,t,e⟩:=rv.get e1
  rw[hv'] at hu
  cases hu
  exact⟨t,e⟩
 have fr:=I.hok.fresh (AG s.heap.objs.size)
 have nd:ds.Nodup:=by obtain⟨_,_,_,_,_,_,_,hg,_⟩:=hS;exact hg.nd
 refine⟨.ref s.heap.objs.size,_,I.laid (t':=tk) (o:=DSet X.w s.heap.objs.size ds) (fun b o e=>hk b o (AJ e) e) (AG _) ⟨hS,?_,fun h1 h2 z k=>z.keep k⟩,rfl,q _ ds fr nd hm⟩
 obtain⟨o,_,_,_,ho,_⟩:=hS
 exact⟨o,ho⟩
theorem J9 (hc:X.calm=true):qA X (.builtin "sorted") (fun xs H Q=>∃ (a:Addr) (ds:List Nat),xs=[.ref a]/\H a=some (DSet X.w a ds)/\∀ (l:Addr) (ms:List Nat),H l=none->ms.Perm ds->ms.Pairwise (· <= ·)->Q (.ref l) (upd H l (.lst (ms.map nI)))):=by
 intro pins s σ H xs us Q I r h
 obtain⟨a,ds,rfl,ha,q⟩:=h
 obtain⟨u,rfl,rx⟩:=vals1 r
 cases rx
 have hd:=(I.hok a _ ha).1
 refine WW (I.ok.hd hc) hd fun h1 h' tk out e ns' k1 k2 he a1 a2 a3=>?_
 have I1:Inv X pins σ H { s with heap:=h1,toks:=tk }:=I.un (Un.kept k1) (I.hok.kept k1)
 have sm:ds.length<=9:=by
  obtain⟨_,_,_,_,_,_,_,hg,_⟩:=hd
  rw[<- hg.len]
  exact hg.dg.small
 have en:ns'=(ns'.map Int.toNat).map fun (d:Nat)=>(d:Int):=by
  rw[A2]
  have:ns'.map id=ns'.map ((fun (d:Nat)=>(d:Int)) ∘ Int.toNat):=DT fun z hz=>by
   obtain⟨d,_,e⟩:=AS.mp (a2.mem_iff.mp hz)
   rw[<- e]
   rfl
  rwa [List.map_id] at this
 have ep:List.Perm (ns'.map Int.toNat) ds:=by
  have:=a2.map Int.toNat
  simpa [List.map_map,Function.comp_def] using this
 refine⟨.ref h1.objs.size,_,I1.laid (t':=tk) (o:=.lst ((ns'.map Int.toNat).map nI)) k2 (AG _) ?_,rfl,q _ (ns'.map Int.toNat) (I1.hok.fresh (AG _)) ep ?_⟩
 ·refine⟨by rw[AC,ep.length_eq];exact Ag sm (B4 (by unfold scanBound;omega)),out.toList,e,?_,?_⟩
  ·have:=xF a1
   rw[en,A2] at this
   rw[A2] at *
   exact this
  ·simpa [seqObj] using he
 ·rw[Bw]
  exact a3.imp fun h=>Int.toNat_le_toNat h
end
section
variable {X : Cx}
end
section
variable {prog : Program} {w : World} {A : Around} {R : Result -> Shared -> Prop}
end
section
variable {X : Cx}
end
section
variable {X : Cx}
end
end L2
namespace L4
open PySem L2
-- residuation
inductive Sy where
 | ltr (x:Str)
 | n0 (nm:Str)
 | n1 (nm:Str) (a:Sy)
 | n2 (nm:Str) (a b:Sy)
namespace Sy
def nm:Sy->Str
 | ltr x=>x
 | n0 n=>n
 | n1 n _=>n
 | n2 n _ _=>n
def ps:Sy->List Sy
 | ltr _=>[]
 | n0 _=>[]
 | n1 _ a=>[a]
 | n2 _ a b=>[a,b]
def isL:Sy->Bool
 | ltr _=>true
 | _=>false
def dp:Sy->Nat
 | ltr _=>0
 | n0 _=>1
 | n1 _ a=>a.dp+1
 | n2 _ a b=>max a.dp b.dp+1
def sz:Sy->Nat
 | ltr _=>1
 | n0 _=>1
 | n1 _ a=>a.sz+1
 | n2 _ a b=>a.sz+b.sz+1
def mk (nm:Str):List Sy->Sy
 | []=>n0 nm
 | [a]=>n1 nm a
 | a :: b :: _=>n2 nm a b
end Sy
theorem Sy.dp_lt {s a:Sy} (h:a ∈ s.ps):a.dp < s.dp:=by
 cases s with
 | ltr x=>cases h
 | n0 n=>cases h
 | n1 n b=>
  rw[AF.mp h]
  exact BR _
 | n2 n b c=>
  show a.dp < max b.dp c.dp+1
  rcases AR.mp h with rfl | h
  ·omega
  ·rw[AF.mp h]
   omega
theorem Sy.sz_ps (s:Sy):(s.ps.map Sy.sz).sum+1=s.sz:=by
 cases s <;> simp[Sy.ps,Sy.sz]
def qv (H:Hp):Sy->V->Prop
 | .ltr x,v=>v=.str x
 | .n0 nm,v=>∃ t,v=.ref t/\H t=some (.tup [.str nm])
 | .n1 nm a,v=>∃ t u,v=.ref t/\H t=some (.tup [.str nm,u])/\qv H a u
 | .n2 nm a b,v=>∃ t u w,v=.ref t/\H t=some (.tup [.str nm,u,w])/\qv H a u/\qv H b w
theorem qv.tk {H H':Hp} (k:Tk H H'):∀ {s:Sy} {v:V},qv H s v->qv H' s v
 | .ltr x,v,h=>h
 | .n0 nm,v,⟨t,e,h⟩=>⟨t,e,k _ _ h⟩
 | .n1 nm a,v,⟨t,u,e,h,ha⟩=>⟨t,u,e,k _ _ h,qv.tk k ha⟩
 | .n2 nm a b,v,⟨t,u,w,e,h,ha,hb⟩=>⟨t,u,w,e,k _ _ h,qv.tk k ha,qv.tk k hb⟩
theorem qv.same {H H':Hp} (k:zB H H') {s:Sy} {v:V} (h:qv H s v):qv H' s v:=h.tk (Tk.of k)
theorem qv.node {H:Hp} {s:Sy} {v:V} (h:qv H s v) (hs:s.isL=false):∃ t us,v=.ref t/\H t=some (.tup (.str s.nm :: us))/\Paired (qv H) s.ps us:=by
 cases s with
 | ltr x=>cases hs
 | n0 nm=>
  obtain⟨t,e,h⟩:=h
  exact⟨t,[],e,h,.nil⟩
 | n1 nm a=>
  obtain⟨t,u,e,h,ha⟩:=h
  exact⟨t,[u],e,h,.cons ha .nil⟩
 | n2 nm a b=>
  obtain⟨t,u,w,e,h,ha,hb⟩:=h
  exact⟨t,[u,w],e,h,.cons ha (.cons hb .nil)⟩
theorem qv.letter {H:Hp} {s:Sy} {v:V} (h:qv H s v) (hs:s.isL=true):v=.str s.nm:=by
 cases s with
 | ltr x=>exact h
 | _=>cases hs
theorem qv.of {H:Hp} {nm:Str} {ss:List Sy} {us:List V} {t:Addr} (h:H t=some (.tup (.str nm :: us))) (hp:Paired (qv H) ss us) (hl:ss.length<=2):qv H (Sy.mk nm ss) (.ref t):=by
 cases hp with
 | nil=>exact⟨t,rfl,h⟩
 | @cons a u ss us ha hp=>
  cases hp with
  | nil=>exact⟨t,u,rfl,h,ha⟩
  | @cons b w ss us hb hp=>
   cases hp with
   | nil=>exact⟨t,u,w,rfl,h,ha,hb⟩
   | cons _ _=>
    exfalso
    simp at hl
theorem dp_mk {nm:Str} {ss:List Sy} {d:Nat} (h:∀ a ∈ ss,a.dp<=d):(Sy.mk nm ss).dp<=d+1:=by
 match ss,h with
 | [],_=>exact Du (A0 _)
 | [a],h=>exact Du (h a (by simp))
 | a :: b :: _,h=>
  have h1:=h a (by simp)
  have h2:=h b (by simp)
  show max a.dp b.dp+1<=d+1
  omega
def Ltr (x:Str):Prop:=x.length=1/\xB x
open PySem L2
theorem J5.tk {H H':Hp} (s:Tk H H') {xs:List V} {ps:List (List Key×V)} (h:J5 H xs ps):J5 H' xs ps:=by
 unfold J5 at h ⊢
 induction h with
 | nil=>exact .nil
 | cons r _ ih=>
  obtain⟨b,kb,e,hb,hk⟩:=r
  exact .cons ⟨b,kb,e,s _ _ hb,s _ _ hk⟩ ih
theorem J5.snoc {H:Hp} {xs:List V} {ps:List (List Key×V)} {p:List Key×V} {b kb:Addr} (h:J5 H xs ps) (hb:H b=some (.tup [.ref kb,p.2])) (hk:H kb=some (.tup (p.1.map kV))):J5 H (xs++[.ref b]) (ps++[p]):=by
 unfold J5 at h ⊢
 induction h with
 | nil=>exact .cons ⟨b,kb,rfl,hb,hk⟩ .nil
 | cons r _ ih=>exact .cons r ih
theorem JL:∀ (ps acc:List (List Key×V)) (k:List Key),k ∉ ps.map Prod.fst->jz (putAllT acc ps) k=jz acc k
 | [],acc,k,_=>rfl
 | p :: ps,acc,k,h=>by
  rw[AQ,AR,not_or] at h
  show jz (putAllT (ZH acc p.1 p.2) ps) k=_
  rw[JL ps _ k h.2,JZ,if_neg h.1]
theorem WX:∀ (ps acc:List (List Key×V)) (p:List Key×V),(ps.map Prod.fst).Nodup->p ∈ ps->jz (putAllT acc ps) p.1=some p.2
 | [],acc,p,_,h=>by cases h
 | z :: ps,acc,p,hn,h=>by
  rw[AQ,BA] at hn
  show jz (putAllT (ZH acc z.1 z.2) ps) p.1=_
  rcases AR.mp h with rfl | h
  ·rw[JL ps _ _ hn.1,JZ,if_pos rfl]
  ·exact WX ps _ p hn.2 h
end L4
namespace Tn
end Tn
namespace L2
open PySem PySem.Spec PyProof.Rows
section
variable {X : Cx} {N' : List Str} {ix : List (Option Nat)} {scope : Scope} {y : Str} {pins : List (Addr × Obj)} {σ : St} {H : Hp} {s : Shared} {fp : List Addr}
end
open PySem PySem.Spec PyProof.Rows PySem.W
section
variable {prog : Program} {w : World} {A : Around} {E : Value -> Shared -> Prop} {s : Shared} {d it : Addr} {es : Array DictEntry} {ep i : Nat}
end
section
variable {prog : Program} {w : World} {A : Around} {E : Value -> Shared -> Prop} {s : Shared}
end
section
variable {X : Cx}
end
theorem Za:∀ bs:List Bool,((List.range bs.length).any fun i=>bs.getD i false)=bs.any id
 | []=>rfl
 | b :: bs=>by
  have ih:=Za bs
  rw[Ab,DC,B1,List.any_map,B1,<- ih]
  rfl
theorem bt_any:bootBuiltins "any" = some (.builtin "any"):=by decide +kernel
section
variable {X : Cx}
theorem Xf (K:PySem.W.Frag) (hc:X.calm=true) (hK:X.K=K:=by rfl):qA X (.builtin "any") (fun xs H Q=>∃ (p:Addr) (bs:List Bool),xs=[.ref p]/\SqL K H p (bs.map V.bl)/\Q (.bl (bs.any id)) H):=by
 subst hK
 intro pins s σ H xs us Q I r h
 obtain⟨p,bs,rfl,hq,q⟩:=h
 obtain⟨u,rfl,ru⟩:=vals1 r
 cases ru
 obtain⟨its,rv,pl,_⟩:=I.list hq
 have hl:s.heap.IsList p its.toArray:=pl.isList
 have hlt:p < s.heap.objs.size:=by obtain⟨_,e,_⟩:=hl;exact AJ e
 refine call_any_walk (B3 hl ⟨_,_,_,_,_,_,fun i=>bs.getD i false,rfl,Walks.list (A:=X.A.in1) (I.ok.hd hc) _ p (AN hlt) its.toArray,⟨⟨_,AH _ rfl,rfl,rfl⟩,hl.push _⟩,fun i v s' Q' E' hv hQ=>?_,fun h' tk hk=>⟨.bl _,H,I.kept (old_kept hk),rfl,?_⟩⟩)
 ·have hv':its[i]? = some v:=by simpa using hv
  rw[yy rv,AW] at hv'
  obtain⟨b,hb,rfl⟩:=Ac.mp hv'
  have e:bs.getD i false=b:=by simp[List.getD,hb]
  have z:Q' (bs.getD i false) s':=hQ
  rw[e] at z
  exact CG z
 ·have e1:its.toArray.size=bs.length:=by
   have:=rv.length
   rw[AC] at this
   simp;omega
  rw[e1,Za bs]
  exact q
end
section
variable {X : Cx}
end
section
variable {prog : Program} {w : World} {A : Around} {E : Value -> Shared -> Prop} {s : Shared}
abbrev Xg (prog:Program) (w:World) (b:Bool) (h:Heap) (a:Addr) (l:List Str):Prop:=SetT (PySem.strKind prog w) h a (fun x=>decide (x ∈ l)) l.length b
theorem QW {b:Bool} {h h':Heap} {a:Addr} {l:List Str} (x:Xg prog w b h a l) (k:∀ o,h.get? a=some o->h'.get? a=some o):Xg prog w b h' a l:=by
 obtain⟨o,es,ep,t,ho,r⟩:=x
 exact⟨o,es,ep,t,k o ho,r⟩
theorem Ys {K:Type} [DecidableEq K] {knd:KeyKind prog w K} {h:Heap} {a:Addr} {S S':K->Bool} {n n':Nat} {b:Bool} (x:SetT knd h a S n b) (e:∀ k,S k=S' k) (en:n=n'):SetT knd h a S' n' b:=by
 obtain rfl:S=S':=funext e
 subst en
 exact x
theorem Xh {R:Result->Shared->Prop} {J l a:Addr} {items:Array Value} {ys:List Str} {bb:Bool} (hh:A.in1.handled=none) (hJ:l ≠ J) (aJ:a ≠ J) (al:a ≠ l) (hv:∀ (i:Nat) (v:Value),items[i]? = some v->∃ t,v=.str (ys.getD i "") t) (hn:items.size=ys.length) (hb:ys.length+1 < scanBound) :
  ∀ (k i:Nat) (s:Shared),ys.length - i=k->i<=ys.length->s.heap.IsListIter J l i->s.heap.IsList l items->Xg prog w bb s.heap a (Jg (ys.take i)) ->
   (∀ h' tk,(∀ b o,b ≠ a->b ≠ J->s.heap.get? b=some o->h'.get? b=some o)->Xg prog w bb h' a (Jg ys)->R (.ok (.ret .none)) { s with heap:=h',toks:=tk }) ->
   codeAny (model prog w) A (.builtin "set.update.loop" ⟨[.ref a,.ref J],[]⟩) R s:=by
 intro k
 induction k with
 | zero=>
  intro i s hk hi h1 h2 h3 hR
  have e:i=ys.length:=by omega
  subst e
  refine Ax Bi ?_
  rw[Au A5 _]
  show wpAny _ A.in1 (pyNext (.ref J) >>= _) _ _ s
  refine AA (CF hh h1 h2 (by first | omega | (simp;omega)) fun h' eb=>?_)
  show wpAny _ A.in1 (ret Value.none) _ _ _
  rw[Aq] at h3
  exact AB (hR h' s.toks (fun b o _ nb e=>eb b o nb e) (QW h3 fun o e=>eb a o aJ e))
 | succ k ih=>
  intro i s hk hi h1 h2 h3 hR
  have hlt:i < ys.length:=by omega
  refine Ax Bi ?_
  rw[Au A5 _]
  show wpAny _ A.in1 (pyNext (.ref J) >>= _) _ _ s
  have hi2:items[i]? = some (items[i]'(by omega)):=by simp[show i < items.size by omega]
  refine AA (CB h1 h2 hi2 fun h' h1' sb=>?_)
  obtain⟨t,et⟩:=hv i _ hi2
  rw[et]
  have h3':Xg prog w bb h' a (Jg (ys.take i)):=QW h3 fun o e=>(sb.2 a aJ).trans e
  show wpAny _ A.in1 (holding [Value.str (ys.getD i "") t] (setAdd a (.str (ys.getD i "") t)) >>= _) _ _ _
  refine AA (Ah ?_)
  unfold setAdd
  have is1:(PySem.strKind prog w).is (ys.getD i "") (.str (ys.getD i "") t)=true:=by
   simp[PySem.strKind,Value.isStrOf]
  refine Ah (AA ((PySem.strKind prog w).pyHash (k:=ys.getD i "") is1 ?_))
  have room:(Jg (ys.take i)).length+1 < scanBound:=by
   have:=dedK_len (ys.take i)
   rw[AZ] at this
   omega
  refine setAddT (knd:=PySem.strKind prog w) (s:={ s with heap:=h',toks:=s.toks+1 }) is1 rfl h3' room fun h'' sb2 h4=>?_
  have ey:ys[i]? = some (ys.getD i ""):=by simp[List.getD,hlt]
  have e1:ys.take (i+1)=ys.take i++[ys.getD i ""]:=by rw[Dj,ey];rfl
  have h5:Xg prog w bb h'' a (Jg (ys.take (i+1))):=by
   refine Ys h4 (fun x=>?_) ?_
   ·rw[e1,wO]
    by_cases c1:x ∈ Jg (ys.take i) <;> by_cases c2:x=ys.getD i "" <;> simp[yz,c1,c2]
   ·rw[e1,wO,yA]
    by_cases c1:ys.getD i "" ∈ Jg (ys.take i) <;> simp[c1]
  refine AB ⟨BQ A5 _,ih (i+1) { s with heap:=h'',toks:=s.toks+1 } (by omega) hlt ?_ ?_ h5 fun h6 tk k6 s6=>hR h6 tk (fun b o na nJ e=>k6 b o na nJ ((sb2.2 b na).trans ((sb.2 b nJ).trans e))) s6⟩
  ·obtain⟨o,q1,q2⟩:=h1'
   exact⟨o,(sb2.2 J (Am aJ)).trans q1,q2⟩
  ·obtain⟨o,q1,q2⟩:=h2
   exact⟨o,(sb2.2 l (Am al)).trans ((sb.2 l hJ).trans q1),q2⟩
theorem Xi {l:Addr} {items:Array Value} {ys:List Str} {Q:Value->Shared->Prop} (hh:A.handled=none) (hl:s.heap.IsList l items) (hi:StrsAre items.toList ys) (hb:ys.length+1 < scanBound)
  (h:∀ h' tk,Xg prog w (!zZ w) h' s.heap.objs.size (Jg ys)->(∀ b o,b < s.heap.objs.size->s.heap.get? b=some o->h'.get? b=some o)->Q (.ref s.heap.objs.size) { s with heap:=h',toks:=tk }) :
  wpAny (model prog w) A (call (.type "set") [.ref l]) Q E s:=by
 obtain⟨c0,tl0,hmro⟩:=Ao.mro
 have made:=Ao.made;have subs:=Ao.sub
 have nt:=Ao.notType;have cc:=Ao.canCreate;have tcall:=PySem.F.typeCall_set_1 (.ref l)
 refine B7 (DW ?_)
 show wpAny _ _ (callAny (.type "set") ⟨[.ref l],[]⟩) _ _ _
 refine AB ⟨CY _ (by decide +kernel),Ax PySem.F.entry_type_call ?_⟩
 rw[Around.under_plain (weight_type_call_type "set" [.ref l] []) rfl]
 repeat (any_goals (first | assumption | wp_step))
 refine Bf (ZX (.ref l) (E:=E) (Q₁:=fun v s1=>∃ b:Bool,b=(!zZ w)/\v=.ref s.heap.objs.size/\s1 = { s with heap:=s.heap.push (zU b) }) ⟨_,rfl,rfl,rfl⟩) fun r s1 hr=>?_
 match r,hr with
 | .error e,hr=>exact hr
 | .ok (.ret v),hr=>
  obtain⟨b,eb,ev,es⟩:=hr
  subst ev es
  have at0:(s.heap.push (zU b)).get? s.heap.objs.size=some (zU b):=AH _ rfl
  have ty0:Shared.TypeIs { s with heap:=s.heap.push (zU b) } (.ref s.heap.objs.size) "set":=⟨_,at0,rfl⟩
  have il:=Ao.init.lookup
  have ib:=Ao.init.bind (.ref s.heap.objs.size)
  repeat (any_goals (first | assumption | wp_step))
  refine Bf (Bh (R:=wants (fun r s2=>r=.none/\∃ h' tk,s2 = { s with heap:=h',toks:=tk }/\Xg prog w (!zZ w) h' s.heap.objs.size (Jg ys)/\∀ b o,b < s.heap.objs.size->s.heap.get? b=some o->h'.get? b=some o) E) Ao.init.plain PySem.F.entry_set_init (check_set_init_1 ty0 ?_)) fun r2 s2 hr2=>?_
  ·obtain⟨⟨oc,od,odt,osl⟩,hol,hcl,nl,hdl⟩:=id hl
   have hcl':oc=_:=hcl;have hdl':odt=_:=hdl
   subst hcl' hdl'
   have hol1:(s.heap.push (zU b)).get? l=some { cls:=.type "list",dict:=od,data:=.seq items nl,slots:=osl }:=AD _ hol
   have n1:=PySem.F.sub_list_set;have n2:=D9
   have n3:(Value.type "list" == Value.type "dict")=false:=by decide
   have hl1:(s.heap.push (zU b)).IsList l items:=⟨_,hol1,rfl,nl,rfl⟩
   have lS:l < s.heap.objs.size:=AJ hol
   have jS:(s.heap.push (zU b)).objs.size=s.heap.objs.size+1:=Bb ..
   unfold Builtin.«set.__init__» noKeywords Builtin.Frozenset.updateFrom
   generalize ePI:pyIter=PI
   wp_walk
   subst ePI
   refine B3 hl1 (AA (Df ?_))
   have hn:items.size=ys.length:=by
    have:=hi.length
    simpa using this
   refine Xh (bb:=!zZ w) (J:=(s.heap.push (zU b)).objs.size) (l:=l) (a:=s.heap.objs.size) (items:=items) (ys:=ys) (by simp[hh]) (AN (by rw[jS];exact BF lS)) (AN (by rw[jS];exact BR _)) (BE lS) (fun i v hv=>xy hi i v (by rw[Bo];exact hv)) hn hb (ys.length - 0) 0 _ rfl (A0 _) ⟨_,AH _ rfl,rfl,rfl⟩ (hl1.push _) ?_ fun h' tk hk hS=>?_
   ·exact⟨_,#[],0,.fresh 0 0 b,AD _ at0,⟨rfl,rfl,rfl⟩,rfl,(fun e he=>by cases he),(fun k=>by simp[Jg]),by unfold scanBound;decide,rfl,rfl,eb ▸ Zp.fresh b⟩
   ·show wpAny _ _ _ _ _ _
    refine AB ?_
    show wpAny _ _ (ret Value.none) _ _ _
    refine AB ⟨rfl,h',tk,rfl,hS,fun c o hc e=>hk c o (AN hc) (AN (by rw[jS];exact BF hc)) (AD _ (AD _ e))⟩
  ·match r2,hr2 with
   | .error e,hr2=>exact hr2
   | .ok (.ret v),hr2=>
    obtain⟨ev,h',tk,es,hS,hk⟩:=hr2
    subst ev es
    repeat (any_goals (first | assumption | wp_step))
    exact h _ _ hS hk
   | .ok .next,hr2=>exact hr2.elim
   | .ok .brk,hr2=>exact hr2.elim
   | .ok .cont,hr2=>exact hr2.elim
 | .ok .next,hr=>exact hr.elim
 | .ok .brk,hr=>exact hr.elim
 | .ok .cont,hr=>exact hr.elim
end
structure Wk (w:World) (es:Array (Int×Value)) (t:SetTable):Prop where
 ti:Zp t (!zZ w)
 fits:t.fits es.size=true
 nd:zZ w=true\/(!t.plain && decide (es.size > 1))=false
theorem Wk.len {w:World} {es:Array (Int×Value)} {t:SetTable} (h:Wk w es t):t.place.size=es.size:=by
 have:=h.fits
 unfold SetTable.fits at this
 simp at this
 exact this.1
def WAt (w:World) (h:Heap) (a:Addr) (es:Array (Int×Value)) (ep:Nat) (t:SetTable):Prop:=∃ o,h.get? a=some o/\o.ExactSet/\o.data=.set es ep t/\Wk w es t
section
variable {prog : Program} {w : World} {A : Around} {E : Value -> Shared -> Prop} {s : Shared} {a I : Addr} {es : Array (Int × Value)} {ep : Nat} {t : SetTable}
theorem Qa {Q:Value->Shared->Prop} (hd:WAt w s.heap a es ep t)
  (hQ:Q (.ref s.heap.objs.size) { s with heap:=s.heap.push { cls:=.type "set_iterator",data:=.fields #[.int (0:Nat) 0,.int (0:Nat) 0,.ref a,.int (es.size:Nat) 0,.int (ep:Nat) 0] } }) :
  wpAny (model prog w) A (pyIter (.ref a)) Q E s:=by
 obtain⟨o,ho,hx,hdat,hg⟩:=hd
 have hf:=hg.fits
 have hT:s.TypeIs (.ref a) "set":=⟨o,ho,hx.1⟩
 refine CH hT Bm (An Bm hT je ?_ (C9 _))
 unfold Builtin.«frozenset.__iter__» Builtin.Frozenset.slot0
 refine AA (AA (AB ?_))
 refine AB ?_
 unfold Builtin.Frozenset.sizeOf setEntries
 refine AA (AA (AA (Ak ho hdat hf (AB (AB ?_)))))
 unfold setDrawn setsByText
 refine AA (AA (Ak ho hdat hf ?_))
 refine AA (AA (BU (AB (AB ?_))))
 refine Ar (fun hab=>absurd (show (!(zZ w) && (!t.plain && decide (es.size > 1)))=true from hab) (by rcases hg.nd with e | e <;> rw[e] <;> simp)) (fun _=>AA (AB ?_))
 refine AA (D7 ho hdat hf ?_)
 refine AA (Aj ?_)
 exact AB ⟨_,rfl, "set_iterator",_,⟨_,AH _ rfl,rfl⟩,zn.lookup,hQ⟩
theorem WY (hg:Wk w es t) (ht:zZ w=false):∀ (i:Nat),i<=t.place.size->SetTable.below t.place (jA w t i)=i
 | 0,_=>JK hg.ti.rs
 | i+1,hi=>by
  rw[ZY ht]
  exact JG hg.ti.rs (by simp[Array.getD,show i < t.place.size by omega])
theorem yI {Q:Option (Value×Nat)->Shared->Prop} {i:Nat} (hi:i<=es.size) (hd:WAt w s.heap a es ep t)
  (hQ:Q ((QR w a es ep)[i]?.map fun e=>(e.2,jA w t (i+1))) s) :
  wpAny (model prog w) A (setNext a (jA w t i) i ep) Q E s:=by
 obtain⟨o,ho,hx,hdat,hg⟩:=id hd
 have hf:=hg.fits
 unfold setNext setsByText
 refine AA (Ak ho hdat hf ?_)
 refine AA (AA (BU (AB ?_)))
 refine Ar (fun hab=>?_) (fun hab=>?_)
 ·have ht:zZ w=true:=hab
  rw[if_neg (by simp)]
  unfold setWalk setsByText
  refine AA (AA (Ak ho hdat hf ?_))
  refine AA (AA (BU (AB ?_)))
  refine Ar (fun _=>?_) (fun hn=>absurd hab hn)
  refine AA (BU (AB (AB ?_)))
  rw[We ht] at hQ ⊢
  unfold QR at hQ
  rw[if_pos ht] at hQ
  exact hQ
 ·have ht:zZ w=false:=Cz.mpr hab
  refine Ar (fun hdr=>absurd (show (!t.plain && decide (es.size > 1))=true from hdr) (by rw[hg.nd.resolve_left (by rw[ht];simp)];simp)) (fun _=>?_)
  have hled:t.led=true:=by rw[hg.ti.led,ht];rfl
  show wpAny _ _ (_ >>= _) _ _ _
  refine AA (A3 (a:=()) (show (if (!t.led && !es.isEmpty)=true then (unsupported "set:maker-not-led" : Sem Unit) else pure ())=pure () by rw[hled];rfl) ?_)
  refine AB ?_
  rw[WY hg ht i (by rw[hg.len];exact hi)]
  unfold QR at hQ
  rw[if_neg (by rw[ht];simp),ZY ht] at hQ
  by_cases hlt:i < es.size
  ·have e1:es[i]? = some es[i]:=by simp[hlt]
   have hlt':i < t.place.size:=by rw[hg.len];exact hlt
   have e2:t.place[i]? = some (t.place.getD i 0):=by simp[Array.getD,hlt']
   rw[e1] at hQ ⊢
   rw[e2]
   exact hQ
  ·have e1:es[i]? = none:=Bj (by omega)
   rw[e1] at hQ ⊢
   exact hQ
theorem Qs {Q:Option Value->Shared->Prop} {i:Nat} {e:Int×Value} (hit:ZZ s.heap I a (jA w t i) i es.size ep) (hd:WAt w s.heap a es ep t) (he:(QR w a es ep)[i]? = some e)
  (hQ:∀ h',ZZ h' I a (jA w t (i+1)) (i+1) es.size ep->Heap.SameBut I s.heap h'->Q (some e.2) { s with heap:=h' }) :
  wpAny (model prog w) A (pyNext (.ref I)) Q E s:=by
 obtain⟨oI,hoI,hcI,hdI⟩:=id hit
 obtain⟨o,ho,hx,hdat,hg⟩:=id hd
 have hf:=hg.fits
 unfold pyNext
 refine AA (BI (wpAny_callSpecial?_slot (name:=Str.ofString "__next__") hit.typeIs zn
  (An zn hit.typeIs zV ?_ (qa _))))
 unfold Builtin.«set_iterator.__next__»
 refine AA (AB ?_)
 refine AA (Cd hoI hdI ?_)
 dsimp only
 unfold setEntries
 refine AA (AA (Ak ho hdat hf (AB ?_)))
 rw[if_neg (by simp)]
 have hi:i < es.size:=by
  have:=(Bl.mp he).1
  rwa [qN] at this
 simp only[Int.toNat_natCast]
 refine AA (yI (B8 hi) hd ?_)
 rw[he]
 dsimp only[Option.map_some]
 refine AA (BP hoI hdI (by simp) ?_)
 have h1:=Ae (Obj.mapFields (·.setIfInBounds 0 (rawInt ((jA w t (i+1):Nat):Int)))) hoI (BO (Ap hdI _))
 have d1:=Ap hdI (·.setIfInBounds 0 (rawInt ((jA w t (i+1):Nat):Int)))
 refine AA (BP h1 d1 (by simp) ?_)
 refine AB ⟨_,rfl,AB (hQ _ ⟨_,Ae _ h1 (BO (Ap d1 _)),?_,?_⟩ ((As ..).trans (As ..)))⟩
 ·rw[CJ,CJ]
  exact hcI
 ·rw[Ap d1]
  simp[rawInt]
theorem QX {Q:Option Value->Shared->Prop} (hh:A.handled=none) (hit:ZZ s.heap I a (jA w t es.size) es.size es.size ep) (hd:WAt w s.heap a es ep t)
  (hQ:∀ h',Heap.ExtBut I s.heap h'->Q none { s with heap:=h' }) :
  wpAny (model prog w) A (pyNext (.ref I)) Q E s:=by
 obtain⟨oI,hoI,hcI,hdI⟩:=id hit
 obtain⟨o,ho,hx,hdat,hg⟩:=id hd
 have hf:=hg.fits
 unfold pyNext
 refine AA (BI (wpAny_callSpecial?_slot (name:=Str.ofString "__next__") hit.typeIs zn
  (An zn hit.typeIs zV ?_ (qa _))))
 unfold Builtin.«set_iterator.__next__»
 refine AA (AB ?_)
 refine AA (Cd hoI hdI ?_)
 dsimp only
 unfold setEntries
 refine AA (AA (Ak ho hdat hf (AB ?_)))
 rw[if_neg (by simp)]
 simp only[Int.toNat_natCast]
 refine AA (yI (AG _) hd ?_)
 rw[Bj (by rw[qN];exact AG _)]
 dsimp only[Option.map_none]
 refine AA (BP hoI hdI (by simp) ?_)
 show wpAny _ _ (newExc (.type "StopIteration") [] >>= _) _ _ _
 refine AA ?_
 simp only[newExc,newTuple]
 refine AA (Aj ?_ (by size_fits))
 refine AA (m:=firstArgMember _ _) (A3 (a:=Value.none) (by first | rfl | (simp only[firstArgMember];rfl)) ?_)
 refine Aj ?_ (by size_fits)
 simp only[raiseNew]
 refine AA (DM ?_)
 rw[show A.in1.handled=none from hh]
 refine AA (AB (De ?_))
 refine AA (Br (T := "StopIteration") (b:=true) ⟨_,AH _ rfl,rfl⟩ Dh ?_)
 exact AB (hQ _ (((As ..).extBut.push _).push _))
theorem WAt.keep {h h':Heap} (x:WAt w h a es ep t) (k:∀ o,h.get? a=some o->h'.get? a=some o):WAt w h' a es ep t:=let ⟨o,ho,r⟩:=x;⟨o,k o ho,r⟩
theorem Yt (hh:A.handled=none) (I:Addr) (hne:a ≠ I):Walks prog w A I [I,a] [I] es.size (fun i v=>∃ e,(QR w a es ep)[i]? = some e/\v=e.2) (fun i h=>ZZ h I a (jA w t i) i es.size ep/\WAt w h a es ep t) where
 sub:=fun b hb=>by simp at hb;simp[hb]
 frame:=fun _ _ _ st hk=>⟨st.1.keep fun o e=>hk I (by simp) o e,st.2.keep fun o e=>hk a (by simp) o e⟩
 item:=fun i s Q E hi st hQ=>by
  have hi':i < (QR w a es ep).size:=by rw[qN];exact hi
  have he:(QR w a es ep)[i]? = some ((QR w a es ep)[i]'hi'):=BZ hi'
  refine Qs st.1 st.2 he fun h' hit' hs'=>?_
  exact hQ _ h' s.toks ⟨_,he,rfl⟩ ⟨hit',st.2.keep fun o e=>hs'.extBut a o hne e⟩ fun b o hb e=>hs'.extBut b o (fun h=>hb (by simp[h])) e
 done:=fun s Q E st hQ=>QX hh st.1 st.2 fun h' he'=>hQ h' s.toks fun b o hb e=>he' b o (fun h=>hb (by simp[h])) e
 self:=fun _ _ _ _ st hQ=>QV st.1 hQ
theorem kdl_setW:KdlSrc prog w "set" a a es.size (fun i v=>∃ e,(QR w a es ep)[i]? = some e/\v=e.2) (fun h=>WAt w h a es ep t) where
 type:=fun _ hm=>let ⟨o,ho,hx,_⟩:=hm;⟨o,ho,hx.1⟩
 there:=fun _ hm=>let ⟨o,ho,_⟩:=hm;⟨AJ ho,AJ ho⟩
 keep:=fun _ _ hm hk=>hm.keep fun o e=>hk a (.inl rfl) o e
 notList:=by decide
 notTuple:=by decide
 hint:=fun _ _ _ _ hm hq=>QU (let ⟨o,ho,hx,_⟩:=hm;⟨o,ho,hx.1⟩) hq
 iter:=fun _ s hh hm=>⟨_,_,(fun _ _ hq=>Qa hm hq),Yt hh _ (let ⟨o,ho,_⟩:=hm;AN (AJ ho)),⟨⟨_,AH _ rfl,rfl,rfl⟩,hm.keep fun o e=>AD _ e⟩⟩
end
section
variable {prog : Program} {w : World} {A : Around} {E : Value -> Shared -> Prop} {s : Shared}
theorem Wf {src:Source} {n:Nat} {M:Model} {Q:Nat->Shared->Prop} (hn:n ≠ 0) (h:∀ i d',i < n->Q i { s with drawn:=d' }):wpAny M A (choose src n) Q E s:=fun _ _ _=>⟨hn,h _ _ (Nat.mod_lt _ (Nat.pos_of_ne_zero hn))⟩
theorem QY {α:Type} {M:Model}:∀ (n:Nat) (xs:List α) (s:Shared) (Q:List α->Shared->Prop),xs.length=n->(∀ ys d',ys.Perm xs->Q ys { s with drawn:=d' })->wpAny M A (drawOrder n xs) Q E s:=by
 intro n
 induction n with
 | zero=>
  intro xs s Q hl h
  obtain rfl:=CQ.mp hl
  exact AB (h [] s.drawn (.refl _))
 | succ n ih=>
  intro xs s Q hl h
  have hn:0 < xs.length:=by omega
  have he:drawOrder (n+1) xs=(choose .order xs.length >>= fun i=>match xs[i]? with
   | some x=>drawOrder n (xs.eraseIdx i) >>= fun ys=>pure (x :: ys)
   | none=>unsupported "internal:drawOrder"):=by
   cases xs with
   | nil=>cases hn
   | cons x xs=>rfl
  rw[he]
  refine AA (Wf (by omega) fun i d' hi=>?_)
  rw[AK hi]
  dsimp only
  refine AA (ih (xs.eraseIdx i) _ _ (by rw[List.length_eraseIdx,if_pos hi,hl];rfl) fun ys d2 hp=>AB ?_)
  refine h _ d2 ?_
  refine (hp.cons _).trans ?_
  rw[Ds]
  refine Dv.symm.trans ?_
  rw[<- CK hi,DN]
def DrIt (h:Heap) (I a p:Addr) (i n ep:Nat) (pl:List Nat):Prop:=(∃ o,h.get? I=some o/\o.cls=.type "set_iterator" /\ o.data=.fields #[.ref p,.int (i:Nat) 0,.ref a,.int (n:Nat) 0,.int (ep:Nat) 0])/\∃ o,h.get? p=some o/\∃ m,o.data=.seq (pl.map fun (i:Nat)=>rawInt i).toArray m
def EnAt (h:Heap) (a:Addr) (es:Array (Int×Value)) (ep:Nat) (t:SetTable):Prop:=∃ o,h.get? a=some o/\o.ExactSet/\o.data=.set es ep t/\t.fits es.size=true
section
variable {a I p : Addr} {es : Array (Int × Value)} {ep : Nat} {t : SetTable} {pl : List Nat}
theorem DrIt.typeIs {i n:Nat} (x:DrIt s.heap I a p i n ep pl):s.TypeIs (.ref I) "set_iterator":=let ⟨⟨o,ho,hc,_⟩,_⟩:=x;⟨o,ho,hc⟩
theorem Xj {Q:Value->Shared->Prop} (hd:EnAt s.heap a es ep t) (hdr:(!zZ w && (!t.plain && decide (es.size > 1)))=true) (hz:es.size<=sizeLine)
  (hQ:∀ (pl:List Nat) (d':Drawn),pl.Perm (List.range es.size)->Q (.ref (s.heap.objs.size+1)) { s with heap:=(s.heap.push { cls:=.type "tuple",data:=.seq (pl.map fun (i:Nat)=>rawInt i).toArray }).push { cls:=.type "set_iterator",data:=.fields #[.ref s.heap.objs.size,.int (0:Nat) 0,.ref a,.int (es.size:Nat) 0,.int (ep:Nat) 0] },drawn:=d' }) :
  wpAny (model prog w) A (pyIter (.ref a)) Q E s:=by
 obtain⟨o,ho,hx,hdat,hf⟩:=hd
 have hT:s.TypeIs (.ref a) "set":=⟨o,ho,hx.1⟩
 refine CH hT Bm (An Bm hT je ?_ (C9 _))
 unfold Builtin.«frozenset.__iter__» Builtin.Frozenset.slot0
 refine AA (AA (AB ?_))
 refine AB ?_
 unfold Builtin.Frozenset.sizeOf setEntries
 refine AA (AA (AA (Ak ho hdat hf (AB (AB ?_)))))
 unfold setDrawn setsByText
 refine AA (AA (Ak ho hdat hf ?_))
 refine AA (AA (BU (AB (AB ?_))))
 refine Ar (fun _=>?_) (fun hab=>absurd (show (!(zZ w) && (!t.plain && decide (es.size > 1)))=true from hdr) hab)
 refine AA (QY es.size (List.range es.size) _ _ Av fun pl d' hp=>?_)
 have hl:pl.length=es.size:=by rw[hp.length_eq,Av]
 refine AA (wpAny_newTuple ?_ (by rw[AC,hl];exact hz))
 refine AA (D7 (AD _ ho) hdat hf ?_)
 refine AA (Aj ?_)
 have q:=hQ pl d' hp
 refine AB ⟨_,rfl, "set_iterator",_,⟨_,AH _ rfl,rfl⟩,zn.lookup,?_⟩
 have e:(s.heap.push { cls:=.type "tuple",data:=.seq (pl.map fun (i:Nat)=>rawInt i).toArray }).objs.size=s.heap.objs.size+1:=Bb ..
 dsimp only
 rw[e]
 exact q
theorem Jj {Q:Option Value->Shared->Prop} {i n:Nat} {k:Nat} {e:Int×Value} (Ip:I ≠ p) (hit:DrIt s.heap I a p i n ep pl) (hn:n=es.size) (hd:EnAt s.heap a es ep t) (hk:pl[i]? = some k) (he:es[k]? = some e)
  (hQ:∀ h',DrIt h' I a p (i+1) n ep pl->Heap.SameBut I s.heap h'->Q (some e.2) { s with heap:=h' }) :
  wpAny (model prog w) A (pyNext (.ref I)) Q E s:=by
 obtain⟨⟨oI,hoI,hcI,hdI⟩,op,hop,m,hdp⟩:=id hit
 obtain⟨o,ho,hx,hdat,hf⟩:=id hd
 subst hn
 unfold pyNext
 refine AA (BI (wpAny_callSpecial?_slot (name:=Str.ofString "__next__") hit.typeIs zn
  (An zn hit.typeIs zV ?_ (qa _))))
 unfold Builtin.«set_iterator.__next__»
 refine AA (AB ?_)
 refine AA (Cd hoI hdI ?_)
 dsimp only
 unfold setEntries
 refine AA (AA (Ak ho hdat hf (AB ?_)))
 rw[if_neg (by simp)]
 unfold seqItems?
 refine AA (AA (D0 hop ?_))
 rw[hdp]
 refine AB ?_
 dsimp only
 have ek:(pl.map fun (i:Nat)=>rawInt i).toArray[((i:Nat):Int).toNat]? = some (rawInt k):=by
  rw[BW]
  simp[hk]
 rw[ek]
 dsimp only[rawInt]
 unfold setNextDrawn
 refine AA (AA (Ak ho hdat hf ?_))
 dsimp only
 rw[if_neg (by simp)]
 rw[BW,he]
 refine AB ?_
 refine AA (BP hoI hdI (by simp) ?_)
 refine AB ⟨_,rfl,AB (hQ _ ⟨⟨_,Ae _ hoI (BO (Ap hdI _)),?_,?_⟩,op,?_,m,hdp⟩ (As ..))⟩
 ·rw[CJ]
  exact hcI
 ·rw[Ap hdI]
  simp[rawInt]
 ·exact (A4 _ _ Ip).trans hop
theorem wb {Q:Option Value->Shared->Prop} {n:Nat} (hh:A.handled=none) (hit:DrIt s.heap I a p n n ep pl) (hn:n=es.size) (hl:pl.length=n) (hd:EnAt s.heap a es ep t)
  (hQ:∀ h',Heap.ExtBut I s.heap h'->Q none { s with heap:=h' }) :
  wpAny (model prog w) A (pyNext (.ref I)) Q E s:=by
 obtain⟨⟨oI,hoI,hcI,hdI⟩,op,hop,m,hdp⟩:=id hit
 obtain⟨o,ho,hx,hdat,hf⟩:=id hd
 subst hn
 unfold pyNext
 refine AA (BI (wpAny_callSpecial?_slot (name:=Str.ofString "__next__") hit.typeIs zn
  (An zn hit.typeIs zV ?_ (qa _))))
 unfold Builtin.«set_iterator.__next__»
 refine AA (AB ?_)
 refine AA (Cd hoI hdI ?_)
 dsimp only
 unfold setEntries
 refine AA (AA (Ak ho hdat hf (AB ?_)))
 rw[if_neg (by simp)]
 unfold seqItems?
 refine AA (AA (D0 hop ?_))
 rw[hdp]
 refine AB ?_
 dsimp only
 have ek:(pl.map fun (i:Nat)=>rawInt i).toArray[((es.size:Nat):Int).toNat]? = none:=by
  rw[BW]
  simp[hl]
 rw[ek]
 dsimp only
 refine AA (BP hoI hdI (by simp) ?_)
 have h1:=Ae (Obj.mapFields (·.setIfInBounds 0 (rawInt 0))) hoI (BO (Ap hdI _))
 have d1:=Ap hdI (·.setIfInBounds 0 (rawInt 0))
 refine AA (BP h1 d1 (by simp) ?_)
 show wpAny _ _ (newExc (.type "StopIteration") [] >>= _) _ _ _
 refine AA ?_
 simp only[newExc,newTuple]
 refine AA (Aj ?_ (by size_fits))
 refine AA (m:=firstArgMember _ _) (A3 (a:=Value.none) (by first | rfl | (simp only[firstArgMember];rfl)) ?_)
 refine Aj ?_ (by size_fits)
 simp only[raiseNew]
 refine AA (DM ?_)
 rw[show A.in1.handled=none from hh]
 refine AA (AB (De ?_))
 refine AA (Br (T := "StopIteration") (b:=true) ⟨_,AH _ rfl,rfl⟩ Dh ?_)
 exact AB (hQ _ ((((As ..).trans (As ..)).extBut.push _).push _))
theorem walks_dr (hh:A.handled=none) (hp:I ≠ p) (ha:I ≠ a) (hl:pl.Perm (List.range es.size)):Walks prog w A I [I,a,p] [I] es.size (fun i v=>∃ k e,pl[i]? = some k/\es[k]? = some e/\v=e.2) (fun i h=>DrIt h I a p i es.size ep pl/\EnAt h a es ep t) where
 sub:=fun b hb=>by simp at hb;simp[hb]
 frame:=fun _ _ _ st hk=>by
  obtain⟨⟨⟨o1,e1,r1⟩,o2,e2,r2⟩,o3,e3,r3⟩:=st
  exact⟨⟨⟨o1,hk I (by simp) o1 e1,r1⟩,o2,hk p (by simp) o2 e2,r2⟩,o3,hk a (by simp) o3 e3,r3⟩
 item:=fun i s Q E hi st hQ=>by
  have hi':i < pl.length:=by rw[hl.length_eq,Av];exact hi
  have hk:pl[i]? = some pl[i]:=AK hi'
  have hm:pl[i] < es.size:=BN.mp (hl.mem_iff.mp (Bc hi'))
  have he:es[pl[i]]? = some es[pl[i]]:=BZ hm
  refine Jj hp st.1 rfl st.2 hk he fun h' hit' hs'=>?_
  obtain⟨o3,e3,r3⟩:=st.2
  exact hQ _ h' s.toks ⟨_,_,hk,he,rfl⟩ ⟨hit',o3,hs'.extBut a o3 (Am ha) e3,r3⟩ fun b o hb e=>hs'.extBut b o (fun h=>hb (by simp[h])) e
 done:=fun s Q E st hQ=>wb hh st.1 rfl (by rw[hl.length_eq,Av]) st.2 fun h' he'=>hQ h' s.toks fun b o hb e=>he' b o (fun h=>hb (by simp[h])) e
 self:=fun _ _ _ _ st hQ=>by
  refine CH st.1.typeIs qJ (An qJ st.1.typeIs j9 ?_ (Zq _))
  show wpAny _ _ (ret (.ref I)) _ _ _
  exact AB ⟨_,rfl, "set_iterator",_,st.1.typeIs,zn.lookup,hQ⟩
theorem Yu {R:List Value->Shared->Prop} (hh:A.handled=none) (hd:EnAt s.heap a es ep t) (hdr:(!zZ w && (!t.plain && decide (es.size > 1)))=true) (hz:es.size<=sizeLine)
  (h:∀ (h':Heap) (tk:Nat) (d':Drawn) (pl:List Nat) (acc:Array Value),(∀ b o,s.heap.get? b=some o->h'.get? b=some o)->pl.Perm (List.range es.size)->ItemsOf (fun i v=>∃ k e,pl[i]? = some k/\es[k]? = some e/\v=e.2) acc es.size->R acc.toList { s with heap:=h',toks:=tk,drawn:=d' }) :
  wpAny (model prog w) A (collect (.ref a)) R E s:=by
 obtain⟨o,ho,hx,hdat,hf⟩:=id hd
 have la:=AJ ho
 unfold collect
 refine AA (Df (Ax entry_proto_collect' ?_))
 rw[Au PySem.F.plain_proto_collect _]
 show wpAny _ A.in1 (newList [] >>= fun l=>again (.builtin "list.__iadd__" ⟨[l,.ref a],[]⟩)) _ _ s
 refine AA (Aj ?_)
 refine AB ⟨BQ PySem.F.plain_list_iadd _,Ax entry_list_iadd' ?_⟩
 rw[Au PySem.F.plain_list_iadd _]
 have hS1:(s.heap.push { cls:=.type "list",data:=.seq ([]:List Value).toArray }).get? s.heap.objs.size=some { cls:=.type "list",data:=.seq #[] }:=AH _ rfl
 show wpAny _ A.in1 (Builtin.List.listExtendWith (.ref s.heap.objs.size) (.ref a) (.ref s.heap.objs.size)) _ _ _
 have hd1:EnAt (s.heap.push { cls:=.type "list",data:=.seq ([]:List Value).toArray }) a es ep t:=⟨o,AD _ ho,hx,hdat,hf⟩
 have sz1:(s.heap.push { cls:=.type "list",data:=.seq ([]:List Value).toArray }).objs.size=s.heap.objs.size+1:=Bb ..
 have kp1:∀ b ob,s.heap.get? b=some ob->(s.heap.push { cls:=.type "list",data:=.seq ([]:List Value).toArray }).get? b=some ob:=fun b ob e=>AD _ e
 generalize s.heap.push { cls:=.type "list",data:=.seq ([]:List Value).toArray } = g1 at hS1 hd1 sz1 kp1 ⊢
 have key:∀ (g2:Heap) (tk c1:Nat) (d':Drawn) (I p:Addr) (pl:List Nat),pl.Perm (List.range es.size)->s.heap.objs.size < I->s.heap.objs.size < p->I ≠ p->DrIt g2 I a p 0 es.size ep pl->EnAt g2 a es ep t->(∀ b ob,b < s.heap.objs.size->g1.get? b=some ob->g2.get? b=some ob)->g2.get? s.heap.objs.size=some { cls:=.type "list",data:=.seq #[] c1 } ->
   codeAny (model prog w) A (.builtin "list.extend.loop" ⟨[.ref s.heap.objs.size,.ref I,.ref s.heap.objs.size],[]⟩) (fun r s'=>∃ (h':Heap) (tk:Nat) (acc':Array Value) (c':Nat) (d':Drawn) (pl:List Nat),r=.ok (.ret (.ref s.heap.objs.size))/\s' = { s with heap:=h',toks:=tk,drawn:=d' }/\(∀ b o,s.heap.get? b=some o->h'.get? b=some o)/\h'.get? s.heap.objs.size=some { cls:=.type "list",dict:=none,data:=.seq acc' c',slots:=#[] }/\pl.Perm (List.range es.size)/\ItemsOf (fun i v=>∃ k e,pl[i]? = some k/\es[k]? = some e/\v=e.2) acc' es.size) { s with heap:=g2,toks:=tk,drawn:=d' }:=by
  intro g2 tk c1 d' I p pl hpl hI hp hne hit hen kp hS
  refine codeAny_extend_loopS (walks_dr (A:=A.in1) (t:=t) (ep:=ep) hh hne (BE (Ci la hI)) hpl).toS hz s.heap.objs.size (by
   simp only[List.mem_cons,List.not_mem_nil,or_false,not_or]
   exact⟨AN hI,BE la,AN hp⟩) _ es.size 0 _ #[] c1 rfl (A0 _) ⟨hit,hen⟩ hS (ItemsOf.nil _) fun s' acc' c' hm hS' hacc=>?_
  refine⟨s'.heap,s'.toks,acc',c',d',pl,rfl,?_,fun b ob e=>hm.heap b ob (fun hb=>?_) (kp b ob (AJ e) (kp1 b ob e)),hS',hpl,hacc⟩
  ·have e1:=hm.gens
   have e2:=hm.drawn
   have e3:=hm.os
   obtain⟨q1,q2,q3,q4,q5⟩:=s'
   dsimp only at e1 e2 e3 ⊢
   rw[e1,e2,e3]
  ·have hl:=AJ e
   rcases AR.mp hb with z | z
   ·exact absurd hl (z ▸ BC _)
   ·rw[AF.mp z] at hl
    exact absurd hl (Nat.not_lt_of_gt hI)
 have fin:∀ (r:Result) (s':Shared),(∃ (h':Heap) (tk:Nat) (acc':Array Value) (c':Nat) (d':Drawn) (pl:List Nat),r=.ok (.ret (.ref s.heap.objs.size))/\s' = { s with heap:=h',toks:=tk,drawn:=d' }/\(∀ b o,s.heap.get? b=some o->h'.get? b=some o)/\h'.get? s.heap.objs.size=some { cls:=.type "list",dict:=none,data:=.seq acc' c',slots:=#[] }/\pl.Perm (List.range es.size)/\ItemsOf (fun i v=>∃ k e,pl[i]? = some k/\es[k]? = some e/\v=e.2) acc' es.size)->r=.ok (.ret (.ref s.heap.objs.size))/\wpAny (model prog w) A (load s.heap.objs.size >>= fun o=>match o.data with
     | Data.seq xs _=>pure xs.toList
     | _=>unsupported "internal:collect") R E s':=by
  rintro r s' ⟨h',tk,acc',c',d',pl,e,rfl,hk,hS',hpl,hacc⟩
  exact⟨e,AA (D0 hS' (AB (h h' tk d' pl acc' hk hpl hacc)))⟩
 unfold Builtin.List.listExtendWith
 have hT:Shared.TypeIs { s with heap:=g1 } (.ref a) "set":=by
  obtain⟨o',ho',hx',_⟩:=hd1
  exact⟨o',ho',hx'.1⟩
 refine AA (Bp (T := "set") hT ?_)
 have h1:Builtin.List.listSameRef (.ref s.heap.objs.size) (.ref a)=false:=by simp[Builtin.List.listSameRef,Nat.ne_of_gt la]
 simp only[h1,show (Value.type "set" == Value.type "list")=false by decide,show (Value.type "set" == Value.type "tuple")=false by decide,Bool.or_false,Bool.false_eq_true,if_false]
 refine AA (Xj hd1 hdr hz fun pl d' hpl=>?_)
 have k2:∀ b ob,g1.get? b=some ob->((g1.push { cls:=.type "tuple",data:=.seq (pl.map fun (i:Nat)=>rawInt i).toArray }).push { cls:=.type "set_iterator",data:=.fields #[.ref g1.objs.size,.int (0:Nat) 0,.ref a,.int (es.size:Nat) 0,.int (ep:Nat) 0] }).get? b=some ob:=fun b ob e=>AD _ (AD _ e)
 have hit:DrIt ((g1.push { cls:=.type "tuple",data:=.seq (pl.map fun (i:Nat)=>rawInt i).toArray }).push { cls:=.type "set_iterator",data:=.fields #[.ref g1.objs.size,.int (0:Nat) 0,.ref a,.int (es.size:Nat) 0,.int (ep:Nat) 0] }) (g1.objs.size+1) a g1.objs.size 0 es.size ep pl:=by
  refine⟨⟨{ cls:=.type "set_iterator",data:=.fields #[.ref g1.objs.size,.int (0:Nat) 0,.ref a,.int (es.size:Nat) 0,.int (ep:Nat) 0] },?_,rfl,rfl⟩,_,AD _ (AH _ rfl),_,rfl⟩
  have e:(g1.push { cls:=.type "tuple",data:=.seq (pl.map fun (i:Nat)=>rawInt i).toArray }).objs.size=g1.objs.size+1:=Bb ..
  rw[<- e]
  exact AH _ rfl
 dsimp only
 generalize (g1.push { cls:=.type "tuple",data:=.seq (pl.map fun (i:Nat)=>rawInt i).toArray }).push { cls:=.type "set_iterator",data:=.fields #[.ref g1.objs.size,.int (0:Nat) 0,.ref a,.int (es.size:Nat) 0,.int (ep:Nat) 0] } = g2 at k2 hit ⊢
 have hS2:=k2 _ _ hS1
 have hd2:EnAt g2 a es ep t:=by
  obtain⟨o',ho',r'⟩:=hd1
  exact⟨o',k2 _ _ ho',r'⟩
 have nI:s.heap.objs.size < g1.objs.size+1:=by rw[sz1];exact BF (BR _)
 have np:s.heap.objs.size < g1.objs.size:=by rw[sz1];exact BR _
 refine AA (Ah (QU (by
  obtain⟨o',ho',hx',_⟩:=hd2
  exact⟨o',ho',hx'.1⟩) ?_))
 refine Ar (fun _=>?_) (fun _=>?_)
 ·refine AA (Ba ?_)
  refine AA ?_
  show wpAny _ _ (updateSeq s.heap.objs.size (·.push .none) >>= fun _=>updateSeq s.heap.objs.size (·.pop)) _ _ _
  refine AA (Cr hS2 rfl ?_)
  have hS3:=Ae (Obj.mapSeq (·.push Value.none)) hS2 rfl
  refine Cr (hz:=by seq_fits) hS3 rfl ?_
  have hS4:=Ae (Obj.mapSeq (·.pop)) hS3 rfl
  have k4:∀ b ob,b ≠ s.heap.objs.size->g2.get? b=some ob->((g2.update s.heap.objs.size (Obj.mapSeq (·.push Value.none))).update s.heap.objs.size (Obj.mapSeq (·.pop))).get? b=some ob:=fun b ob hb e=>(A4 _ _ (Am hb)).trans ((A4 _ _ (Am hb)).trans e)
  refine AB ⟨BQ CI _,Bf (key _ s.toks _ d' (g1.objs.size+1) g1.objs.size pl hpl nI np (BE (BR _)) ?_ ?_ (fun b ob hb e=>k4 b ob (AN hb) (k2 b ob e)) hS4) fun r s' z=>?_⟩
  ·obtain⟨⟨o1,e1,r1⟩,o2,e2,r2⟩:=hit
   exact⟨⟨o1,k4 _ _ (BE nI) e1,r1⟩,o2,k4 _ _ (BE np) e2,r2⟩
  ·obtain⟨o3,e3,r3⟩:=hd2
   exact⟨o3,k4 _ _ (AN la) e3,r3⟩
  ·obtain⟨e,z2⟩:=fin r s' z
   cases e
   exact z2
 ·refine AB ⟨BQ CI _,Bf (key _ s.toks _ d' (g1.objs.size+1) g1.objs.size pl hpl nI np (BE (BR _)) hit hd2 (fun b ob _ e=>k2 b ob e) hS2) fun r s' z=>?_⟩
  obtain⟨e,z2⟩:=fin r s' z
  cases e
  exact z2
end
theorem QZ {α:Type} [DecidableEq α]:∀ (l m:List α),l.Nodup->(∀ x ∈ l,x ∈ m)->m.length=l.length->m.Perm l
 | [],m,_,_,h=>by rw[CQ.mp h]
 | x :: l,m,nd,hs,hl=>by
  obtain⟨n1,n2⟩:=BA.mp nd
  have hx:=hs x AO
  refine (List.perm_cons_erase hx).trans (List.Perm.cons _ (QZ l (m.erase x) n2 (fun y hy=>?_) ?_))
  ·exact (List.mem_erase_of_ne (fun (e:y=x)=>n1 (e ▸ hy))).mpr (hs y (AU _ hy))
  ·rw[C5 hx,hl,Ab]
   omega
theorem JM {acc:Array Value} {W:List (Int×Value)} (hl:acc.size=W.length) (hi:∀ (i:Nat) (v:Value),acc[i]? = some v->∃ e:Int×Value,W[i]? = some e/\v=e.2) (hv:∀ e ∈ W,∃ x tk,e.2=Value.str x tk):∃ ss,StrsAre acc.toList ss/\StrsAre (W.map (·.2)) ss:=by
 have e:acc.toList=W.map (·.2):=by
  refine Dm fun i=>?_
  rw[AW,Bo]
  by_cases h:i < acc.size
  ·have g:acc[i]? = some acc[i]:=BZ h
   obtain⟨e,he,ee⟩:=hi i _ g
   rw[g,he,ee]
   rfl
  ·rw[Bj (by omega),CA (by omega)]
   rfl
 rw[e]
 clear e hi hl
 induction W with
 | nil=>exact⟨[],.nil,.nil⟩
 | cons z W ih=>
  obtain⟨ss,h1,h2⟩:=ih fun e he=>hv e (AU _ he)
  obtain⟨x,tk,ex⟩:=hv z AO
  refine⟨x :: ss,?_,?_⟩ <;> · rw[AQ,ex];exact .cons x tk (by assumption)
theorem Wg {us vs:List Value} (h:us.Perm vs):∀ {ss ts:List Str},StrsAre us ss->StrsAre vs ts->ss.Perm ts:=by
 have e:∀ {us:List Value} {ss:List Str},StrsAre us ss->us.map strOf=ss:=fun h=>h.strs
 intro ss ts h1 h2
 rw[<- e h1,<- e h2]
 exact h.map _
theorem Yv {a:Addr} {l:List Str} {R:List Value->Shared->Prop} (hh:A.handled=none) (hS:Xg prog w (!zZ w) s.heap a l) (nd:l.Nodup)
  (h:∀ (h':Heap) (tk:Nat) (d':Drawn) (vs:List Value) (ss:List Str),(∀ b o,s.heap.get? b=some o->h'.get? b=some o)->StrsAre vs ss->ss.Perm l->R vs { s with heap:=h',toks:=tk,drawn:=d' }) :
  wpAny (model prog w) A (collect (.ref a)) R E s:=by
 obtain⟨o,es,ep,t,ho,hx,hdat,hel,hmem,hb,hf,hn,ti⟩:=hS
 have hz:es.size<=sizeLine:=B4 hb
 have hv:∀ e ∈ es.toList,∃ x tk,e.2=Value.str x tk:=fun e he=>by
  obtain⟨⟨k,hk,_⟩,_⟩:=hel e he
  cases hs:e.2 with
  | str x tk=>exact⟨x,tk,rfl⟩
  | _=>rw[hs] at hk;simp[PySem.strKind,Value.isStrOf] at hk
 have lp:∀ (ss:List Str),StrsAre (es.toList.map (·.2)) ss->ss.Perm l:=fun ss hss=>by
  refine QZ l ss nd (fun x hx=>?_) ?_
  ·obtain⟨e,he,hk⟩:=(hmem x).mp (BV hx)
   have e1:=hss.strs
   have:strOf e.2 ∈ ss:=by
    rw[<- e1]
    exact AS.mpr ⟨e.2,AS.mpr ⟨e,he,rfl⟩,rfl⟩
   obtain⟨y,tk,ey⟩:=hv e he
   rw[ey] at hk this
   have:x=y:=by
    simp[PySem.strKind,Value.isStrOf] at hk
    first | exact hk | exact hk.symm
   subst this
   assumption
  ·have:=hss.length
   rw[AC,Ad] at this
   omega
 by_cases hdr:(!zZ w && (!t.plain && decide (es.size > 1)))=true
 ·refine Yu hh ⟨o,ho,hx,hdat,hf⟩ hdr hz fun h' tk d' pl acc hk hpl hacc=>?_
  have pl2:pl.length=es.size:=by rw[hpl.length_eq,Av]
  have hW:List.Perm (pl.map fun k=>es.getD k (0,.none)) es.toList:=by
   have h1:=hpl.map fun k=>es.getD k (0,Value.none)
   refine h1.trans (.of_eq ?_)
   refine Dm fun i=>?_
   rw[AW]
   by_cases hi:i < es.size
   ·rw[DU hi]
    simp[Array.getD,hi]
   ·rw[CA (by rw[Av];omega),CA (by rw[Ad];omega)]
    rfl
  obtain⟨ss,h1,h2⟩:=JM (acc:=acc) (W:=pl.map fun k=>es.getD k (0,.none)) (by rw[AC,pl2];exact hacc.1) (fun i v hiv=>by
   obtain⟨k,e,e1,e2,e3⟩:=hacc.2 i v hiv
   refine⟨e,?_,e3⟩
   rw[AW,e1]
   show some (es.getD k (0,.none))=some e
   have hk':=(Bl.mp e2)
   obtain⟨hk1,hk2⟩:=hk'
   simp[Array.getD,hk1,hk2]) fun e he=>hv e (hW.mem_iff.mp he)
  refine h h' tk d' acc.toList ss hk h1 ?_
  have h3:∃ ts,StrsAre (es.toList.map (·.2)) ts:=⟨_,strsAre_map _ fun v hv'=>by
   obtain⟨e,he,rfl⟩:=AS.mp hv'
   exact hv e he⟩
  obtain⟨ts,h3⟩:=h3
  exact (Wg (hW.map _) h2 h3).trans (lp ts h3)
 ·have wk:Wk w es t:=⟨ti,hf,by
   cases hb:zZ w with
   | true=>exact .inl rfl
   | false=>
    rw[hb] at hdr
    exact .inr (Cz.mpr (by simpa using hdr))⟩
  refine kdu_collect (kdl_setW (a:=a) (es:=es) (ep:=ep) (t:=t)) hh ⟨o,ho,hx,hdat,wk⟩ hz fun h' tk acc hk hacc=>?_
  have wp:=QS w a es ep
  obtain⟨ss,h1,h2⟩:=JM (acc:=acc) (W:=(QR w a es ep).toList) (by rw[Ad,qN];exact hacc.1) (fun i v hiv=>by
   obtain⟨e,e1,e2⟩:=hacc.2 i v hiv
   exact⟨e,by rw[Bo];exact e1,e2⟩) fun e he=>hv e (wp.mem_iff.mp he)
  have h3:∃ ts,StrsAre (es.toList.map (·.2)) ts:=⟨_,strsAre_map _ fun v hv'=>by
   obtain⟨e,he,rfl⟩:=AS.mp hv'
   exact hv e he⟩
  obtain⟨ts,h3⟩:=h3
  exact h h' tk s.drawn acc.toList ss hk h1 ((Wg (wp.map _) h2 h3).trans (lp ts h3))
theorem Xk {a:Addr} {l:List Str} {Q:Value->Shared->Prop} (hh:A.handled=none) (hS:Xg prog w (!zZ w) s.heap a l) (nd:l.Nodup) (h64:l.length < 64)
  (h:∀ (h1 h':Heap) (tk:Nat) (d':Drawn) (out:Array Value) (e:Nat) (ss:List Str),(∀ b o,s.heap.get? b=some o->h1.get? b=some o)->(∀ b o,h1.get? b=some o->h'.get? b=some o)->h'.get? h1.objs.size=some (seqObj "list" out e)->StrsAre out.toList ss->ss.Perm l->sortedS ss=true->Q (.ref h1.objs.size) { s with heap:=h',toks:=tk,drawn:=d' }) :
  wpAny (model prog w) A (call (.builtin "sorted") [.ref a]) Q E s:=by
 refine Calls.call_function_entry kind_sorted plain_sorted entry_sorted (args_sorted1 _) ?_
 unfold Builtin.«sorted»
 refine AA (m:=checkCount "sorted" 1 1 _) (AB ?_)
 refine AA (Yv (A:=A.in1) hh hS nd fun h' tk d' vs ss hk hv hp=>?_)
 have hl:vs.length=l.length:=by rw[hv.length,hp.length_eq]
 refine AA (wpAny_newList ?_ (by rw[hl,DH];omega))
 have hoL:(h'.push (seqObj "list" vs.toArray 0)).get? h'.objs.size=some (seqObj "list" vs.toArray 0):=AH _ rfl
 show wpAny _ _ _ _ _ { s with heap:=h'.push (seqObj "list" vs.toArray 0),toks:=tk,drawn:=d' }
 refine AA (Ah (An slot_list_sort ⟨_,hoL,rfl⟩ entry_list_sort (list_sort_treeK strKind_oneLt hoL hv.keysOf (fun v1 v2 rest e=>keyKind_strs (by rw[<- e];exact hv)) (by omega) fun st' a1 a2=>⟨_,rfl,?_⟩) (args_list_sort _)))
 obtain⟨ss',b1,b2,b3⟩:=sorted_out_str hv a1 a2
 obtain⟨e,he⟩:=sortedHeap_at (vs:=vs) (out:=(arrOf st').map (·.2)) hoL
 exact AB ⟨_,rfl,h h' _ tk d' _ e ss' hk (fun b o q1=>by
  have hb:=AJ q1
  rw[sortedHeap_old (AN hb) (by rw[Bb];exact BF hb)]
  exact AD _ q1) he b1 (b2.trans hp) b3⟩
end
def TxSet (P:Program) (w:World) (a:Addr) (l:List Str):HO:=.ext fun h=>Xg P w (!zZ w) h a l
theorem Inv.lots {X:Cx} {pins:List (Addr×Obj)} {σ:List (Option V)} {H:Hp} {s:Shared} (I:Inv X pins σ H s) (d':Drawn):Inv X pins σ H { s with drawn:=d' }:=⟨I.ok,I.os,I.bare,I.base,I.loc,I.cell,I.free,I.freeC,I.pin,I.hok,I.len⟩
theorem WZ {α:Type} [DecidableEq α] (vs:List α):(Jg vs).Nodup:=by
 have key:∀ (vs l:List α),l.Nodup->(vs.foldl xw l).Nodup:=by
  intro vs
  induction vs with
  | nil=>exact fun l h=>h
  | cons v vs ih=>
   intro l h
   refine ih _ ?_
   unfold xw
   split
   ·exact h
   ·rename_i hv
    refine Dk.mpr ⟨h,by simp,fun a ha b hb=>?_⟩
    rw[AF.mp hb]
    exact fun e=>hv (e ▸ ha)
 exact key vs [] .nil
theorem mem_dedK {α:Type} [DecidableEq α] {vs:List α} {x:α}:x ∈ Jg vs ↔ x ∈ vs:=by
 have key:∀ (vs l:List α),x ∈ vs.foldl xw l ↔ x ∈ l\/x ∈ vs:=by
  intro vs
  induction vs with
  | nil=>intro l;simp
  | cons v vs ih=>
   intro l
   rw[CO,ih,yz,AR,or_assoc]
 have:=key vs []
 simpa [Jg] using this
section
variable {X : Cx}
theorem Yw (K:PySem.W.Frag) (hc:X.calm=true) (hK:X.K=K:=by rfl):qA X (.type "set") (fun xs H Q=>∃ p ys,xs=[.ref p]/\SqL K H p (ys.map V.str)/\ys.length<=1000/\∀ a,H a=none->Q (.ref a) (upd H a (TxSet X.prog X.w a (Jg ys)))):=by
 subst hK
 intro pins s σ H xs us Q I r h
 obtain⟨p,ys,rfl,hq,hz,q⟩:=h
 obtain⟨u,rfl,ru⟩:=vals1 r
 cases ru
 obtain⟨its,rv,pl,_⟩:=I.list hq
 have hb:ys.length+1 < scanBound:=by unfold scanBound;omega
 refine Xi (I.ok.hd hc) pl.isList (Jw rv) hb fun h' tk hS hk=>?_
 have fr:=I.hok.fresh (AG s.heap.objs.size)
 refine⟨.ref s.heap.objs.size,_,I.laid (t':=tk) (o:=TxSet X.prog X.w s.heap.objs.size (Jg ys)) (fun b o e=>hk b o (AJ e) e) (AG _) ⟨hS,?_,fun h1 h2 z k=>QW z k⟩,rfl,q _ fr⟩
 obtain⟨o,_,_,_,ho,_⟩:=hS
 exact⟨o,ho⟩
theorem Xl {us:List Value} {ss:List Str} (h:StrsAre us ss):zX (ss.map V.str) us:=by
 induction h with
 | nil=>exact .nil
 | cons x t _ ih=>exact .cons ⟨t,rfl⟩ ih
theorem wc (hc:X.calm=true):qA X (.builtin "sorted") (fun xs H Q=>∃ (a:Addr) (l:List Str),xs=[.ref a]/\H a=some (TxSet X.prog X.w a l)/\l.Nodup/\l.length < 64/\∀ (k:Addr) (ss:List Str),H k=none->ss.Perm l->sortedS ss=true->Q (.ref k) (upd H k (.lst (ss.map V.str)))):=by
 intro pins s σ H xs us Q I r h
 obtain⟨a,l,rfl,ha,nd,h64,q⟩:=h
 obtain⟨u,rfl,rx⟩:=vals1 r
 cases rx
 have hd:=(I.hok a _ ha).1
 refine Xk (I.ok.hd hc) hd nd h64 fun h1 h' tk d' out e ss k1 k2 he a1 a2 a3=>?_
 have I1:Inv X pins σ H { s with heap:=h1,toks:=tk,drawn:=d' }:=(I.un (t':=tk) (Un.kept k1) (I.hok.kept k1)).lots d'
 refine⟨.ref h1.objs.size,_,I1.laid (t':=tk) (o:=.lst (ss.map V.str)) k2 (AG _) ?_,rfl,q _ ss (I1.hok.fresh (AG _)) a2 a3⟩
 refine⟨by rw[AC,a2.length_eq,DH];omega,out.toList,e,Xl a1,?_⟩
 simpa [seqObj] using he
end
section
variable {X : Cx}
def rKIn:R2:=fun y x H Q=>∃ a kvs k,x=.ref a/\y=kV k/\H a=some (.dK kvs)/\Q (.bl (jz kvs k).isSome) H
theorem op_kIn {j:Nat} (hr:jV j X.A):OpR X (compareOp .In) rKIn:=by
 intro pins s σ H x y v u Q I rx ry h
 obtain⟨a,kvs,k,rfl,rfl,ha,q⟩:=h
 have hu:X.A.units+64 < cLine:=hr.units
 obtain rfl:u=Value.ref a:=ry
 exact d_in (by omega) I (Yf.k ha) rx fun s' I'=>⟨.bl _,H,I',rfl,q⟩
theorem Wh:qA X (.builtin "len") (fun xs H Q=>∃ a kvs,xs=[.ref a]/\H a=some (.dK kvs)/\Q (.int (kvs.length:Nat)) H):=by
 intro pins s σ H xs us Q I r h
 obtain⟨a,kvs,rfl,ha,q⟩:=h
 obtain⟨u,rfl,rx⟩:=vals1 r
 cases rx
 exact d_len I (.inl ha) fun t s' I'=>⟨.int _,H,I',⟨_,rfl⟩,q⟩
end
end L2
namespace L4
open PySem L2
structure Cn where
 nm:Str
 pl:Nat
 cs:List Nat
structure Tb where
 m:Nat
 ws:List Nat
 cs:List Cn
def Cns (H:Hp):List Cn->List V->Prop:=Paired fun c v=>∃ t u,v=.ref t/\H t=some (.tup [.str c.nm,nV c.pl,.ref u])/\H u=some (.tup (c.cs.map nV))
theorem Cns.same {H H':Hp} (s:zB H H') {cs:List Cn} {vs:List V} (h:Cns H cs vs):Cns H' cs vs:=by
 unfold Cns at h ⊢
 induction h with
 | nil=>exact .nil
 | cons r _ ih=>
  obtain⟨t,u,e,h1,h2⟩:=r
  exact .cons ⟨t,u,e,s _ _ h1,s _ _ h2⟩ ih
theorem Cns.len {H:Hp} {cs:List Cn} {vs:List V} (h:Cns H cs vs):cs.length=vs.length:=Aw h
theorem Cns.get {H:Hp} {cs:List Cn} {vs:List V} (h:Cns H cs vs) {i:Nat} {c:Cn} (hc:cs[i]? = some c):∃ t u,vs[i]? = some (.ref t)/\H t=some (.tup [.str c.nm,nV c.pl,.ref u])/\H u=some (.tup (c.cs.map nV)):=by
 have hi:i < vs.length:=by
  rw[<- h.len]
  exact (AE.mp hc).1
 have e:vs[i]? = some vs[i]:=AK hi
 obtain⟨t,u,e1,h1,h2⟩:=Paired.at h i c _ hc e
 exact⟨t,u,by rw[e,e1],h1,h2⟩
def WE (H:Hp) (v:V) (T:Tb):Prop:=∃ a w c vs,v=.ref a/\H a=some (.tup [nV T.m,.ref w,.ref c])/\H w=some (.tup (T.ws.map nV))/\H c=some (.tup vs)/\Cns H T.cs vs
theorem WE.same {H H':Hp} (s:zB H H') {v:V} {T:Tb} (h:WE H v T):WE H' v T:=by
 obtain⟨a,w,c,vs,e,h1,h2,h3,h4⟩:=h
 exact⟨a,w,c,vs,e,s _ _ h1,s _ _ h2,s _ _ h3,h4.same s⟩
structure Z0 (T:Tb):Prop where
 m1:1<=T.m
 m9:T.m<=9
 ris:T.ws.Pairwise (· < ·)
 wlt:∀ x ∈ T.ws,x < T.m
 cl:T.cs.length<=16
 cn:∀ c ∈ T.cs,c.nm.length<=100/\c.pl<=2/\Tn.Cs T.m c.pl c.cs
theorem Cns.tk {H H':Hp} (s:Tk H H') {cs:List Cn} {vs:List V} (h:Cns H cs vs):Cns H' cs vs:=by
 unfold Cns at h ⊢
 induction h with
 | nil=>exact .nil
 | cons r _ ih=>
  obtain⟨t,u,e,h1,h2⟩:=r
  exact .cons ⟨t,u,e,s _ _ h1,s _ _ h2⟩ ih
theorem WE.tk {H H':Hp} (s:Tk H H') {v:V} {T:Tb} (h:WE H v T):WE H' v T:=by
 obtain⟨a,w,c,vs,e,h1,h2,h3,h4⟩:=h
 exact⟨a,w,c,vs,e,s _ _ h1,s _ _ h2,s _ _ h3,h4.tk s⟩
theorem at_nV {xs:List Nat} {i:Nat} (hi:i < xs.length):atI (xs.map nV) (i:Int)=some (nV (Tn.at' xs i)):=by
 refine qQ ?_
 rw[AW,AK hi]
 unfold Tn.at'
 rw[ED,AK hi]
 rfl
theorem Xm (a:Nat) (ws:List Nat):inV (nV a) (ws.map nV)=decide (a ∈ ws):=by
 induction ws with
 | nil=>rfl
 | cons w ws ih=>
  unfold inV at ih ⊢
  rw[AQ,B1,ih]
  have e:eqV (nV w) (nV a)=decide (a=w):=by
   by_cases h:a=w
   ·rw[h]
    simp[eqV]
   ·rw[Ay h]
    simp[eqV]
    omega
  rw[e,<- Bool.decide_or]
  exact decide_eq_decide.mpr AR.symm
theorem Q0 (ws:List Nat):(ws.map nV).all Zv=true:=by
 rw[Dn,A7]
 intro i _
 rfl
def qf (T:Tb):List Str:=T.cs.map Cn.nm
def findC (T:Tb) (nm:Str):Option Cn:=T.cs.find? fun c=>decide (c.nm=nm)
theorem yJ {T:Tb} (hn:(qf T).Nodup) {c:Cn} (hc:c ∈ T.cs):findC T c.nm=some c:=by
 obtain⟨m,ws,cs⟩:=T
 unfold findC qf at *
 dsimp only at *
 induction cs with
 | nil=>cases hc
 | cons d cs ih=>
  rw[AQ,BA] at hn
  rw[List.find?_cons]
  rcases AR.mp hc with rfl | hc
  ·rw[BV rfl]
  ·have ne:¬ d.nm=c.nm:=fun e=>hn.1 (e ▸ AS.mpr ⟨c,hc,rfl⟩)
   rw[Ay ne]
   exact ih hn.2 hc
def cellOf (T:Tb) (nm:Str) (r:List Nat):Nat:=match findC T nm with
 | some c=>Tn.at' c.cs (Tn.place T.m r)
 | none=>0
theorem Z0.cell_lt {T:Tb} (g:Z0 T) (hn:(qf T).Nodup) {c:Cn} (hc:c ∈ T.cs) {r:List Nat} (hr:Tn.Rw T.m c.pl r):cellOf T c.nm r < T.m:=by
 unfold cellOf
 rw[yJ hn hc]
 exact (g.cn c hc).2.2.at_lt (Tn.place_lt _ _ hr)
def d0:Cn:=⟨"",0,[]⟩
def we (c:Cn):List Key:=[Sum.inr c.nm,Sum.inl (c.pl:Int)]
def IsCd (H:Hp) (d:Addr) (T:Tb):Prop:=∃ kvs,H d=some (.dT kvs)/\∀ c ∈ T.cs,∃ u,jz kvs (we c)=some (.ref u)/\H u=some (.tup (c.cs.map nV))
theorem IsCd.same {H H':Hp} {d:Addr} {T:Tb} (h:IsCd H d T) (s:zB H H'):IsCd H' d T:=by
 obtain⟨kvs,h1,h2⟩:=h
 refine⟨kvs,s _ _ h1,fun c hc=>?_⟩
 obtain⟨u,e1,e2⟩:=h2 c hc
 exact⟨u,e1,s _ _ e2⟩
def Xn (T:Tb) (au:Nat->Addr) (n:Nat):List (List Key×V):=(List.range n).map fun i=>(we (T.cs.getD i d0),.ref (au i))
theorem Xo (T:Tb) (au:Nat->Addr) (n:Nat):Xn T au (n+1)=Xn T au n++[(we (T.cs.getD n d0),.ref (au n))]:=by
 unfold Xn
 rw[D4,AM]
 rfl
theorem Qb {ls:List (Str×Nat)} {x:Str} {o:Nat} (h:ls.lookup x=some o):(x,o) ∈ ls:=by
 induction ls with
 | nil=>cases h
 | cons p ls ih=>
  obtain⟨y,q⟩:=p
  rw[Bk] at h
  by_cases e:x=y
  ·subst e
   rw[C7] at h
   cases h
   exact AO
  ·rw[beq_eq_false_iff_ne.mpr e] at h
   exact AU _ (ih h)
theorem Xp (T:Tb) (au:Nat->Addr):(Xn T au T.cs.length).map Prod.fst=T.cs.map we:=by
 unfold Xn
 rw[A2]
 refine Dm fun i=>?_
 rw[AW,AW]
 by_cases hi:i < T.cs.length
 ·rw[DU hi,AK hi]
  simp[List.getD,hi]
 ·rw[CA (by rw[Av];omega),CA (by omega)]
  rfl
theorem ct_nd {T:Tb} {au:Nat->Addr} (h:(qf T).Nodup):((Xn T au T.cs.length).map Prod.fst).Nodup:=by
 rw[Xp]
 unfold qf at h
 unfold List.Nodup at h ⊢
 rw[Bw] at h ⊢
 exact h.imp fun hab e=>hab (by
  unfold we at e
  exact Cv (DY e).1)
namespace Sy
def sub:Sy->List Sy
 | .ltr x=>[.ltr x]
 | .n0 n=>[.n0 n]
 | .n1 n a=>.n1 n a :: a.sub
 | .n2 n a b=>.n2 n a b :: (a.sub++b.sub)
end Sy
theorem Sy.sub_ps (s:Sy):s.sub=s :: s.ps.flatMap Sy.sub:=by
 cases s <;> simp[Sy.sub,Sy.ps]
theorem Sy.sub_len (s:Sy):s.sub.length=s.sz:=by
 induction s with
 | ltr x=>rfl
 | n0 n=>rfl
 | n1 n a ih=>show a.sub.length+1=a.sz+1;rw[ih]
 | n2 n a b iha ihb=>show (a.sub++b.sub).length+1=a.sz+b.sz+1;rw[AI,iha,ihb]
theorem Sy.dp_sz (s:Sy):s.dp<=s.sz:=by
 induction s with
 | ltr x=>exact A0 _
 | n0 n=>exact AG _
 | n1 n a ih=>exact Du ih
 | n2 n a b iha ihb=>show max a.dp b.dp+1<=a.sz+b.sz+1;omega
theorem Sy.ps_le (s:Sy):s.ps.length<=2:=by cases s <;> simp[Sy.ps]
theorem Sy.nm_mk (nm:Str) (ss:List Sy):(Sy.mk nm ss).nm=nm:=by
 match ss with
 | []=>rfl
 | [a]=>rfl
 | a :: b :: _=>rfl
theorem Sy.ps_mk {nm:Str} {ss:List Sy} (h:ss.length<=2):(Sy.mk nm ss).ps=ss:=by
 match ss,h with
 | [],_=>rfl
 | [a],_=>rfl
 | [a,b],_=>rfl
theorem Sy.mk_isL (nm:Str) (ss:List Sy):(Sy.mk nm ss).isL=false:=by
 match ss with
 | []=>rfl
 | [a]=>rfl
 | a :: b :: _=>rfl
def GSt (T:Tb) (L:List Str):Sy->Prop
 | .ltr x=>x ∈ L
 | .n0 nm=>∃ c ∈ T.cs,c.nm=nm/\c.pl=0
 | .n1 nm a=>(∃ c ∈ T.cs,c.nm=nm/\c.pl=1)/\GSt T L a
 | .n2 nm a b=>(∃ c ∈ T.cs,c.nm=nm/\c.pl=2)/\GSt T L a/\GSt T L b
theorem GSt.node {T:Tb} {L:List Str} {s:Sy} (h:GSt T L s) (hs:s.isL=false):(∃ c ∈ T.cs,c.nm=s.nm/\c.pl=s.ps.length)/\∀ a ∈ s.ps,GSt T L a:=by
 cases s with
 | ltr x=>cases hs
 | n0 nm=>exact⟨h,fun a ha=>by cases ha⟩
 | n1 nm a=>exact⟨h.1,fun b hb=>by rw[AF.mp hb];exact h.2⟩
 | n2 nm a b=>
  refine⟨h.1,fun c hc=>?_⟩
  rcases AR.mp hc with rfl | hc
  ·exact h.2.1
  ·rw[AF.mp hc]
   exact h.2.2
theorem GSt.letter {T:Tb} {L:List Str} {s:Sy} (h:GSt T L s) (hs:s.isL=true):s.nm ∈ L:=by
 cases s with
 | ltr x=>exact h
 | _=>cases hs
theorem GSt.of {T:Tb} {L:List Str} {c:Cn} {ss:List Sy} (hc:c ∈ T.cs) (hl:c.pl=ss.length) (h:∀ a ∈ ss,GSt T L a) (h2:ss.length<=2):GSt T L (Sy.mk c.nm ss):=by
 match ss,hl,h,h2 with
 | [],hl,_,_=>exact⟨c,hc,rfl,hl⟩
 | [a],hl,h,_=>exact⟨⟨c,hc,rfl,hl⟩,h a (by simp)⟩
 | [a,b],hl,h,_=>exact⟨⟨c,hc,rfl,hl⟩,h a (by simp),h b (by simp)⟩
theorem GSt.sub {T:Tb} {L:List Str}:∀ {s a:Sy},GSt T L s->a ∈ s.sub->GSt T L a
 | .ltr x,a,h,ha=>by rw[AF.mp ha];exact h
 | .n0 n,a,h,ha=>by rw[AF.mp ha];exact h
 | .n1 n b,a,h,ha=>by
  rcases AR.mp ha with rfl | ha
  ·exact h
  ·exact GSt.sub h.2 ha
 | .n2 n b c,a,h,ha=>by
  rcases AR.mp ha with rfl | ha
  ·exact h
  ·rcases Aa.mp ha with ha | ha
   ·exact GSt.sub h.2.1 ha
   ·exact GSt.sub h.2.2 ha
theorem GSt.mono {T:Tb} {L M:List Str} (k:∀ x ∈ L,x ∈ M):∀ {s:Sy},GSt T L s->GSt T M s
 | .ltr x,h=>k x h
 | .n0 n,h=>h
 | .n1 n a,h=>⟨h.1,h.2.mono k⟩
 | .n2 n a b,h=>⟨h.1,h.2.1.mono k,h.2.2.mono k⟩
def Sy.lets:Sy->List Str
 | .ltr x=>[x]
 | .n0 _=>[]
 | .n1 _ a=>a.lets
 | .n2 _ a b=>a.lets++b.lets
theorem GSt.lets {T:Tb} {L:List Str}:∀ {s:Sy},GSt T L s->GSt T s.lets s
 | .ltr x,h=>AF.mpr rfl
 | .n0 n,h=>h
 | .n1 n a,h=>⟨h.1,h.2.lets⟩
 | .n2 n a b,h=>⟨h.1,h.2.1.lets.mono fun x hx=>A1 _ hx,h.2.2.lets.mono fun x hx=>Ai _ hx⟩
theorem GSt.lets_in {T:Tb} {L:List Str}:∀ {s:Sy} {x:Str},GSt T L s->x ∈ s.lets->x ∈ L
 | .ltr y,x,h,hx=>by rw[AF.mp hx];exact h
 | .n0 n,x,h,hx=>by cases hx
 | .n1 n a,x,h,hx=>GSt.lets_in (s:=a) h.2 hx
 | .n2 n a b,x,h,hx=>by
  rcases Aa.mp hx with hx | hx
  ·exact GSt.lets_in h.2.1 hx
  ·exact GSt.lets_in h.2.2 hx
def ltrs (ss:List Sy):List Str:=ss.filterMap fun s=>if s.isL=true then some s.nm else none
theorem wf (a b:List Sy):ltrs (a++b)=ltrs a++ltrs b:=List.filterMap_append
theorem QC:∀ s:Sy,ltrs s.sub=s.lets
 | .ltr x=>rfl
 | .n0 n=>rfl
 | .n1 n a=>QC a
 | .n2 n a b=>by
  show ltrs (a.sub++b.sub)=_
  rw[wf,QC a,QC b]
  rfl
def grT (T:Tb) (γ:Str->Nat):Sy->Nat
 | .ltr x=>γ x
 | .n0 nm=>cellOf T nm []
 | .n1 nm a=>cellOf T nm [grT T γ a]
 | .n2 nm a b=>cellOf T nm [grT T γ a,grT T γ b]
def ww (T:Tb) (ls:List (Str×Nat)):Sy->Nat->Prop
 | .ltr x,y=>match ls.lookup x with
  | some o=>y=o
  | none=>y < T.m
 | .n0 nm,y=>y=cellOf T nm []
 | .n1 nm a,y=>∃ p,ww T ls a p/\y=cellOf T nm [p]
 | .n2 nm a b,y=>∃ p q,ww T ls a p/\ww T ls b q/\y=cellOf T nm [p,q]
def PosL (T:Tb) (ls:List (Str×Nat)):List Sy->List Nat->Prop:=Paired (ww T ls)
theorem Xq {T:Tb} {ls:List (Str×Nat)} {ss:List Sy} {r:List Nat} {s:Sy} {y:Nat} (h:PosL T ls ss r) (k:ww T ls s y):PosL T ls (ss++[s]) (r++[y]):=by
 unfold PosL at h ⊢
 induction h with
 | nil=>exact .cons k .nil
 | cons z _ ih=>exact .cons z ih
theorem Qo {T:Tb} {ls:List (Str×Nat)} {s:Sy}:∀ {ss:List Sy} {r:List Nat},PosL T ls (ss++[s]) r->∃ r' y,r=r'++[y]/\PosL T ls ss r'/\ww T ls s y
 | [],_,.cons k .nil=>⟨[],_,rfl,.nil,k⟩
 | a :: ss,_,.cons k t=>by
  obtain⟨r',y,rfl,h1,h2⟩:=Qo (ss:=ss) t
  exact⟨_ :: r',y,rfl,.cons k h1,h2⟩
theorem pos_node {T:Tb} {ls:List (Str×Nat)} {s:Sy} (hs:s.isL=false) (y:Nat):ww T ls s y ↔ ∃ r,PosL T ls s.ps r/\y=cellOf T s.nm r:=by
 cases s with
 | ltr x=>cases hs
 | n0 nm=>
  constructor
  ·intro h
   exact⟨[],.nil,h⟩
  ·rintro⟨r,h,e⟩
   cases h
   exact e
 | n1 nm a=>
  constructor
  ·rintro⟨p,h,e⟩
   exact⟨[p],.cons h .nil,e⟩
  ·rintro⟨r,h,e⟩
   cases h with
   | cons k t=>
    cases t
    exact⟨_,k,e⟩
 | n2 nm a b=>
  constructor
  ·rintro⟨p,q,h,k,e⟩
   exact⟨[p,q],.cons h (.cons k .nil),e⟩
  ·rintro⟨r,h,e⟩
   cases h with
   | cons k t=>
    cases t with
    | cons k2 t=>
     cases t
     exact⟨_,_,k,k2,e⟩
theorem JN {T:Tb} {ls:List (Str×Nat)} {s:Sy} (hs:s.isL=true) (y:Nat):ww T ls s y ↔ (match ls.lookup s.nm with
  | some o=>y=o
  | none=>y < T.m):=by
 cases s with
 | ltr x=>exact Iff.rfl
 | _=>cases hs
theorem yK {T:Tb} (g:Z0 T) (nd:(qf T).Nodup) {L:List Str} {ls:List (Str×Nat)} (hls:∀ p ∈ ls,p.2 < T.m):∀ {s:Sy} {y:Nat},GSt T L s->ww T ls s y->y < T.m
 | .ltr x,y,h,hy=>by
  unfold ww at hy
  cases e:ls.lookup x with
  | none=>
   rw[e] at hy
   exact hy
  | some o=>
   rw[e] at hy
   have hy:y=o:=hy
   rw[hy]
   exact hls (x,o) (Qb e)
 | .n0 nm,y,⟨c,hc,e,p⟩,hy=>by
  have hy:y=cellOf T nm []:=hy
  rw[hy,<- e]
  exact g.cell_lt nd hc ⟨p.symm,fun x hx=>by cases hx⟩
 | .n1 nm a,y,⟨⟨c,hc,e,p⟩,h⟩,⟨u,hu,hy⟩=>by
  rw[hy,<- e]
  exact g.cell_lt nd hc ⟨p.symm,fun x hx=>by rw[AF.mp hx];exact yK g nd hls h hu⟩
 | .n2 nm a b,y,⟨⟨c,hc,e,p⟩,h1,h2⟩,⟨u,v,hu,hv,hy⟩=>by
  rw[hy,<- e]
  refine g.cell_lt nd hc ⟨p.symm,fun x hx=>?_⟩
  rcases AR.mp hx with rfl | hx
  ·exact yK g nd hls h1 hu
  ·rw[AF.mp hx]
   exact yK g nd hls h2 hv
def Keeps (γ:Str->Nat) (ls:List (Str×Nat)):Prop:=∀ p ∈ ls,γ p.1=p.2
theorem Wi {T:Tb} {ls:List (Str×Nat)} {γ:Str->Nat} (hγ:∀ x,γ x < T.m) (k:Keeps γ ls):∀ (s:Sy),ww T ls s (grT T γ s)
 | .ltr x=>by
  unfold ww
  cases e:ls.lookup x with
  | none=>exact hγ x
  | some o=>exact k (x,o) (Qb e)
 | .n0 nm=>rfl
 | .n1 nm a=>⟨_,Wi hγ k a,rfl⟩
 | .n2 nm a b=>⟨_,_,Wi hγ k a,Wi hγ k b,rfl⟩
theorem Q1 {T:Tb} {ls:List (Str×Nat)} {γ:Str->Nat}:∀ {s:Sy} {y:Nat},(∀ x ∈ s.lets,ls.lookup x=some (γ x))->ww T ls s y->y=grT T γ s
 | .ltr x,y,h,hy=>by
  unfold ww at hy
  rw[h x (AF.mpr rfl)] at hy
  exact hy
 | .n0 nm,y,h,hy=>hy
 | .n1 nm a,y,h,⟨p,hp,e⟩=>by
  rw[e,Q1 (s:=a) h hp]
  rfl
 | .n2 nm a b,y,h,⟨p,q,hp,hq,e⟩=>by
  rw[e,Q1 (fun x hx=>h x (A1 _ hx)) hp,Q1 (fun x hx=>h x (Ai _ hx)) hq]
  rfl
def Clo (T:Tb) (ls:List (Str×Nat)) (ps:List Sy) (S:Sy):Prop:=(∃ p ∈ ps,∀ y,ww T ls p y->y ∉ T.ws)\/∀ y,ww T ls S y->y ∈ T.ws
def Bar (T:Tb) (γ:Str->Nat) (ps:List Sy) (S:Sy):Prop:=(∀ p ∈ ps,grT T γ p ∈ T.ws)/\grT T γ S ∉ T.ws
def Gd (T:Tb) (γ:Str->Nat):Prop:=∀ x,γ x < T.m
def FolL (T:Tb) (ls:List (Str×Nat)) (ps:List Sy) (S:Sy):Prop:=∀ γ,Gd T γ->Keeps γ ls->¬ Bar T γ ps S
def Fol (T:Tb) (ps:List Sy) (S:Sy):Prop:=∀ γ,Gd T γ->¬ Bar T γ ps S
theorem fol_nil {T:Tb} {ps:List Sy} {S:Sy}:FolL T [] ps S ↔ Fol T ps S:=⟨fun h γ g=>h γ g (fun p hp=>by cases hp),fun h γ g _=>h γ g⟩
theorem clo_fol {T:Tb} {ls:List (Str×Nat)} {ps:List Sy} {S:Sy} (h:Clo T ls ps S):FolL T ls ps S:=fun γ g k b=>by
 rcases h with ⟨p,hp,hn⟩ | h
 ·exact hn _ (Wi g k p) (b.1 p hp)
 ·exact b.2 (h _ (Wi g k S))
theorem bar_of {T:Tb} {ls:List (Str×Nat)} {ps:List Sy} {S:Sy} {γ:Str->Nat} (h:¬ Clo T ls ps S) (hp:∀ p ∈ ps,∀ x ∈ p.lets,ls.lookup x=some (γ x)) (hS:∀ x ∈ S.lets,ls.lookup x=some (γ x)):Bar T γ ps S:=by
 refine⟨fun p hpp=>CL fun hn=>h (.inl ⟨p,hpp,fun y hy=>?_⟩),fun hn=>h (.inr fun y hy=>?_)⟩
 ·rw[Q1 (hp p hpp) hy]
  exact hn
 ·rw[Q1 hS hy]
  exact hn
theorem Xr {T:Tb} {ls:List (Str×Nat)} {ps:List Sy} {S:Sy} (x:Str) (h:∀ o,o < T.m->FolL T (ls++[(x,o)]) ps S):FolL T ls ps S:=fun γ g k=>h (γ x) (g x) γ g fun p hp=>by
 rcases Aa.mp hp with hp | hp
 ·exact k p hp
 ·rw[AF.mp hp]
theorem Yx {γ:Str->Nat} {ls ms:List (Str×Nat)} (h:Keeps γ (ls++ms)):Keeps γ ls:=fun p hp=>h p (A1 _ hp)
def Zb (H:Hp) (g:Addr) (ls:List (Str×Nat)):Prop:=∃ kvs:List (Key×V),H g=some (.dK kvs)/\Paired (fun (p:Str×Nat) (kv:Key×V)=>kv.1=Sum.inr p.1/\∃ u,kv.2=.ref u/\H u=some (.tup [nV p.2])) ls kvs
theorem Zb.tk' {H H':Hp} {g:Addr} {ls:List (Str×Nat)} (h:Zb H g ls) (k:Tk H H') (e:∀ kvs,H g=some (.dK kvs)->H' g=some (.dK kvs)):Zb H' g ls:=by
 obtain⟨kvs,h1,h2⟩:=h
 refine⟨kvs,e kvs h1,Paired.imp' (fun _ _ z=>?_) h2⟩
 obtain⟨e1,u,e2,e3⟩:=z
 exact⟨e1,u,e2,k _ _ e3⟩
theorem Zb.same {H H':Hp} {g:Addr} {ls:List (Str×Nat)} (h:Zb H g ls) (s:zB H H'):Zb H' g ls:=h.tk' (Tk.of s) fun kvs e=>s _ _ e
theorem yL {H:Hp} {ls:List (Str×Nat)} {kvs:List (Key×V)} (h:Paired (fun (p:Str×Nat) (kv:Key×V)=>kv.1=Sum.inr p.1/\∃ u,kv.2=.ref u/\H u=some (.tup [nV p.2])) ls kvs) (x:Str) :
  match ls.lookup x with
  | some o=>∃ u,jz kvs (Sum.inr x)=some (.ref u)/\H u=some (.tup [nV o])
  | none=>jz kvs (Sum.inr x)=none:=by
 induction h with
 | nil=>exact rfl
 | @cons p kv ls kvs r _ ih=>
  obtain⟨e1,u,e2,e3⟩:=r
  obtain⟨y,o⟩:=p
  rw[Bk]
  by_cases e:x=y
  ·subst e
   rw[C7]
   refine⟨u,?_,e3⟩
   rw[qm e1,e2]
  ·rw[beq_eq_false_iff_ne.mpr e,qo (by rw[e1];intro z;exact e (Cv z).symm)]
   exact ih
theorem sets_put {ls:List (Str×Nat)} {kvs:List (Key×V)} {H:Hp} {x:Str} {v:V} (h:Paired (fun (p:Str×Nat) (kv:Key×V)=>kv.1=Sum.inr p.1/\∃ u,kv.2=.ref u/\H u=some (.tup [nV p.2])) ls kvs) (hx:x ∉ ls.map Prod.fst):ZH kvs (Sum.inr x) v=kvs++[(Sum.inr x,v)]:=by
 unfold ZH
 rw[if_neg]
 intro z
 obtain⟨kv,hkv,e⟩:=DA.mp z
 refine hx ?_
 clear z
 induction h with
 | nil=>cases hkv
 | @cons p kv' ls kvs r _ ih=>
  rcases AR.mp hkv with rfl | hkv
  ·rw[AQ]
   have e2:=Az e
   rw[r.1] at e2
   exact AR.mpr (.inl (Cv e2).symm)
  ·exact AU _ (ih (fun z=>hx (AU _ z)) hkv)
theorem Yy {L:List Str} {ls:List (Str×Nat)} (nd:L.Nodup) (e:ls.map Prod.fst=L) {x:Str} (hx:x ∈ L):∃ o,ls.lookup x=some o:=by
 rw[<- e] at hx
 obtain⟨p,hp,rfl⟩:=AS.mp hx
 clear e nd
 induction ls with
 | nil=>cases hp
 | cons q ls ih=>
  obtain⟨y,o⟩:=q
  rw[Bk]
  by_cases e:p.1=y
  ·rw[e,C7]
   exact⟨o,rfl⟩
  ·rw[beq_eq_false_iff_ne.mpr e]
   rcases AR.mp hp with rfl | hp
   ·exact absurd rfl e
   ·exact ih hp (AS.mpr ⟨p,hp,rfl⟩)
end L4
namespace L2
open PySem PySem.Spec PyProof.Rows
inductive ND {α:Type}:Sem α->Prop
 | pure (a:α):ND (.pure a)
 | raise (x:Value):ND (.raise x)
 | uns (w:String):ND (.unsupported w)
 | rule {t:String} {k:Unit->Sem α}:(∀ u,ND (k u))->ND (.rule t k)
 | load {a:Addr} {pt:Option Value} {k:Obj->Sem α}:(∀ o d,k { o with dict:=d } = k o)->(∀ o,ND (k o))->ND (.load a pt k)
 | update {a:Addr} {pt:Option Value} {f:Obj->Obj} {k:Unit->Sem α}:(∀ o d,f { o with dict:=d } = { f o with dict:=d })->(∀ u,ND (k u))->ND (.update a pt f k)
 | alloc {o:Obj} {k:Addr->Sem α}:(∀ a,ND (k a))->ND (.alloc o k)
 | point {l:List Value} {k:Unit->Sem α}:(∀ u,ND (k u))->ND (.point l k)
 | stack {k:List (Code×Pos)->Sem α}:(∀ u,ND (k u))->ND (.stack k)
theorem ND.bind {α β:Type} {t:Sem α} {f:α->Sem β} (h:ND t) (hf:∀ a,ND (f a)):ND (t >>= f):=by
 induction h with
 | pure a=>exact hf a
 | raise x=>exact .raise x
 | uns w=>exact .uns w
 | rule _ ih=>exact .rule ih
 | load b _ ih=>exact .load (fun o d=>Be (fun t=>t >>= f) (b o d)) ih
 | update b _ ih=>exact .update b ih
 | alloc _ ih=>exact .alloc ih
 | point _ ih=>exact .point ih
 | stack _ ih=>exact .stack ih
theorem W0 {α:Type} {a:Addr} {f:Obj->Sem α} (b:∀ o d,f { o with dict:=d } = f o) (h:∀ o,ND (f o)):ND (load a >>= f):=.load b h
theorem Wj {a:Addr} {f:Obj->Obj} (b:∀ o d,f { o with dict:=d } = { f o with dict:=d }):ND (update a f):=.update b fun _=>.pure _
theorem W1 (v:Value):ND (fieldsOf v):=by
 unfold fieldsOf
 split
 ·refine W0 (fun o d=>rfl) fun o=>?_
  split
  ·exact .pure _
  ·exact .uns _
 ·exact .uns _
theorem QD (v:Value) (i:Nat):ND (field v i):=by
 refine (W1 v).bind fun o=>?_
 split
 ·exact .pure _
 ·exact .uns _
theorem Wl (f:Array Value->Array Value) (o:Obj) (d:Option Addr):Obj.mapFields f { o with dict:=d } = { Obj.mapFields f o with dict:=d }:=by
 obtain⟨c,dd,dt,sl⟩:=o
 cases dt <;> rfl
theorem ZC (v:Value) (i:Nat) (x:Value):ND (setField v i x):=by
 unfold setField
 split
 ·unfold updateField
  refine W0 (fun o d=>rfl) fun o=>?_
  split
  ·split
   ·exact Wj fun o d=>Wl _ o d
   ·exact .uns _
  ·exact .uns _
 ·exact .uns _
theorem Wm (ty:String) (vs:List Value):ND (newFields ty vs):=by
 unfold newFields newObj
 dsimp only
 split
 ·exact ND.bind (.uns _) fun _=>.alloc fun _=>.pure _
 ·exact .alloc fun _=>.pure _
theorem Xs (env:Env) (outer:List Env):ND (behindIsImport env outer):=by
 unfold behindIsImport
 split
 ·exact .pure _
 ·split
  ·exact .pure _
  ·exact (QD _ _).bind fun _=>.pure _
theorem wg {α:Type} {f:List (Code×Pos)->Sem α} (h:∀ u,ND (f u)):ND (stack >>= f):=.stack h
theorem nd_back (env:Env) (b:Bool) (outer:List Env):ND (keptBack env b outer):=by
 unfold keptBack
 split
 ·split
  ·exact .pure _
  ·exact ND.bind (wg fun _=>.pure _) fun _=>.pure _
 ·exact .pure _
theorem yM:∀ l:List Env,ND (readyFrames l)
 | []=>by rw[readyFrames.eq_def];exact .pure _
 | env :: outer=>by
  rw[readyFrames.eq_def]
  dsimp only
  split
  ·refine W0 (fun o d=>rfl) fun o=>?_
   split
   ·exact .pure _
   ·exact (Xs env outer).bind fun b=>(nd_back env b outer).bind fun v=>(Wj fun o d=>rfl).bind fun _=>yM outer
  ·exact .uns _
theorem Yz (env:Env):ND (PySem.frameOf env):=by
 unfold PySem.frameOf
 refine ND.bind (wg fun _=>.pure _) fun l=>ND.bind ?_ fun o=>?_
 ·unfold frameObject
  split
  ·exact .pure _
  ·exact (yM _).bind fun _=>.pure _
 ·split
  ·exact .pure _
  ·exact .uns _
theorem nd_place (f:Addr) (b:Bool):ND (entryPlaceOf f b):=by
 refine wg fun acts=>?_
 split
 ·exact .pure _
 ·exact .pure _
theorem Xt (e:Value) (env:Env):ND (noteFrame e env):=by
 unfold noteFrame
 split
 ·refine (QD e 1).bind fun head=>?_
  dsimp only
  have rest:∀ f:Addr,ND (do
   let a <- PySem.frameOf env
   let b <- entryPlaceOf f (head != Value.none)
   let c <- EntryCells.newEntry head a Value.none (rawInt ↑f) Value.none b
   setField e 1 c):=fun f=>(Yz env).bind fun a=>(nd_place f _).bind fun b=>(Wm _ _).bind fun c=>ZC _ _ _
  split
  ·refine (QD head 3).bind fun x=>?_
   split
   ·exact .pure _
   ·exact (ZC _ _ _).bind fun _=>rest _
  ·exact rest _
 ·exact .uns _
theorem Q2 (e:Value) (f:Option Addr):ND (setFlight e f):=by
 refine (QD e 1).bind fun tb=>?_
 split
 ·exact ZC _ _ _
 ·exact .pure _
theorem JO (env:Env) (e:Value):ND (leaving env e):=(Xt e env).bind fun _=>Q2 e none
section
variable {prog : Program} {w : World} {A : Around} {E : Value -> Shared -> Prop} {h : Heap} {g : Array GenState} {d : Drawn} {t : Nat} {os : OsState} {nm q : Str} {C N : Addr} {bs bm bmB bmN : List Value} {hdct : Bool} {sn : List Str} {sub : List Value} {ab : Bool} {col : Option Bool} {dd : Option Addr} {k0 k1 k2 k3 k5 : Option Value} {B Bn newId nid initId inN : String} {mN : Str -> Option Value}
theorem Jk {rest:List Value} {fI:Addr} {oI:Obj} {Q:PySem.Fin->Shared->Prop} (Fn:ExcBaseFacts Bn newId inN bmN) (hBn:bmB.contains (.type Bn)=true) (FB:ExcBaseFacts B nid initId bmB) (T:OwnTail h bmB bm)
  (hC:h.get? C=some (excClassObj nm q C N bs bm hdct sn sub ab col dd k0 k1 k2 k3 k5 newId)) (hi:W.Looks (model prog w) h (typeLookup (.ref C) (Str.ofString "__init__")) (some (.ref fI))) (hf:h.get? fI=some oI) (hfc:oI.cls=.type "function") (hl:rest.length<=sizeLine)
  (k:∀ h' e,h.MadeExcOf h' e (.ref C) rest->wpAny (model prog w) A (call (.ref fI) (.ref e :: rest)) (fun r s'=>r=.none/\Q (.done (.ret (.ref e))) s') E ⟨h',g,d,t,os⟩) :
  wpAny (model prog w) A (Builtin.«type.__call__» ⟨.ref C :: rest,[]⟩) Q E ⟨h,g,d,t,os⟩:=by
 refine AA (m:=mroOf (.ref C)) (wpAny_mroOf_exc hC ?_)
 refine AA (m:=Bind.madeBy (.ref C)) (wpAny_madeBy_exc hC ?_)
 refine AA (m:=call (Value.builtin newId) (Value.ref C :: rest) []) (B7 (codeAny_call_builtin_code ?_ ?_))
 ·exact CY _ Fn.quiet
 ·refine wpAny_check_new_subU Fn hBn T hC ?_
  refine codeAny_exc_new_subU Fn hBn FB T hC ?_ hl
  have mk:h.MadeExcOf ((h.push { cls:=.type "tuple",data:=.seq rest.toArray }).push { cls:=.ref C,data:=.fields #[.ref h.objs.size,.none,.none,.none,.bool false,.none] }) (h.objs.size+1) (.ref C) rest:=
   ⟨fun b o e=>AD _ (AD _ e),B5 (DQ _),_,by rw[show h.objs.size+1=(h.push { cls:=.type "tuple",data:=.seq rest.toArray }).objs.size by rw[Bb]];exact AH _ rfl,B5 (AG _),AD _ (AH _ rfl)⟩
  have k':=k _ _ mk
  have hK:=mk.keeps
  have he:=mk.there
  generalize ((h.push { cls:=.type "tuple",data:=.seq rest.toArray }).push { cls:=.ref C,data:=.fields #[.ref h.objs.size,.none,.none,.none,.bool false,.none] })=h' at *
  generalize h.objs.size+1=e at *
  obtain⟨tt,he,_⟩:=he
  dsimp only
  refine AA (m:=isInstance (.ref e) (.ref C)) ?_
  unfold isInstance
  refine AA (BL he (Cu (hK _ _ hC) ?_))
  rw[if_neg (by simp)]
  refine AA (Ah ?_)
  unfold callSpecial? specialOf
  refine AA (AA (BL he ?_))
  refine hi _ _ _ _ hK ?_
  dsimp only
  refine Ah (AA (wpAny_bindSpecial_def (hK _ _ hf) hfc ?_))
  refine AA (Bv k' (fun r s' ⟨hr,hq⟩=>?_) fun _ _ z=>z)
  subst hr
  exact AB (AB hq)
theorem Xu {rest:List Value} {fI:Addr} {oI:Obj} {Q:Value->Shared->Prop} (Fn:ExcBaseFacts Bn newId inN bmN) (hBn:bmB.contains (.type Bn)=true) (FB:ExcBaseFacts B nid initId bmB) (T:OwnTail h bmB bm)
  (hC:h.get? C=some (excClassObj nm q C N bs bm hdct sn sub ab col dd k0 k1 k2 k3 k5 newId)) (hi:W.Looks (model prog w) h (typeLookup (.ref C) (Str.ofString "__init__")) (some (.ref fI))) (hf:h.get? fI=some oI) (hfc:oI.cls=.type "function") (hl:rest.length<=sizeLine)
  (k:∀ h' e,h.MadeExcOf h' e (.ref C) rest->wpAny (model prog w) (A.under (.builtin "type.__call__" ⟨.ref C :: rest,[]⟩)) (call (.ref fI) (.ref e :: rest)) (fun r s'=>r=.none/\Q (.ref e) s') E ⟨h',g,d,t,os⟩) :
  wpAny (model prog w) A (call (.ref C) rest) Q E ⟨h,g,d,t,os⟩:=by
 have hT:Shared.TypeIs ⟨h,g,d,t,os⟩ (.ref C) "type":=⟨_,hC,rfl⟩
 refine B7 (DW ?_)
 refine AA (m:=load C) (wpAny_load' hC ?_)
 refine AA (m:=specialOf (.ref C) (Str.ofString "__call__")) (B2 hT tc_lookup ?_)
 refine AA (A3 (tc_bind _) ?_)
 refine AA (AB (wpAny_ite_true rfl (AB ⟨rfl,codeAny_call_builtin_at (CY _ (by decide +kernel)) entry_typeCall (wpAny_check_type_call_sub hC (Jk Fn hBn FB T hC hi hf hfc hl fun h' e hm=>k h' e hm))⟩)))
theorem YA {M:Model} {env:Env} {d0:Option Addr} {s:Shared} {e tt:Addr} {Q:Flow->Shared->Prop} (hb:bm.contains (.type "BaseException")=true) (hh:A.handled=none)
  (hC:s.heap.get? C=some (excClassObj nm q C N bs bm hdct sn sub ab col dd k0 k1 k2 k3 k5 newId)) (he:s.heap.get? e=some { cls:=.ref C,dict:=d0,data:=.fields #[.ref tt,.none,.none,.none,.bool false,.none] }) (k:E (.ref e) s) :
  wpAny M A (raiseStmt env (some (pure (.ref e))) none) Q E s:=by
 obtain⟨h,g,d,t,os⟩:=s
 refine AA (AB (AA (AB (AA (Ah ?_)))))
 have ty:∀ {Q:Bool->Shared->Prop},Q false ⟨h,g,d,t,os⟩->wpAny M A (isType (.ref e)) Q E ⟨h,g,d,t,os⟩:=fun hq=>AA (m:=loadHead e) (DG he (AB hq))
 have cB:(Value.ref C :: bm).contains (.type "BaseException")=true:=by
  rw[Cp,hb,Do]
 refine AA (m:=isExcClass (.ref e)) (AA (m:=isType (.ref e)) (ty (AB ?_)))
 refine AA (m:=isInstance (.ref e) (.type "BaseException")) (AA (BL he (Cu hC ?_)))
 rw[cB]
 refine AB ?_
 refine AA (m:=isType (.ref e)) (ty ?_)
 refine AA (m:=raisedInstance (.ref e)) (AA (BL he (AA (BL hC (AB ?_)))))
 refine AA (m:=setFlight (.ref e) none) (AA (m:=field (.ref e) 1) (Bq he rfl (x:=.none) rfl (AB ?_)))
 refine AA (m:=handled) (DM ?_)
 rw[hh]
 exact De k
def jR (C:Addr) (d0:Option Addr) (t0:Addr):Obj:={ cls:=.ref C,dict:=d0,data:=.fields #[.ref t0,.none,.none,.none,.bool false,.none] }
theorem Xv {e t0:Addr} {v:Value} {Q:Value->Shared->Prop} (FB:ExcBaseFacts B nid initId bmB) (T:OwnTail h bmB bm) (hC:h.get? C=some (excClassObj nm q C N bs bm hdct sn sub ab col dd k0 k1 k2 k3 k5 newId)) (he:h.get? e=some (jR C none t0))
  (k:∀ h' t1,h.get? t1=none->h'.get? t1=some { cls:=.type "tuple",data:=.seq #[v] }->h'.get? e=some (jR C none t1)->(∀ b o,b ≠ e->h.get? b=some o->h'.get? b=some o)->Q .none ⟨h',g,d,t,os⟩) :
  wpAny (model prog w) A (call (.builtin initId) [.ref e,v]) Q E ⟨h,g,d,t,os⟩:=by
 refine B7 (Bh FB.init.plain FB.initEntry (wpAny_check_init_subU FB T hC he rfl ?_))
 refine AA (m:=newTuple [v]) (wpAny_newTuple ?_ (by show 1<=sizeLine;decide))
 have he1:(h.push { cls:=.type "tuple",data:=.seq #[v] }).get? e=some (jR C none t0):=AD _ he
 refine AA (m:=Builtin.BaseException.bexcPut (.ref e) 0 (.ref h.objs.size)) (AA (m:=field (.ref e) 0) (Bq he1 rfl (x:=.ref t0) rfl ?_))
 refine AA (m:=setField (.ref e) 0 (.ref h.objs.size)) (wpAny_setField_rec he1 (by show 0 < 6;decide) fun h2 e2 sb=>?_)
 refine wpAny_letGo (AB ?_)
 refine k h2 h.objs.size (B5 (AG _)) ?_ e2 fun b o nb hb=>?_
 ·exact (sb.2 _ (BE (AJ he))).trans (AH _ rfl)
 ·exact (sb.2 b nb).trans (AD _ hb)
theorem W2 {self:Value} {what:Str} (T:OwnTail h bmB bm):refuseLoop self what bm=refuseLoop self what bmB:=by
 induction T with
 | base=>rfl
 | own _ _ _ _ ih=>rw[refuseLoop_ref,ih]
theorem wj {v:Value} (T:OwnTail h bmB bm) (hb:bmB.contains v=true):bm.contains v=true:=by
 induction T with
 | base=>exact hb
 | own _ _ _ _ ih=>rw[Cp,ih,Do]
theorem set_exc {e t0:Addr} {v:Value} {name:Str} {sa owner:String} {Q:Unit->Shared->Prop} (FS:StoreFacts B bmB sa owner) (T:OwnTail h bmB bm) (hC:h.get? C=some (excClassObj nm q C N bs bm true sn sub ab col dd k0 k1 k2 k3 k5 newId))
  (l1:W.Looks (model prog w) h (typeLookup (.ref C) (Str.ofString "__setattr__")) (some (.builtin sa))) (l2:W.Looks (model prog w) h (typeLookup (.ref C) name) none) (he:h.get? e=some (jR C none t0))
  (k:∀ h' D tk,h.get? D=none->D ≠ e->h'.Ns1 D (fun x=>if x=name then some v else none)->h'.get? e=some (jR C (some D) t0)->(∀ b o,b ≠ e->h.get? b=some o->h'.get? b=some o)->Q () ⟨h',g,d,tk,os⟩) :
  wpAny (model prog w) A (setAttr (.ref e) name v) Q E ⟨h,g,d,t,os⟩:=by
 unfold setAttr
 refine AA (D8 (AA ?_))
 unfold callSpecial? specialOf
 refine AA (AA (BL he ?_))
 refine l1 _ _ _ _ (fun _ _ z=>z) ?_
 dsimp only
 refine Ah (AA (A3 (FS.slot.bind _) ?_))
 dsimp only
 refine AA (B7 (Bh FS.slot.plain FS.entry ?_))
 refine W.check_slot FS.kind FS.split ?_ (FS.args _ _ _) ?_
 ·intro A' Q' E' s' kp hq
  refine AA (BL (kp _ _ he) ?_)
  obtain⟨h2,g2,d2,t2,os2⟩:=s'
  refine Cu (kp _ _ hC) ?_
  rw[Cp,wj T FS.hasOwner,Do]
  exact hq
 show wpAny _ _ (Builtin.«object.__setattr__» { pos:=[Value.ref e,Value.str name t,v] }) _ _ _
 rw[W.osa_eq,refuse_eq]
 refine AA (AA (BL he (AA (wpAny_mroOf_exc hC ?_))))
 rw[refuseLoop_ref,W2 T,FS.passes]
 refine AB (AA (BL he (AA (l2 _ _ _ _ (fun _ _ z=>z) (AA (AB ?_))))))
 show wpAny _ _ (Builtin.ObjectAttr.storeInOwnDict (Value.ref e) (.ref C) (Value.str name t) name v false) _ _ _
 unfold Builtin.ObjectAttr.storeInOwnDict
 refine AA (m:=ownStreamTells (.ref e) (.ref C)) (AB ?_)
 refine AA (m:=instanceDict e true) ?_
 unfold instanceDict
 refine AA (DG he ?_)
 refine AA (m:=classData C) (AA (m:=load C) (wpAny_load' hC (AB ?_)))
 have n0:h.get? h.objs.size=none:=B5 (AG _)
 have ne:h.objs.size ≠ e:=BE (AJ he)
 have he1:(h.push { cls:=.type "dict",data:=.dict #[] }).get? e=some (jR C none t0):=AD _ he
 refine AA (m:=alloc _) (wpAny_alloc' ?_)
 refine AA (m:=update e _) (wpAny_update' he1 ?_)
 refine AB ?_
 have a1:((h.push { cls:=.type "dict",data:=.dict #[] }).update e fun o=>{ o with dict:=some h.objs.size }).get? e=some (jR C (some h.objs.size) t0):=Ae _ he1 rfl
 have a2:((h.push { cls:=.type "dict",data:=.dict #[] }).update e fun o=>{ o with dict:=some h.objs.size }).get? h.objs.size=some { cls:=.type "dict",data:=.dict #[] }:=(Dy _ _ _ _ ne).trans (AH _ rfl)
 have a3:∀ b o,b ≠ e->h.get? b=some o->((h.push { cls:=.type "dict",data:=.dict #[] }).update e fun o=>{ o with dict:=some h.objs.size }).get? b=some o:=fun b o nb hb=>(Dy _ _ _ _ nb).trans (AD _ hb)
 generalize ((h.push { cls:=.type "dict",data:=.dict #[] }).update e fun o=>{ o with dict:=some h.objs.size })=h2 at *
 generalize h.objs.size=D at *
 refine AA (m:=Builtin.ObjectAttr.newKeyGuard D name (.str name t)) (AB ?_)
 have ns0:h2.Ns1 D fun _=>none:=Heap.Ns1.of_empty ⟨_,#[],_,a2,rfl,(fun x hx=>by simp at hx),fun _=>rfl⟩
 refine AA (m:=nsSet D name v) (wpAny_nsSet1 ns0 fun h3 n3 sb=>?_)
 obtain⟨o3,es3,ep3,b1,b2,b3⟩:=n3.count (ns:=[name]) (PySem.Within.cons _ _ PySem.Within.nil)
 refine AA (m:=lookBehind D _) (wpAny_lookBehind b1 (by rw[b2];exact pastItsLine_dict (Ag b3 (by show 1<=sizeLine+1;decide))) ?_)
 refine AB (AB (AB ?_))
 exact k h3 D _ n0 ne n3 ((sb.2 e (Am ne)).trans a1) fun b o nb hb=>(sb.2 b (fun z=>by rw[z,n0] at hb;cases hb)).trans (a3 b o nb hb)
theorem get_exc {e D:Addr} {oe:Obj} {vs:Array Value} {v:Value} {name:Str} {expr:Bool} {mA:Str->Option Value} {Q:Value->Shared->Prop} (FA:ExcAttrBase B bmB) (T:OwnTail h bmB bm) (hC:h.get? C=some (excClassObj nm q C N bs bm true sn sub ab col dd k0 k1 k2 k3 k5 newId))
  (l1:W.Looks (model prog w) h (typeLookup (.ref C) (Str.ofString "__getattribute__")) (some (.builtin "BaseException.__getattribute__"))) (l2:W.Looks (model prog w) h (typeLookup (.ref C) (Str.ofString "__getattr__")) none) (l3:W.Looks (model prog w) h (typeLookup (.ref C) name) none)
  (he:h.get? e=some oe) (hc:oe.cls=.ref C) (hf:oe.data=.fields vs) (hd:oe.dict=some D) (hD:h.Ns D mA) (hv:mA name=some v) (ho:handedOut v=pure v) (k:Q v ⟨h,g,d,t+1,os⟩) :
  wpAny (model prog w) A (getAttr (.ref e) name expr) Q E ⟨h,g,d,t,os⟩:=by
 have ty:∀ {M:Model} {A:Around} {E:Value->Shared->Prop} {Q:Value->Shared->Prop} {t':Nat},Q (.ref C) ⟨h,g,d,t',os⟩->wpAny M A (typeOf (.ref e)) Q E ⟨h,g,d,t',os⟩:=fun hq=>BL he (by rw[hc];exact hq)
 unfold getAttr getAttrBy
 refine AA (D8 (Ah (AA (ty (AA ?_)))))
 refine l1 _ _ _ _ (fun _ _ z=>z) ?_
 dsimp only
 rw[if_neg (show ¬ ((onTheHeap (Value.ref C) && Value.builtin "BaseException.__getattribute__" == Value.builtin "object.__getattribute__")=true) from by rw[show (Value.builtin "BaseException.__getattribute__" == Value.builtin "object.__getattribute__")=false by decide,Bool.and_false];exact AY)]
 unfold getAttrByItsOwn hookBefore
 refine AA (m:=typeLookup (.ref C) (Str.ofString "__getattr__")) (l2 _ _ _ _ (fun _ _ z=>z) ?_)
 refine AA (BI (Ah ?_))
 unfold callGetattribute
 rw[if_neg (by simp[onTheHeap])]
 unfold boundAndCalled
 refine AA (A3 (FA.ga.bind _) ?_)
 refine B7 (Bh FA.ga.plain F.entry_bexc_ga ?_)
 refine W.check_slot (owner := "BaseException") (n := "__getattribute__") ?_ ?_ ?_ ?_ ?_
 ·decide +kernel
 ·decide +kernel
 ·intro A' Q' E' s' kp hq
  refine AA (BL (kp _ _ he) ?_)
  obtain⟨h2,g2,d2,t2,os2⟩:=s'
  rw[hc]
  refine Cu (kp _ _ hC) ?_
  rw[Cp,wj T FA.hasBase,Do]
  exact hq
 ·exact F.args_bexc_ga _ _
 refine AA (m:=slotArgs "__getattribute__" 1 { pos:=[Value.ref e,Value.str name t] }) (AB ?_)
 refine AA (m:=Builtin.ObjectAttr.attrName (.str name t)) (AB (AA (ty ?_)))
 refine AA (m:=Builtin.ObjectAttr.find (.ref e) (.ref C) name) (AA (m:=typeLookup (.ref C) name) (l3 _ _ _ _ (fun _ _ z=>z) ?_))
 refine AA (m:=Builtin.ObjectAttr.getOf none) (AB (AA (m:=Builtin.ObjectAttr.dataDescriptor? none none) (AB ?_)))
 refine AA (m:=Builtin.ObjectAttr.inOwnDict name (.ref e)) (AA (m:=Builtin.ObjectAttr.ownDict e) ?_)
 refine AA (m:=loadHead e) (DG he ?_)
 rw[hf]
 show wpAny _ _ (instanceDict e false) _ _ _
 unfold instanceDict
 refine AA (DG he ?_)
 rw[hc]
 refine AA (m:=classData C) (AA (m:=load C) (wpAny_load' hC (AB ?_)))
 dsimp only
 rw[hd]
 refine AB (wpAny_nsGet hD ?_)
 rw[hv]
 refine AA (m:=rule _) (Ba (AB (AB ?_)))
 show wpAny _ _ (handedOut v) _ _ _
 rw[ho]
 exact AB k
end
def JP (e:Addr) (d:Option Addr) (h:Heap):Prop:=e < h.objs.size/\∀ o,h.get? e=some o->o.dict=d
theorem Xw {h:Heap} {a:Addr} {o:Obj} (e:h.get? a=some o):h.objs[a]? = some o:=by
 obtain⟨objs,l⟩:=h
 have e':(match objs[a]? with | some { data:=Data.freed,.. }=>none | o=>o)=some o:=e
 show objs[a]? = some o
 cases z:objs[a]? with
 | none=>rw[z] at e';cases e'
 | some u=>
  rw[z] at e'
  obtain⟨c,dd,dt,sl⟩:=u
  cases dt <;> first | exact e' | cases e'
theorem wp_kd {α:Type} {M:Model} {Γ:PySem.Ctx} {t:Sem α} {e:Addr} {d:Option Addr} (h:ND t):∀ {Q:α->Pos->Shared->Prop} {E:Value->Pos->Shared->Prop} {p:Pos} {s:Shared},JP e d s.heap->Sem.wp M Γ t Q E p s ->
  Sem.wp M Γ t (fun a p' s'=>Q a p' s'/\JP e d s'.heap) E p s:=by
 induction h with
 | pure a=>intro Q E p s k h;exact⟨h,k⟩
 | raise x=>intro Q E p s k h;exact h
 | uns w=>intro Q E p s k h;exact h.elim
 | rule _ ih=>intro Q E p s k h;exact ih () k h
 | @load a pt f b _ ih=>
  intro Q E p s k h
  obtain⟨o,ho,h⟩:=h
  exact⟨o,ho,ih o k h⟩
 | @update a pt f g b _ ih=>
  intro Q E p s k h
  refine⟨h.1,ih () ⟨?_,fun o' ho'=>?_⟩ h.2⟩
  ·show e < (s.heap.update a f).objs.size
   unfold Heap.update
   rw[Array.size_modify]
   exact k.1
  ·have r:(s.heap.objs.modify a f)[e]? = some o':=Xw (h:=s.heap.update a f) ho'
   rw[Array.getElem?_modify] at r
   by_cases z:a=e
   ·obtain⟨o,ho⟩:=C4.mp h.1
    rw[if_pos z,<- z,Xw ho] at r
    have r':f o=o':=AL r
    have fd:=Be Obj.dict (b o o.dict)
    rw[<- r']
    exact fd.trans (k.2 o (by rw[<- z];exact ho))
   ·rw[if_neg z] at r
    have ne:(s.heap.update a f).get? e=s.heap.get? e:=Dy _ _ _ _ (Am z)
    exact k.2 o' (ne.symm.trans ho')
 | @alloc o f _ ih=>
  intro Q E p s k h
  refine ih _ ⟨?_,fun o' ho'=>?_⟩ h
  ·show e < (s.heap.push o).objs.size
   rw[Bb]
   exact BF k.1
  ·refine k.2 o' ?_
   have ne:(s.heap.push o).get? e=s.heap.get? e:=Heap.get?_push_ne _ _ _ (AN k.1)
   exact ne.symm.trans ho'
 | point _ ih=>intro Q E p s k h;exact ih () k h
 | stack _ ih=>intro Q E p s k h;exact ih _ k h
theorem Z1 {α:Type} {M:Model} {A:Around} {t:Sem α} {e:Addr} {d:Option Addr} {Q:α->Shared->Prop} {E:Value->Shared->Prop} {s:Shared} (h:ND t) (hd:JP e d s.heap) (k:wpAny M A t (fun a s'=>JP e d s'.heap->Q a s') E s) :
  wpAny M A t Q E s:=fun Γ p hΓ=>Sem.wp_mono M Γ t (fun a p' s' x=>x.1 x.2) (fun _ _ _ z=>z) p s (wp_kd h hd (k Γ p hΓ))
structure FlyD (l:List Env) (H':Hp) (old:Heap) (e:Addr) (cls:Value) (d:Option Addr) (h:Heap):Prop where
 ex:∃ B a0,Heap.FlyingW B l e cls a0 h/\∀ b o,h.get? b=some o->b ∉ frs l->((∃ u,H' b=some u)\/∃ u,old.get? b=some u)->B.get? b=some o
 new:H' e=none
 nold:old.get? e=none
 dct:JP e d h
def CXD (P:Program) (w:World):CXT:=fun outer H s E e s'=>∃ (ea:Addr) (cls:Value) (d:Option Addr) (H':Hp),e=.ref ea/\s'.os=s.os/\AllBare s'.gens/\Un (frs outer) [] H H' s.heap s'.heap/\HOk P w H' s'.heap/\FlyD outer H' s.heap ea cls d s'.heap/\E cls d H'
def W3 (X:Cx) (E:XK):Prop:=∀ (pins:List (Addr×Obj)) (σ:St) (H:Hp) (s:Shared) (e:Addr) (oe:Obj) (vs:Array Value) (a0:Value),Inv X pins σ H s->H e=none->X.s₀.heap.get? e=none->s.heap.get? e=some oe->oe.data=.fields vs->vs[1]? = some .none->vs[0]? = some a0->E oe.cls oe.dict H->X.xe (.ref e) s
section
variable {P : Program} {w : World} {K : PySem.W.Frag} {mg : Str -> Option Value} {base : Heap} {N : List Str} {qual : Str} {scope : Scope} {f : Addr} {cd : Value} {A : Around} {outer : List Env} {s : Shared} {H : Hp} {E : XK}
theorem thrownD:W3 (YM (CXD P w) P w K mg base N qual scope f cd A outer s H E) E:=by
 intro pins σ H1 s1 e oe vs a0 I hn h0 he hdt hv1 hv0 q
 have hex:(YM (CXD P w) P w K mg base N qual scope f cd A outer s H E).ex=[]:=rfl
 have hst:(YM (CXD P w) P w K mg base N qual scope f cd A outer s H E).stack=envOfC qual scope s.heap.objs.size f cd :: outer:=rfl
 have ne:∀ b,b ∈ frs (envOfC qual scope s.heap.objs.size f cd :: outer)->b ≠ e:=fun b hb z=>by
  obtain⟨_,o2,e2,nf⟩:=I.stack.mem hb
  rw[z,he] at e2
  cases e2
  exact nf vs hdt
 have fin:∀ b o,s1.heap.get? b=some o->b ∉ e :: frs (envOfC qual scope s.heap.objs.size f cd :: outer)->(PySem.W.hideAll s1.heap (e :: frs (envOfC qual scope s.heap.objs.size f cd :: outer))).get? b=some o:=fun b o e1 nb=>PySem.W.hideAll_get _ e1 nb
 have neT:∀ b,((∃ u,H1 b=some u)\/∃ u,s.heap.get? b=some u)->b ≠ e:=fun b hb z=>by
  rcases hb with ⟨u,hu⟩ | ⟨u,hu⟩
  ·rw[z,hn] at hu;cases hu
  ·have h0':s.heap.get? e=none:=h0
   rw[z,h0'] at hu;cases hu
 refine Z1 (e:=e) (d:=oe.dict) (JO _ _) ⟨AJ he,fun o ho=>by rw[he] at ho;cases ho;rfl⟩ ?_
 refine wpAny_leaving_firstW (base:=PySem.W.hideAll s1.heap (e :: frs (envOfC qual scope s.heap.objs.size f cd :: outer))) (L:=s.heap.objs.size) I.ok.frames (PySem.W.funFrames_hide I.stack fun env hm a ha=>AU _ (frs_mem env hm a ha)) rfl he (fun b o z=>PySem.W.of_hideAll _ z) (DP _ AO) hdt hv1 hv0 fun h'' ⟨k1,k2,k3,k4⟩ dk=>?_
 have fl:Heap.FlyingW (PySem.W.hideAll s1.heap (e :: frs (envOfC qual scope s.heap.objs.size f cd :: outer))) outer e oe.cls a0 h'':=⟨k1,DP _ AO,by
  rw[Heap.FunFrames.eq_def] at k2
  exact k2.2.2,k3⟩
 have nc:∀ b,b ∉ frs (envOfC qual scope s.heap.objs.size f cd :: outer)->((∃ u,H1 b=some u)\/∃ u,s.heap.get? b=some u)->b ∉ e :: frs (envOfC qual scope s.heap.objs.size f cd :: outer):=fun b nb hc z=>(AR.mp z).elim (neT b hc) nb
 have k:∀ b o,s1.heap.get? b=some o->b ∉ frs (envOfC qual scope s.heap.objs.size f cd :: outer)->((∃ u,H1 b=some u)\/∃ u,s.heap.get? b=some u)->h''.get? b=some o:=fun b o e1 nb hc=>fl.1 b o (fin b o e1 (nc b nb hc))
 obtain⟨un,hok⟩:=I.left (h2:=h'') hex k (fun b o e1 hb=>k4 b o e1 (by
  obtain⟨_,o2,e2,nf⟩:=I.funs.mem hb
  rw[e1] at e2
  cases e2
  exact nf))
 refine⟨e,oe.cls,oe.dict,H1,rfl,I.os,I.bare,un,hok,⟨⟨_,_,fl,fun b o e1 nb hc=>?_⟩,hn,h0,dk⟩,q⟩
 obtain⟨⟨o',eo⟩,neL⟩:=I.cov hex hc
 have nb':b ∉ frs (envOfC qual scope s.heap.objs.size f cd :: outer):=fun z=>(AR.mp (I.stkSub b z)).elim neL nb
 have e2:=fl.1 b o' (fin b o' eo (nc b nb' hc))
 have e3:o=o':=AL (e1.symm.trans e2)
 rw[e3]
 exact fin b o' eo (nc b nb' hc)
theorem passD {E':XK} (hE:∀ c d H,E' c d H->E c d H):wD (CXD P w) (YM (CXD P w) P w K mg base N qual scope f cd A outer s H E) E':=by
 intro pins σ Hc sc e s' I h
 obtain⟨ea,cls,d,H',rfl,os,bare,un,hok,fly,q⟩:=h
 have hex:(YM (CXD P w) P w K mg base N qual scope f cd A outer s H E).ex=[]:=rfl
 have I':=I.call' os un hok bare (fun b z=>absurd z (by simp))
 obtain⟨B,a0,fl,cv⟩:=fly.ex
 have cv':∀ b o,s'.heap.get? b=some o->b ∉ frs (envOfC qual scope s.heap.objs.size f cd :: outer)->((∃ u,H' b=some u)\/∃ u,s.heap.get? b=some u)->B.get? b=some o:=fun b o e1 nb hc=>cv b o e1 nb (by
  rcases hc with z | ⟨u,z⟩
  ·exact .inl z
  ·exact .inr (I.base.there b u z (by rw[hex];simp)))
 refine Z1 (JO _ _) fly.dct ?_
 refine wpAny_leaves_onW (L:=s.heap.objs.size) I'.ok.frames rfl fl fun h'' fl2 up dk=>?_
 obtain⟨un2,hok2⟩:=I'.left (h2:=h'') hex (fun b o e1 nb hc=>fl2.1 b o (cv' b o e1 nb hc)) (fun b o e1 hb=>up b o e1 (by
  obtain⟨_,o2,e2,nf⟩:=I'.funs.mem hb
  rw[e1] at e2
  cases e2
  exact nf))
 refine⟨ea,cls,d,H',rfl,I'.os,I'.bare,un2,hok2,⟨⟨B,a0,fl2,fun b o e1 nb hc=>?_⟩,fly.new,?_,dk⟩,hE _ _ _ q⟩
 ·obtain⟨⟨o',eo⟩,neL⟩:=I'.cov hex hc
  have nb':b ∉ frs (envOfC qual scope s.heap.objs.size f cd :: outer):=fun z=>(AR.mp (I'.stkSub b z)).elim neL nb
  have e2:=fl2.1 b o' (cv' b o' eo nb' hc)
  have e3:o=o':=AL (e1.symm.trans e2)
  rw[e3]
  exact cv' b o' eo nb' hc
 ·cases z:s.heap.get? ea with
  | none=>rfl
  | some u=>
   obtain⟨ob,eo⟩:=I.base.there ea u z (by rw[hex];simp)
   rw[fly.nold] at eo
   cases eo
end
section
variable {X : Cx}
end
def jI (X:Cx) (pins:List (Addr×Obj)) (R:Value->Option Addr->St->Hp->Prop):Value->Shared->Prop:=fun e s'=>∃ σ' Hc sc,Inv X pins σ' Hc sc/\CXD X.prog X.w X.stack Hc sc (fun cls d H'=>R cls d σ' H') e s'
abbrev TSd:=WJ->St->Hp->(Value->Option Addr->St->Hp->Prop)->Prop
abbrev TEd:=St->Hp->VK->(Value->Option Addr->Hp->Prop)->Prop
def PSd (X:Cx) (st:Stmt) (t:TSd):Prop:=∀ (E:Value->Shared->Prop) (pins:List (Addr×Obj)) (s:Shared) (σ:St) (H:Hp) (D:WJ) (R:Value->Option Addr->St->Hp->Prop),Inv X pins σ H s->t D σ H R->(∀ e s',jI X pins R e s'->E e s') ->
 wpAny (model X.prog X.w) X.A (exec st X.env) (SP X pins D) E s
def PEd (X:Cx) (e:Expr) (t:TEd):Prop:=∀ (E:Value->Shared->Prop) (pins:List (Addr×Obj)) (s:Shared) (σ:St) (H:Hp) (Q:VK) (R:Value->Option Addr->Hp->Prop),Inv X pins σ H s->t σ H Q R->(∀ e s',jI X pins (fun cls d σ' H'=>σ'=σ/\R cls d H') e s'->E e s') ->
 wpAny (model X.prog X.w) X.A (eval e X.env) (EP X pins σ Q) E s
theorem CXD.imp {P:Program} {w:World} {l:List Env} {H:Hp} {s:Shared} {E E':XK} {e:Value} {s':Shared} (h:CXD P w l H s E e s') (k:∀ c d H,E c d H->E' c d H):CXD P w l H s E' e s':=by
 obtain⟨ea,cls,d0,H',a,b,c,d,f,g,q⟩:=h
 exact⟨ea,cls,d0,H',a,b,c,d,f,g,k _ _ _ q⟩
section
variable {X : Cx}
def tCallD (sp:Sp) (t:TA):TEd:=fun σ H Q R=>t σ H fun vs H1=>sp vs H1 Q fun cls d H'=>R cls d H'
theorem ped_call {k:Nat} {f:Addr} {fd:FuncData} {ps:List Str} {sp:Sp} {x:Str} {p pos:Pos} {e:Expr} {es:List Expr} {t:TA} (F:jj X.prog X.w X.K X.mg X.base (CXD X.prog X.w) k f fd ps sp) (hr:jV k X.A) (hg:Gl X x) (hm:X.mg x=some (.ref f))
  (hk:PySem.W.keepIn X.K (.ref f)=true) (hb:Binds X.K fd ps []) (ha:PA X.nox (e :: es) t) (hdb:(x == ("__debug__" : Str))=false:=by decide)
  (he:starEach (e :: es) X.env=(false,eval e X.env) :: starEach es X.env:=by rfl) (hpl:(backTo pos (starEach es X.env)).any (·.1)=false:=by rfl):PEd X (.Call (.Name x p) (e :: es) [] pos) (tCallD sp t):=by
 intro E pins s σ H Q R I h hE
 refine CV (Z6 I hg hm ?_ hdb)
 refine DZ (h₀:=X.base) I.ok.mod.kin hk (Bv (ha pos pins s σ H _ (I.wish _) h) (fun us s1 ⟨vs,H1,I1',r,q⟩=>⟨I1'.unwish.kIn,?_⟩) fun _ _ z=>False.elim z) he hpl
 have I1:=I1'.unwish
 have hl:us.length=ps.length:=by rw[<- r.length];exact F.len _ _ _ _ q
 have hb':BindsTo s1 fd ⟨us,[]⟩ (ps.zip us):=by
  have z:=hb s1 us I1.kIn (by rw[BY];exact hl)
  rw[BY] at z
  exact z
 refine B7 (Bf (F.run X.A X.stack s1 H1 ⟨us,[]⟩ us vs Q _ hr I1.env0 hb' r q) fun res s' hq=>?_)
 cases res with
 | error e=>
  have hq':CXD X.prog X.w X.stack H1 s1 (fun cls d H'=>R cls d H') e s':=hq
  exact hE e s' ⟨σ,H1,s1,I1,CXD.imp hq' fun _ _ _ z=>⟨rfl,z⟩⟩
 | ok fl=>
  cases fl with
  | ret u=>exact I1.after hq
  | next=>exact False.elim hq
  | brk=>exact False.elim hq
  | cont=>exact False.elim hq
theorem psd_expr {e:Expr} {t:TEd} {pos:Pos} (he:PEd X e t) (hs:swapsWith e none pos.line X.env=pure false:=by rfl):PSd X (.Expr e pos) (fun D σ H R=>t σ H (fun _ H1=>D.nx σ H1) fun cls d H'=>R cls d σ H'):=by
 intro E pins s σ H D R I h hE
 refine wpAny_Expr_any (thn (he E pins s σ H _ _ I h fun e s' ⟨σ',Hc,sc,I',c⟩=>hE e s' ⟨σ',Hc,sc,I',c.imp fun cls d H2 z=>?_⟩) fun v s1 ⟨x,H1,I1,r1,q1⟩=>⟨σ,H1,I1,q1⟩) I.quiet hs
 rw[z.1]
 exact z.2
end
section
variable {X : Cx} {pins : List (Addr × Obj)} {R : Value -> Option Addr -> St -> Hp -> Prop} {e : Value} {s' : Shared}
theorem jI.see (h:jI X pins R e s'):∃ ea cls d σ' H',e=.ref ea/\Inv X pins σ' H' s'/\H' ea=none/\R cls d σ' H'/\(∃ oe vs,s'.heap.get? ea=some oe/\oe.cls=cls/\oe.data=.fields vs/\oe.dict=d) /\
  (X.ex=[]->X.s₀.heap.get? ea=none)/\ea ≠ X.env.locals/\(∀ x c,X.env.cells.lookup x=some c->c ≠ ea)/\∀ p ∈ X.pn++pins,p.1 ≠ ea:=by
 obtain⟨σ',Hc,sc,I,ea,cls,d,H',rfl,os,bare,un,hok,fly,q⟩:=h
 have I':=I.call' os un hok bare (fun b z=>absurd z (by simp))
 obtain⟨B,a0,fl,cv⟩:=fly.ex
 obtain⟨oe,vs,h1,h2,h3,_⟩:=fl.first
 have no:∀ o,sc.heap.get? ea=some o->False:=fun o z=>by rw[fly.nold] at z;cases z
 refine⟨ea,cls,d,σ',H',rfl,I',fly.new,q,⟨oe,vs,h1,h2,h3,fly.dct.2 oe h1⟩,fun hex=>?_,fun z=>?_,fun x c e z=>?_,fun p hp z=>?_⟩
 ·cases z:X.s₀.heap.get? ea with
  | none=>rfl
  | some u=>
   obtain⟨o,e1⟩:=I.base.there ea u z (by rw[hex];simp)
   exact (no o e1).elim
 ·obtain⟨m,⟨o,_,_,ho,_⟩,_⟩:=I.loc
  exact no o (by rw[z];exact ho)
 ·obtain⟨v,o,ho,_⟩:=I.cell x c e
  exact no o (by rw[<- z];exact ho)
 ·exact no p.2 (by rw[<- z];exact (I.pin p hp).1)
theorem Qp {d:Option Addr} {ea:Addr} {cls a0:Value} {σ':St} {Hc H':Hp} {sc:Shared} {B h5:Heap} (I:Inv X pins σ' Hc sc) (os:s'.os=sc.os) (bare:AllBare s'.gens) (un:Un (frs X.stack) [] Hc H' sc.heap s'.heap) (hok:HOk X.prog X.w H' s'.heap)
  (new:H' ea=none) (nold:sc.heap.get? ea=none) (fl:Heap.FlyingW B X.stack ea cls a0 s'.heap) (cv:∀ b o,s'.heap.get? b=some o->b ∉ frs X.stack->((∃ u,H' b=some u)\/∃ u,sc.heap.get? b=some u)->B.get? b=some o)
  (fl5:Heap.FlyingW B X.stack ea cls a0 h5) (up:s'.heap.UpToSlots h5) (dk:JP ea d h5) (q:R cls d σ' H'):jI X pins R (.ref ea) { s' with heap:=h5 }:=by
 have I':=I.call' os un hok bare (fun b z=>absurd z (by simp))
 have sl:∀ b o,s'.heap.get? b=some o->b ∈ frs X.stack->∃ q,h5.get? b=some { o with slots:=q }:=fun b o e1 hb=>up b o e1 (by
  obtain⟨_,o2,e2,nf⟩:=fl.2.2.1.mem hb
  rw[e1] at e2
  cases e2
  exact nf)
 refine⟨σ',Hc,sc,I,ea,cls,d,H',rfl,os,bare,⟨fun b o e n nf _=>?_,fun b o e n hb hx=>?_,un.free,fun b o e hx=>?_,un.tups,un.frzs,un.tbls⟩,fun a o e=>?_,⟨⟨B,a0,fl5,fun b o e1 nb hc=>?_⟩,new,nold,dk⟩,q⟩
 ·exact fl5.1 b o (cv b o (un.keep b o e n nf (by simp)) nf (.inr ⟨o,e⟩))
 ·obtain⟨q1,e1⟩:=un.slot b o e n hb hx
  obtain⟨q2,e2⟩:=sl b _ e1 hb
  exact⟨q2,e2⟩
 ·obtain⟨o',e1⟩:=un.there b o e hx
  by_cases hb:b ∈ frs X.stack
  ·obtain⟨q2,e2⟩:=sl b o' e1 hb
   exact⟨_,e2⟩
  ·exact⟨o',fl5.1 b o' (cv b o' e1 hb (.inr ⟨o,e⟩))⟩
 ·refine (hok a o e).stay (fun b u hb q=>?_) (fun _ q=>q) fun _ _ q=>q
  have ht:∃ u,H' b=some u:=by
   rcases hb with z | z
   ·exact⟨o,by rw[z];exact e⟩
   ·exact⟨_,z⟩
  refine fl5.1 b u (cv b u q (fun z=>?_) (.inl ht))
  obtain⟨v,hv⟩:=ht
  rw[I'.stkFree b z] at hv
  cases hv
 ·have ho:∃ o',s'.heap.get? b=some o':=by
   rcases hc with ⟨u,z⟩ | ⟨u,z⟩
   ·exact (hok b u z).some
   ·exact un.there b u z (by simp)
  obtain⟨o',eo⟩:=ho
  have eB:=cv b o' eo nb hc
  have e3:o=o':=AL (e1.symm.trans (fl5.1 b o' eB))
  rw[e3]
  exact eB
theorem landD1 {E:Value->Shared->Prop} {A:Around} {M:Model} {rest:Sem Flow} {Q:Flow->Shared->Prop} (hst:X.stack=X.env :: X.outer) (hf:X.env.frame=some X.env.locals) (hfr:A.frames=some X.stack) (h:jI X pins R e s')
  (k:∀ h5,jI X pins R e { s' with heap:=h5 }->wpAny M A rest Q E { s' with heap:=h5 }):wpAny M A (noteFrame e X.env) (fun _ s2=>wpAny M A (setFlight e none) (fun _ s3=>wpAny M A rest Q E s3) E s2) E s':=by
 obtain⟨σ',Hc,sc,I,ea,cls,d,H',rfl,os,bare,un,hok,fly,q⟩:=h
 obtain⟨B,a0,fl,cv⟩:=fly.ex
 refine Z1 (Xt _ _) fly.dct (wpAny_looks_onW (base:=B) (outer:=X.outer) (by rw[hfr,hst]) hf (by rw[<- hst];exact fl) fun h4 held up4 d4=>Z1 (Q2 _ _) d4 (wpAny_landsW held fun h5 fl5 up5 d5=>k h5 ?_))
 exact Qp I os bare un hok fly.new fly.nold fl cv (by rw[hst];exact fl5) (up4.trans up5) d5 q
theorem landD2 {E:Value->Shared->Prop} {A:Around} {M:Model} {Q:Unit->Shared->Prop} (h:jI X pins R e s') (k:∀ h5,jI X pins R e { s' with heap:=h5 }->Q () { s' with heap:=h5 }):wpAny M A (setFlight e none) Q E s':=by
 obtain⟨σ',Hc,sc,I,ea,cls,d,H',rfl,os,bare,un,hok,fly,q⟩:=h
 obtain⟨B,a0,fl,cv⟩:=fly.ex
 exact Z1 (Q2 _ _) fly.dct (lands_againW fl fun h5 fl5 up5 d5=>k h5 (Qp I os bare un hok fly.new fly.nold fl cv fl5 up5 d5 q))
end
def YO (e:Addr) (cls:Value) (d:Option Addr):HO:=.ext fun h=>∃ o vs,h.get? e=some o/\o.cls=cls/\o.data=.fields vs/\o.dict=d
theorem excD_ok {P:Program} {w:World} {H:Hp} {h:Heap} {ea:Addr} {cls:Value} {d:Option Addr} (z:∃ oe vs,h.get? ea=some oe/\oe.cls=cls/\oe.data=.fields vs/\oe.dict=d):qd P w H h ea (YO ea cls d):=by
 refine⟨z,?_,fun h1 h2 ⟨o,vs,a,b,c⟩ k=>⟨o,vs,k o a,b,c⟩⟩
 obtain⟨oe,_,a,_⟩:=z
 exact⟨oe,a⟩
theorem seeD {h:Heap} {ea:Addr} {cls:Value} {d:Option Addr} (z:∃ oe vs,h.get? ea=some oe/\oe.cls=cls/\oe.data=.fields vs/\oe.dict=d):∃ oe vs,h.get? ea=some oe/\oe.cls=cls/\oe.data=.fields vs:=by
 obtain⟨a,b,c,d,e,_⟩:=z
 exact⟨a,b,c,d,e⟩
def tTryD (K:PySem.W.Frag) (C:Addr) (i:Nat) (tb:TSd) (ts:TS):TS:=fun D σ H=>tb D σ H fun cls d σ' H'=>PySem.W.exmOne K cls (.ref C)=some true/\∀ ea,H' ea=none->ts (D.drop i) (σ'.set i (some (.ref ea))) (upd H' ea (YO ea cls d))
section
variable {X : Cx} {pins : List (Addr × Obj)} {σ : St} {H : Hp} {s : Shared} {ea : Addr}
theorem ps_tryD {x n:Str} {C:Addr} {i:Nat} {st b0:Stmt} {suite:List Stmt} {np hpos pos:Pos} {tb:TSd} {ts:TS} (hst:X.stack=X.env :: X.outer) (hf:X.env.frame=some X.env.locals) (hex:X.ex=[]) (hN:X.N.Nodup) (hi:X.N[i]? = some n) (hl:X.env.scope.names.lookup n=some .local)
  (hg:Gl X x) (hm:X.mg x=some (.ref C)) (hb:PSd X st tb) (hs:∀ ea,PSs (X.inEx ea) (b0 :: suite) ts) (hdb:(x == ("__debug__" : Str))=false:=by decide) :
  PS X (.Try [st] [.ExceptHandler (some (.Name x np)) (some n) (b0 :: suite) hpos] [] [] pos) (tTryD X.K C i tb ts):=by
 intro pins s σ H D I h
 refine wpAny_Try_except (wpAny_execs_cons (Bv (hb _ pins s σ H D _ I h (fun e s' hc=>?_)) (fun f s1 q=>?_) fun _ _ z=>z))
 rotate_left
 ·cases f with
  | next=>exact CT (CT q)
  | ret v=>exact q
  | brk=>exact q
  | cont=>exact q
 refine landD1 hst hf I.ok.frames hc fun h5 hc5=>?_
 obtain⟨ea,cls,d,σ',H',rfl,I5,hn,⟨hx,hR⟩,hob,h0,nL,nC,nP⟩:=hc5.see
 refine wpAny_handleBy_cons (codeAny_handlers_test (Z6 (X:=X.inEx ea) (I5.inEx ea) hg hm ((PySem.W.exm_one I5.kIn (yw (seeD hob)) hx).here ?_) hdb)) (by intro q;cases q)
 refine codeAny_handlers_suite_as (landD2 hc5 fun h6 hc6=>?_)
 obtain⟨ea',cls',d',σ2,H2,e2,I6,hn6,⟨hx6,hR6⟩,hob6,h06,nL6,nC6,nP6⟩:=hc6.see
 cases e2
 have I7:=(I6.adopt hn6 (h06 hex) nL6 nC6 nP6 (excD_ok (H:=upd H2 ea (YO ea cls' d')) hob6)).inEx ea
 refine JR (X:=X.inEx ea) (v:=.ref ea) I7 hN hi (.inl hl) rfl (fun s8 I8=>?_) (.inr hl)
 refine Bv (hs ea pins s8 _ _ (D.drop i) I8 (hR6 ea hn6)) (fun f s9 q=>?_) fun _ _ z=>False.elim z
 cases f with
 | next=>
  obtain⟨σ9,H9,I9,q9⟩:=q
  exact ZQ (I9.outEx I.ok) hN hi hl fun s10 I10=>⟨_,_,I10,q9⟩
 | brk=>
  obtain⟨σ9,H9,I9,q9⟩:=q
  exact ZQ (I9.outEx I.ok) hN hi hl fun s10 I10=>⟨_,_,I10,q9⟩
 | cont=>
  obtain⟨σ9,H9,I9,q9⟩:=q
  exact ZQ (I9.outEx I.ok) hN hi hl fun s10 I10=>⟨_,_,I10,q9⟩
 | ret u=>
  obtain⟨v,σ9,H9,I9,r9,q9⟩:=q
  exact ZQ (I9.outEx I.ok) hN hi hl fun s10 I10=>⟨_,_,_,I10,r9,q9⟩
end
def DefD (P:Program) (w:World) (K:PySem.W.Frag) (mg:Str->Option Value) (base:Heap) (k:Nat) (x:Str) (ps:List Str) (sp:Sp):Prop:=
 ∃ (f:Addr) (fd:FuncData),jj P w K mg base (CXD P w) k f fd ps sp/\mg x=some (.ref f)/\PySem.W.keepIn K (.ref f)=true/\Binds K fd ps []
section
variable {X : Cx} {k k' : Nat} {x : Str} {ps : List Str} {sp : Sp} {e : Expr} {es : List Expr} {t : TA} {p pos : Pos}
theorem pe_defPD {E:XK} (D:DefD X.prog X.w X.K X.mg X.base k x ps sp) (hr:jV k' X.A) (hk:k<=k') (hg:Gl X x) (hp:wD (CXD X.prog X.w) X E) (ha:PA X (e :: es) t)
  (hdb:(x == ("__debug__" : Str))=false:=by decide) (he:starEach (e :: es) X.env=(false,eval e X.env) :: starEach es X.env:=by rfl) (hpl:(backTo pos (starEach es X.env)).any (·.1)=false:=by rfl) :
  PE X (.Call (.Name x p) (e :: es) [] pos) (tCall sp [] E t):=by
 obtain⟨f,fd,F,m,kp,b⟩:=D
 exact xh F (hr.mono hk) hg m kp b .nil hp ha hdb he hpl
theorem ped_def (D:DefD X.prog X.w X.K X.mg X.base k x ps sp) (hr:jV k' X.A) (hk:k<=k') (hg:Gl X x) (ha:PA X.nox (e :: es) t)
  (hdb:(x == ("__debug__" : Str))=false:=by decide) (he:starEach (e :: es) X.env=(false,eval e X.env) :: starEach es X.env:=by rfl) (hpl:(backTo pos (starEach es X.env)).any (·.1)=false:=by rfl) :
  PEd X (.Call (.Name x p) (e :: es) [] pos) (tCallD sp t):=by
 obtain⟨f,fd,F,m,kp,b⟩:=D
 exact ped_call F (hr.mono hk) hg m kp b ha hdb he hpl
end
section
variable {P : Program} {w : World} {K : PySem.W.Frag} {mg : Str -> Option Value} {base : Heap}
theorem Fun.okD {x qual:Str} {st:Stmt} {f:Addr} {fd:FuncData} {N ps:List Str} {k:Nat} {sp:Sp} (F:Fun K x qual st f fd) (S:zv N ps (zg st)) (len:∀ vs H Q E,sp vs H Q E->vs.length=ps.length)
  (hbody:∀ (cdv:Value) (A:Around) (outer:List Env) (s:Shared) (H:Hp) (vs:List V) (Q:VK) (E:XK),jV k (A.deeper (envOfC qual (zg st) s.heap.objs.size f cdv))->sp vs H Q E ->
   ∃ t,PSs (YM (CXD P w) P w K mg base N qual (zg st) f cdv A outer s H E) (qR st) t/\t { nx:=fun _ H'=>Q .non H',rt:=Q } (start N vs) H):jj P w K mg base (CXD P w) (k+1) f fd ps sp:=by
 obtain⟨oc,od,kV,doc,pm,an,cdv,ct,osl,rfl,lk,hcd⟩:=F.ex
 exact fn_of lk hcd S len fun A outer s H vs Q E hr hsp=>hbody cdv A outer s H vs Q E hr hsp
end
def exI (K:PySem.W.Frag) (C:Addr) (bmB:List Value) (newId:String):Bool:=
 match K.lookup C with
 | some ⟨.type "type",_,.cls cd,sl⟩=>
  match cd.mro,sl.toList with
  | .ref C' :: bm,[_,_,_,_,some (.builtin n),_]=>C' == C && n == newId && !cd.hasDel && cd.hasDict && PySem.W.tailIn K bmB bm
  | _,_=>false
 | _=>false
theorem Q3 {K:PySem.W.Frag} {g:Heap} {C:Addr} {bmB:List Value} {newId:String} (X:K.In g) (q:exI K C bmB newId=true) :
  ∃ tl N nm qn bs sn sub ab col dd k0 k1 k2 k3 k5,g.get? C=some (excClassObj nm qn C N bs tl true sn sub ab col dd k0 k1 k2 k3 k5 newId)/\OwnTail g bmB tl:=by
 unfold exI at q
 split at q
 ·rename_i d1 c1 l1 at1
  split at q
  ·rename_i C1 tl j0 j1 j2 j3 n1 j5 hm1 hs1
   simp only[Bool.and_eq_true,beq_iff_eq,Bool.not_eq_true'] at q
   obtain⟨⟨⟨⟨r1,r2⟩,r3⟩,r4⟩,r5⟩:=q
   subst r1 r2
   obtain⟨nm,bs,mro,ns,qn,hd,sn,sub,ab,col,del⟩:=c1
   have hm2:mro=_:=hm1
   have r3':del=false:=r3
   have r4':hd=true:=r4
   subst hm2 r3' r4'
   have sl2:l1 = #[j0,j1,j2,j3,some (.builtin n1),j5]:=by
    cases l1 with
    | mk ls=>
     have:ls=_:=hs1
     rw[this]
   subst sl2
   exact⟨tl,ns,nm,qn,bs,sn,sub,ab,col,d1,j0,j1,j2,j3,j5,X _ _ at1,PySem.W.tail_of_in X r5⟩
  ·cases q
 ·cases q
abbrev bmV:List Value:=[.type "ValueError",.type "Exception",.type "BaseException",.type "object"]
structure ExI (K:PySem.W.Frag) (C:Addr) (n:Str):Prop where
 cls:exI K C bmV "ValueError.__new__" = true
 kp:PySem.W.keepIn K (.ref C)=true
 sa:PySem.W.findIn K (.ref C) "__setattr__" = some (some (.builtin "object.__setattr__"))
 nm:PySem.W.findIn K (.ref C) n=some none
 ga:PySem.W.findIn K (.ref C) "__getattribute__" = some (some (.builtin "BaseException.__getattribute__"))
 gt:PySem.W.findIn K (.ref C) "__getattr__" = some none
theorem upd_self {H:Hp} {a:Addr} {o:HO} (h:H a=some o):upd H a o=H:=by
 funext b
 unfold upd
 split
 ·rename_i z;rw[z,h]
 ·rfl
def ExN (e C:Addr) (d:Option Addr):HO:=.ext fun h=>∃ t0,h.get? e=some (jR C d t0)
theorem Xx {P:Program} {w:World} {H:Hp} {h:Heap} {e C t0:Addr} {d:Option Addr} (z:h.get? e=some (jR C d t0)):qd P w H h e (ExN e C d):=
 ⟨⟨t0,z⟩,⟨_,z⟩,fun h1 h2 ⟨t,a⟩ k=>⟨t,k _ a⟩⟩
section
variable {X : Cx} {pins : List (Addr × Obj)} {σ : St} {H : Hp} {s : Shared}
theorem Inv.adopt' {e:Addr} {u:HO} {s':Shared} {H':Hp} (I0:Inv X pins σ H s) (hex:X.ex=[]) (h0:s.heap.get? e=none) (I:Inv X pins σ H' s') (hn:H' e=none) (ok:qd X.prog X.w (upd H' e u) s'.heap e u):Inv X pins σ (upd H' e u) s':=by
 refine I.adopt hn ?_ (fun z=>?_) (fun x c q z=>?_) (fun p hp z=>?_) ok
 ·cases z:X.s₀.heap.get? e with
  | none=>rfl
  | some u=>
   obtain⟨o,e1⟩:=I0.base.there e u z (by rw[hex];simp)
   rw[h0] at e1;cases e1
 ·obtain⟨m,⟨o,_,_,ho,_⟩,_⟩:=I0.loc
  rw[<- z,h0] at ho;cases ho
 ·obtain⟨v,o,ho,_⟩:=I0.cell x c q
  rw[z,h0] at ho;cases ho
 ·have:=(I0.pin p hp).1
  rw[z,h0] at this;cases this
def cut (H:Hp) (e:Addr):Hp:=fun b=>if b=e then none else H b
theorem Inv.cut {e:Addr} (I:Inv X pins σ H s) {φ:Heap->Prop} (hx:H e=some (.ext φ)):Inv X pins σ (cut H e) s:=by
 have hc:∀ {b u},L2.cut H e b=some u->H b=some u:=fun {b u} q=>by
  unfold L2.cut at q
  split at q
  ·cases q
  ·exact q
 have kp:∀ {b},b ≠ e->L2.cut H e b=H b:=fun q=>by unfold L2.cut;rw[if_neg q]
 have fr:∀ {b},H b=none->L2.cut H e b=none:=fun q=>by unfold L2.cut;split;rfl;exact q
 refine⟨I.ok,I.os,I.bare,⟨I.base.keep,I.base.slot,fun b o q n hx=>fr (I.base.free b o q n hx),I.base.there,fun b xs q=>by have z:=I.base.tups b xs q;rw[kp (fun y=>by rw[y,hx] at z;cases z)];exact z,fun b o v q=>by have z:=I.base.frzs b o v q;rw[kp (fun y=>by rw[y,hx] at z;cases z)];exact z,fun b ps q=>?_⟩,I.loc,I.cell,fr I.free,fun x c q=>fr (I.freeC x c q),fun p hp=>?_,fun a o q=>?_,I.len⟩
 ·obtain⟨m,z⟩:=I.base.tbls b ps q
  exact⟨m,by rw[kp (fun y=>by rw[y,hx] at z;cases z)];exact z⟩
 ·obtain⟨p1,p2,p3⟩:=I.pin p hp
  exact⟨p1,fr p2,p3⟩
 ·refine (I.hok a o (hc q)).stay (fun _ _ _ r=>r) (fun c r=>?_) fun c xs r=>?_
  ·rw[kp (fun z=>by rw[z,hx] at r;cases r)];exact r
  ·rw[kp (fun z=>by rw[z,hx] at r;cases r)];exact r
end
section
variable {X : Cx}
def tGinit (K:PySem.W.Frag) (t:TA):TE:=fun σ H Q=>t σ H fun vs H1=>∃ e C n x,vs=[.ref e,x]/\H1 e=some (ExN e C none)/\ExI K C n/\Q .non H1
theorem pe_ginit {x:Str} {G:Addr} {np apos pos:Pos} {e0:Expr} {es:List Expr} {t:TA} {pl:Sem Bool} (hg:Gl X x) (hm:X.mg x=some (.ref G)) (r1:PySem.W.specialIn X.K (.ref G) (Str.ofString "__getattribute__")=some (some (.builtin "type.__getattribute__"))) (r2:PySem.W.readsIn X.K G (.type "type")=true)
  (r3:PySem.W.findCls X.K (.ref G) (.type "type") "__init__" = some (.val (.builtin "ValueError.__init__"))) (ha:PA X (e0 :: es) t) (hdb:(x == ("__debug__" : Str))=false:=by decide)
  (hst:starEach (e0 :: es) X.env=(false,eval e0 X.env) :: starEach es X.env:=by rfl) (hpl:(backTo pos (starEach es X.env)).any (·.1)=false:=by rfl)
  (ht:eval (.Call (.Attribute (.Name x np) "__init__" apos) (e0 :: es) [] pos) X.env=(do
   let ov <- eval (.Name x np) X.env
   standAt apos.atName
   let (f,first) <- holding [ov] (getMethod ov "__init__" pl)
   callWith pos f first (backTo pos (starEach (e0 :: es) X.env)) (backToKw pos (keywordEach [] X.env))):=by rfl) :
  PE X (.Call (.Attribute (.Name x np) "__init__" apos) (e0 :: es) [] pos) (tGinit X.K t):=by
 intro pins s σ H Q I h
 refine PySem.W.methodCall_KW (pl:=pl) (Z6 I hg hm ?_ hdb) ht
 refine PySem.W.method_cls I.kIn r1 (PySem.W.cls_value I.kIn r2 r3 (by decide) ?_)
 refine Dt (thn (ha pos pins _ σ H _ (I.tok (s.toks+1)) h) fun us s1 ⟨vs,H1,I1,r,e,C,n,y,ev,he,ex,q⟩=>?_) hst hpl
 subst ev
 obtain⟨u1,u2,rfl,ra,rb⟩:=Y5 r
 cases ra
 obtain⟨hh,g,d,tk,os⟩:=s1
 obtain⟨tl,N,nm,qn,bs,sn,sub,ab,col,dd,k0,k1,k2,k3,k5,hC,T⟩:=Q3 I1.kIn ex.cls
 obtain⟨t0,hz⟩:∃ t0,hh.get? e=some (jR C none t0):=(I1.hok e _ he).1
 refine Xv (B := "ValueError") (initId := "ValueError.__init__") F.excBase_ValueError T hC hz fun h' t1 n1 a1 a2 a3=>?_
 have I2:=I1.write (x:=e) (e:=e) (o:=ExN e C none) (t':=tk) (h':=h') (by rw[he];exact True.intro) (.inl rfl) a3 ⟨_,a2⟩ (Xx a2)
 rw[upd_self he] at I2
 exact⟨.non,H1,I2,rfl,q⟩
def sXd (K:PySem.W.Frag) (ta tv:TE) (n:Str):TS:=fun D σ H=>tv σ H fun y H1=>ta σ H1 fun x H2=>∃ e C,x=.ref e/\H2 e=some (ExN e C none)/\ExI K C n/\∀ d,H2 d=none->d ≠ e->D.nx σ (upd (upd H2 e (ExN e C (some d))) d (.xd [(n,y)]))
theorem ps_xd {o value:Expr} {n:Str} {pos pos':Pos} {ta tv:TE} (hex:X.ex=[]) (ha:PE X o ta) (hv:PE X value tv) (hs:swapsWith value (some (.Attribute o n pos')) pos.line X.env=pure false):PS X (.Assign [.Attribute o n pos'] value pos) (sXd X.K ta tv n):=by
 intro pins s σ H D I h
 refine plainObj_wpAny_Assign_Attribute (thn (hv pins s σ H _ I h) fun u s1 ⟨y,H1,I1,ry,q⟩=>thn (ha pins s1 σ H1 _ I1 q) fun ov s2 ⟨x,H2,I2,rx,e,C,ex,he,xi,q2⟩=>?_) hs
 subst ex
 obtain rfl:ov=Value.ref e:=rx
 obtain⟨hh,g,d,tk,os⟩:=s2
 obtain⟨tl,N,nm,qn,bs,sn,sub,ab,col,dd,k0,k1,k2,k3,k5,hC,T⟩:=Q3 I2.kIn xi.cls
 obtain⟨t0,hz⟩:∃ t0,hh.get? e=some (jR C none t0):=(I2.hok e _ he).1
 refine set_exc (B := "ValueError") F.store_ValueError T hC (BH I2.kIn xi.sa) (BH I2.kIn xi.nm) hz fun h' Dd tk' n1 n2 a1 a2 a3=>?_
 have hD:H2 Dd=none:=by
  cases z:H2 Dd with
  | none=>rfl
  | some v=>
   obtain⟨o,eo⟩:=(I2.hok Dd v z).some
   rw[show hh.get? Dd=none from n1] at eo
   cases eo
 have I3:=I2.write (x:=e) (e:=e) (o:=ExN e C (some Dd)) (t':=tk') (h':=h') (by rw[he];exact True.intro) (.inl rfl) a3 ⟨_,a2⟩ (Xx a2)
 have I4:=I2.adopt' (u:=.xd [(n,y)]) hex n1 I3 (by rw[zk n2];exact hD) ⟨_,a1,fun z=>?_⟩
 ·exact⟨σ,_,I4,q2 Dd hD n2⟩
 ·by_cases e1:z=n
  ·rw[e1,if_pos rfl]
   simp[List.lookup]
   exact ry
  ·rw[if_neg e1]
   have:(z == n)=false:=by simpa using e1
   simp[List.lookup,this]
   trivial
theorem W4 {u:Value} (h:PySem.W.handedIn u=true):handedOut u=pure u:=by
 cases u with
 | builtin i=>
  have h':(withoutEnding? i "#data").isNone=true:=h
  unfold handedOut
  dsimp only
  rw[if_neg (by cases z:withoutEnding? i "#data" with | none=>simp | some _=>rw[z] at h';cases h')]
 | _=>rfl
def tXget (K:PySem.W.Frag) (ta:TE) (n:Str):TE:=fun σ H Q=>ta σ H fun x H1=>∃ a C d fs v,x=.ref a/\H1 a=some (YO a (.ref C) (some d))/\H1 d=some (.xd fs)/\fs.lookup n=some v/\ExI K C n/\Q v H1
theorem pe_xget {e:Expr} {n:Str} {pos:Pos} {ta:TE} (he:PE X e ta) (hb:attributeBase e n X.env (eval e X.env)=eval e X.env):PE X (.Attribute e n pos) (tXget X.K ta n):=by
 intro pins s σ H Q I h
 refine attr_of hb (thn (he pins s σ H _ I h) fun u s1 ⟨x,H1,I1,rx,a,C,d,fs,v,ex,ea,ed,l,xi,q⟩=>?_)
 subst ex
 obtain rfl:u=Value.ref a:=rx
 obtain⟨hh,g,dr,tk,os⟩:=s1
 obtain⟨tl,N,nm,qn,bs,sn,sub,ab,col,dd,k0,k1,k2,k3,k5,hC,T⟩:=Q3 I1.kIn xi.cls
 obtain⟨oe,vs,z1,z2,z3,z4⟩:∃ o vs,hh.get? a=some o/\o.cls=.ref C/\o.data=.fields vs/\o.dict=some d:=(I1.hok a _ ea).1
 obtain⟨mA,n1,rl⟩:∃ mA,hh.Ns1 d mA/\∀ f,yo (fs.lookup f) (mA f):=I1.hok d _ ed
 obtain⟨u,hu,ru⟩:=yo.some_of (v:=v) (o:=mA n) (by rw[<- l];exact rl n)
 obtain⟨o1,es1,ep1,m1,m2,m3,_,m5⟩:=n1
 exact get_exc (B := "ValueError") F.attrBase_ValueError T hC (BH I1.kIn xi.ga) (BH I1.kIn xi.gt) (BH I1.kIn xi.nm) z1 z2 z3 z4 ⟨o1,es1,ep1,m1,m2,m3,m5⟩ hu (W4 (Y9 ru)) ⟨v,H1,I1.tok _,ru,q⟩
theorem Xy {pins:List (Addr×Obj)} {σ:St} {H:Hp} {s:Shared} {e:Addr} {cls:Value} {d:Option Addr} (I:Inv X pins σ H s) (h:H e=some (YO e cls d)):y6 e cls s.heap:=by
 obtain⟨o,vs,a,b,c,_⟩:=(I.hok e _ h).1
 exact⟨o,vs,a,b,c⟩
theorem qc (K:PySem.W.Frag) {C:Addr} (l:qt K C=true) (hK:X.K=K:=by rfl):qA X (.builtin "isinstance") (fun xs H Q=>∃ e D d b,xs=[.ref e,.ref D]/\H e=some (YO e (.ref C) d)/\PySem.W.kitOne K (.ref C) (.ref D)=some b/\Q (.bl b) H):=by
 subst hK
 intro pins s σ H xs us Q I r h
 obtain⟨e,D,d,b,rfl,he,hb,q⟩:=h
 obtain⟨u,w',rfl,r1,r2⟩:=Y5 r
 cases r1
 cases r2
 exact A9 (yx l) I.kIn (Xy I he) hb (fun z=>nomatch z) fun tk=>⟨.bl b,H,I.tok tk,rfl,q⟩
theorem W5 (K:PySem.W.Frag) {C:Addr} (l:qt K C=true) (hK:X.K=K:=by rfl):qA X (.builtin "isinstance") (fun xs H Q=>∃ e n d b,xs=[.ref e,.ty n]/\H e=some (YO e (.ref C) d)/\PySem.W.kitOne K (.ref C) (.type n)=some b/\Q (.bl b) H):=by
 subst hK
 intro pins s σ H xs us Q I r h
 obtain⟨e,D,d,b,rfl,he,hb,q⟩:=h
 obtain⟨u,w',rfl,r1,r2⟩:=Y5 r
 cases r1
 cases r2
 exact A9 (yx l) I.kIn (Xy I he) hb (fun z=>nomatch z) fun tk=>⟨.bl b,H,I.tok tk,rfl,q⟩
def yN (C:Addr) (n:Str):Sp:=fun vs H Q _=>∃ e y,vs=[.ref e,y]/\H e=some (ExN e C none)/\∀ d,H d=none->d ≠ e->Q .non (upd (upd H e (ExN e C (some d))) d (.xd [(n,y)]))
def Xz (C:Addr) (n:Str) (E:XK) (t:TA):TS:=fun _ σ H=>t σ H fun vs H1=>∃ y,vs=[y]/\∀ d,H1 d=none->E (.ref C) (some d) (upd H1 d (.xd [(n,y)]))
theorem XA {x n:Str} {C f:Addr} {fd:FuncData} {k:Nat} {ps:List Str} {E:XK} {e0:Expr} {es:List Expr} {t:TA} {np cpos pos:Pos} (hg:Gl X x) (hm:X.mg x=some (.ref C)) (xi:ExI X.K C n) (xin:PySem.W.findIn X.K (.ref C) "__init__" = some (some (.ref f))) (xfn:PySem.W.isFn X.K (.ref f)=true) (F:jj X.prog X.w X.K X.mg X.base CX0 k f fd ps (yN C n)) (hr:jV (k+1) X.A)
  (hb:Binds X.K fd ps []) (hc:X.calm=true) (hex:X.ex=[]) (hx:W3 X E) (ha:PA X (e0 :: es) t) (hdb:(x == ("__debug__" : Str))=false:=by decide)
  (he:starEach (e0 :: es) X.env=(false,eval e0 X.env) :: starEach es X.env:=by rfl) (hpl:(backTo cpos (starEach es X.env)).any (·.1)=false:=by rfl) :
  PS X (.Raise (some (.Call (.Name x np) (e0 :: es) [] cpos)) none pos) (Xz C n E t):=by
 intro pins s σ H D I h
 rw[arm_exec_Raise]
 refine AA (DL ?_)
 refine AA (m:=eval (.Call (.Name x np) (e0 :: es) [] cpos) X.env >>= fun v=>standAt pos >>= fun _=>pure v) (AA ?_)
 refine CV (Z6 I hg hm ?_ hdb)
 refine DZ (h₀:=X.base) I.ok.mod.kin xi.kp (thn (ha cpos pins s σ H _ I h) fun us s1 ⟨vs,H1,I1,r,y,ev,q⟩=>⟨I1.kIn,?_⟩) he hpl
 subst ev
 obtain⟨hh,g,d,tk,os⟩:=s1
 obtain⟨tl,N,nm,qn,bs,sn,sub,ab,col,dd,k0,k1,k2,k3,k5,hC,T⟩:=Q3 I1.kIn xi.cls
 obtain⟨oI,lI,cI⟩:∃ oI,X.K.lookup f=some oI/\oI.cls=.type "function":=Ac.mp (beq_iff_eq.mp xfn)
 have hl:us.length<=sizeLine:=by
  rw[<- r.length]
  show 1<=sizeLine
  decide
 refine Xu EC rfl EC T hC (BH I1.kIn xin) (I1.kIn _ _ lI) cI hl fun h' e hmk=>?_
 obtain⟨t0,m1,m2,m3⟩:=hmk.there
 have hn:H1 e=none:=by
  cases z:H1 e with
  | none=>rfl
  | some u=>
   obtain⟨ob,eo⟩:=(I1.hok e u z).some
   rw[show hh.get? e=none from hmk.new] at eo
   cases eo
 have I2:=I1.kept (t':=tk) hmk.keeps
 have I3:=I1.adopt' (u:=ExN e C none) hex hmk.new I2 hn (Xx (t0:=t0) m1)
 have r2:zX (V.ref e :: [y]) (Value.ref e :: us):=.cons rfl r
 have hsp:yN C n (V.ref e :: [y]) (upd H1 e (ExN e C none)) (fun v H2=>v=.non/\∃ d,H1 d=none/\d ≠ e/\H2=upd (upd (upd H1 e (ExN e C none)) e (ExN e C (some d))) d (.xd [(n,y)])) E0:=
  ⟨e,y,rfl,zc,fun d hd ne=>⟨rfl,d,by rw[zk ne] at hd;exact hd,ne,rfl⟩⟩
 have hlen:(Value.ref e :: us).length=ps.length:=by rw[<- r2.length];exact F.len _ _ _ _ hsp
 have hb':=hb ⟨h',g,d,tk,os⟩ (Value.ref e :: us) I3.kIn (by rw[BY];exact hlen)
 rw[BY] at hb'
 refine B7 (Bf (F.run _ X.stack _ _ ⟨Value.ref e :: us,[]⟩ (Value.ref e :: us) _ _ E0 (hr.make C us []) (I3.env0.make C us []) hb' r2 hsp) fun r s' hq'=>?_)
 cases r with
 | error e=>exact False.elim hq'
 | ok fl=>
  cases fl with
  | next=>exact False.elim hq'
  | brk=>exact False.elim hq'
  | cont=>exact False.elim hq'
  | ret u=>
   obtain⟨v,H',I4,rv,ev,d2,hd2,ne2,eH⟩:=I3.after hq'
   subst ev
   subst eH
   refine⟨rv,AA (DL (AB ?_))⟩
   have h4:upd (upd (upd H1 e (ExN e C none)) e (ExN e C (some d2))) d2 (.xd [(n,y)]) e=some (ExN e C (some d2)):=by rw[zk (Am ne2),zc]
   have I5:=I4.cut (e:=e) h4
   obtain⟨t5,z5⟩:∃ t0,s'.heap.get? e=some (jR C (some d2) t0):=(I4.hok e _ h4).1
   have eH:cut (upd (upd (upd H1 e (ExN e C none)) e (ExN e C (some d2))) d2 (.xd [(n,y)])) e=upd H1 d2 (.xd [(n,y)]):=by
    funext b
    unfold cut
    by_cases z:b=e
    ·rw[if_pos z,z,zk (Am ne2),hn]
    ·rw[if_neg z]
     by_cases z2:b=d2
     ·rw[z2,zc,zc]
     ·rw[zk z2,zk z,zk z,zk z2]
   rw[eH] at I5
   obtain⟨tl',N',nm',qn',bs',sn',sub',ab',col',dd',k0',k1',k2',k3',k5',hC',T'⟩:=Q3 I4.kIn xi.cls
   refine YA (env:=X.env) (wj T' (by decide)) (I.ok.hd hc) hC' z5 ?_
   refine hx pins σ _ s' e _ _ _ I5 (by rw[zk (Am ne2)];exact hn) ?_ z5 rfl rfl rfl (q d2 hd2)
   cases z:X.s₀.heap.get? e with
   | none=>rfl
   | some u=>
    obtain⟨o,e1⟩:=I1.base.there e u z (by rw[hex];simp)
    rw[show hh.get? e=none from hmk.new] at e1
    cases e1
def DefI (P:Program) (w:World) (K:PySem.W.Frag) (mg:Str->Option Value) (base:Heap) (k:Nat) (C:Addr) (n:Str) (ps:List Str):Prop:=
 ∃ (f:Addr) (fd:FuncData),PySem.W.findIn K (.ref C) "__init__" = some (some (.ref f))/\PySem.W.isFn K (.ref f)=true/\jj P w K mg base CX0 k f fd ps (yN C n)/\Binds K fd ps []
theorem XB {x n:Str} {C:Addr} {k k':Nat} {ps:List Str} {E:XK} {e0:Expr} {es:List Expr} {t:TA} {np cpos pos:Pos} (D:DefI X.prog X.w X.K X.mg X.base k C n ps) (hg:Gl X x) (hm:X.mg x=some (.ref C)) (xi:ExI X.K C n) (hr:jV k' X.A) (hk:k+1<=k')
  (hc:X.calm=true) (hex:X.ex=[]) (hx:W3 X E) (ha:PA X (e0 :: es) t) (hdb:(x == ("__debug__" : Str))=false:=by decide)
  (he:starEach (e0 :: es) X.env=(false,eval e0 X.env) :: starEach es X.env:=by rfl) (hpl:(backTo cpos (starEach es X.env)).any (·.1)=false:=by rfl) :
  PS X (.Raise (some (.Call (.Name x np) (e0 :: es) [] cpos)) none pos) (Xz C n E t):=by
 obtain⟨f,fd,xin,xfn,F,b⟩:=D
 exact XA hg hm xi xin xfn F (hr.mono hk) b hc hex hx ha hdb he hpl
end
def clsAt (s:Stmt) (j:Nat):Stmt:=match s with
 | .ClassDef _ _ _ b _ _ _ _ _ _ _=>b.getD j (.Pass ⟨0,0,0,0⟩)
 | _=>.Pass ⟨0,0,0,0⟩
end L2
namespace K20
open PySem L2 L4
local macro_rules | `(tactic| walk_at "hp") => `(tactic| first | assumption | exact zc | (rw [zk (by first | assumption | exact Ne.symm (by assumption) | exact zr (by assumption) (by assumption) | exact Ne.symm (zr (by assumption) (by assumption)))]; walk_at "hp"))
local macro_rules | `(tactic| walk_at "r1") => `(tactic| first | refine ⟨_, rfl, ?_⟩ | refine .inl ⟨_, _, _, _, rfl, rfl, SqL.of (by walk_at "hp"), rfl, ?_⟩ | refine .inr (.inl ⟨_, _, _, _, rfl, rfl, SqT.of (by walk_at "hp"), rfl, ?_⟩) | refine ⟨_, _, rfl, rfl, ?_⟩ | refine ⟨(show CMul _ _ from .inr ⟨by omega, by omega⟩), ?_⟩ | refine ⟨(show CMul _ _ from .inl ⟨by omega, by omega⟩), ?_⟩ | refine ⟨(show CDiv _ _ from ⟨by omega, by omega⟩), ?_⟩ | refine ⟨(show CPow _ _ from ⟨by decide, by decide, by decide⟩), ?_⟩ | refine ⟨(show (0 : Int) < _ by omega), ?_⟩ | refine ⟨_, _, _, _, rfl, rfl, (by walk_at "hp"), rfl, ?_⟩)
local macro_rules | `(tactic| walk_at "rd") => `(tactic| repeat walk_at "r1")
local macro_rules | `(tactic| walk_at "dc") => `(tactic| first | refine YN ?_ | refine wv ?_ | refine iteDT (by decide +kernel) ?_ | refine iteDF (by decide +kernel) ?_ | refine ⟨_, rfl, rfl, _, rfl, ?_⟩)
local macro_rules | `(tactic| walk_at "ds") => `(tactic| repeat walk_at "dc")
local macro_rules | `(tactic| walk_at "v") => `(tactic| first | exact Or.inl rfl | exact Or.inr (Or.inl rfl) | exact Or.inr (Or.inr rfl))
local macro_rules | `(tactic| walk_at "f") => `(tactic| first | exact .inl rfl | exact .inr rfl | assumption)
def jr:Str:=Str.ofString "abcdefghijklmnopqrstuvwxyz"
theorem Zc:jr.cps.toList.length=26:=by decide +kernel
theorem alpha_nd:jr.cps.toList.Nodup:=by decide +kernel
theorem ZD:∀ c ∈ jr.cps.toList,97<=c/\c<=122:=by decide +kernel
theorem alpha_at {v:Int} (h0:0<=v) (h1:v < 26):∃ c,atI jr.cps.toList v=some c/\97<=c/\c<=122:=by
 have hl:=Zc
 have hv:v.toNat < jr.cps.toList.length:=by omega
 have e:v=((v.toNat:Nat):Int):=by omega
 refine⟨jr.cps.toList[v.toNat],?_,ZD _ (Bc hv)⟩
 have q:=qQ (AK hv)
 rw[<- e] at q
 exact q
def XC:Sp:=fun vs H Q _=>∃ (p l:Addr) (ns:List Str),vs=[.ref p,.ref l]/\qk H p/\H l=some (.lst (ns.map .str))/\ns.length<=8/\∀ x H',Off p H H'->qk H' p->x ∉ ns->j7 x->Q (.str x) H'
def W6:Sp:=fun vs H Q _=>∃ (p:Addr) (m pl often:Int),vs=[.ref p,.int m,.int pl,.int often]/\qk H p/\1<=m/\m<=9/\0<=pl/\pl<=2/\0<=often/\often < 1000 /\
 ∀ (t:Addr) (cs:List (Option Int)) (H':Hp),Off p H H'->qk H' p->H' t=some (.tup (cs.map Zk))->(cs.length:Int)=m ^ pl.toNat->(∀ o ∈ cs,wR m o)->(often=0->∀ o ∈ cs,o ≠ none)->Q (.ref t) H'
def XD:Sp:=fun vs H Q _=>∃ (p:Addr) (most conn often:Int),vs=[.ref p,.int most,.int conn,.int often]/\qk H p/\1<=most/\most<=9/\0<=conn/\conn<=8/\0<=often/\often < 1000 /\
 ∀ v T H',Off p H H'->qk H' p->IsHalf H' v T->Good T->(often=0->Full T)->T.m<=most->(T.cs.length:Int)<=conn->Q v H'
theorem YB {m pl:Int} (h1:1<=m) (h9:m<=9) (p0:0<=pl) (p2:pl<=2):∃ n:Int,atI [V.int 1,V.int m,V.int (m * m)] pl=some (.int n)/\0<=n/\n<=81/\n=m ^ pl.toNat:=by
 have hm:m * m<=81:=Int.le_trans (Int.mul_le_mul_of_nonneg_right h9 (by omega)) (by omega)
 have hm0:0<=m * m:=Int.mul_nonneg (by omega) (by omega)
 have e:pl=0\/pl=1\/pl=2:=by omega
 rcases e with rfl | rfl | rfl
 ·exact⟨1,rfl,by omega,by omega,(by show 1=m ^ 0;rw[Int.pow_zero])⟩
 ·exact⟨m,rfl,by omega,by omega,(by show m=m ^ 1;rw[Int.pow_succ,Int.pow_zero,Int.one_mul])⟩
 ·exact⟨m * m,rfl,hm0,hm,(by show m * m=m ^ 2;rw[Int.pow_succ,Int.pow_succ,Int.pow_zero,Int.one_mul])⟩
theorem at4 {v:Int} (h0:0<=v) (h1:v < 4):∃ n:Int,atI [V.int 1,V.int 2,V.int 2,V.int 0] v=some (.int n)/\0<=n/\n<=2:=by
 have e:v=0\/v=1\/v=2\/v=3:=by omega
 rcases e with rfl | rfl | rfl | rfl
 ·exact⟨1,rfl,by omega,by omega⟩
 ·exact⟨2,rfl,by omega,by omega⟩
 ·exact⟨2,rfl,by omega,by omega⟩
 ·exact⟨0,rfl,by omega,by omega⟩
theorem at2 {v:Int} (h0:0<=v) (h1:v < 2):∃ z:Str,atI [V.str "grades",V.str "wished"] v=some (.str z)/\j7 z:=by
 have e:v=0\/v=1:=by omega
 rcases e with rfl | rfl
 ·exact⟨_,rfl,Jz.1⟩
 ·exact⟨_,rfl,Jz.2⟩
def YC (c:Nat):Str:=⟨#[c]⟩
theorem yO:∀ ds:List Nat,((ds.map YC).map (·.length)).sum=ds.length
 | []=>rfl
 | d :: ds=>by
  rw[AQ,AQ,List.sum_cons,yO ds,Ab]
  show 1+ds.length=_
  omega
theorem XE {ds:List Nat} (h:∀ d ∈ ds,97<=d/\d<=122) (h2:2<=ds.length) (h8:ds.length<=8):j7 (PySem.Txt.join (Str.ofString "") (ds.map YC)):=by
 have e:(PySem.Txt.join (Str.ofString "") (ds.map YC)).cps.toList=ds:=WM ds
 have hl:=ZS (PySem.Txt.join (Str.ofString "") (ds.map YC))
 rw[e] at hl
 exact⟨by omega,by omega,fun c hc=>h c (by rw[e] at hc;exact hc)⟩
theorem at0 {x:V} {us:List V}:atI (x :: us) 0=some x:=qQ (j:=0) rfl
theorem Q4 {xs:List V} (h:1<=xs.length):wu xs (some 1) none=xs.drop 1:=by
 unfold wu
 rw[show HT.sIx xs.length 0 (some 1)=1 by rw[show (1:Int)=((1:Nat):Int) from rfl,HT.sIx_nat];omega,HT.sIx_none]
 exact A8 (by rw[BS];omega)
theorem Wn {K:PySem.W.Frag} {H:Hp} {a:Addr} {xs:List V} {lo hi:Option Int} {Q:VK} (ha:H a=some (.tup xs)) (F:∀ t H',zB H H'->H' t=some (.tup (wu xs lo hi))->Q (.ref t) H'):rSlT K (.ref a) lo hi H Q\/rSlTW K (.ref a) lo hi H Q:=by
 by_cases h:HT.sIx xs.length 0 lo=0/\HT.sIx xs.length xs.length hi=xs.length
 ·refine .inr ⟨a,xs,rfl,SqT.of ha,h,F a H (zB.refl H) ?_⟩
  unfold wu
  rw[h.1,h.2,Co,Nat.sub_zero,Aq]
  exact ha
 ·exact .inl ⟨a,xs,rfl,SqT.of ha,h,fun p hp=>F p _ (zd hp _) zc⟩
theorem Q5 {K:PySem.W.Frag} {H:Hp} {a b:Addr} {xs ys:List V} {Q:VK} (ha:H a=some (.tup xs)) (hb:H b=some (.tup ys)) (hz:xs.length+ys.length<=1000) (F:∀ t H',zB H H'->H' t=some (.tup (xs++ys))->Q (.ref t) H'):rCatA K (.ref a) (.ref b) H Q:=
 ⟨a,b,xs,ys,rfl,rfl,SqT.of ha,SqT.of hb,zj hz,fun z=>F b H (zB.refl H) (by rw[z];exact hb),fun _ z=>F a H (zB.refl H) (by rw[z,BY];exact ha),fun _ _ p hp=>F p _ (zd hp _) zc⟩
def Ls (L:List Str):Prop:=∀ x ∈ L,Ltr x
def W7:Sp:=fun vs H Q _=>∃ x:Str,vs=[.str x]/\xB x/\x.length<=8/\∀ H',zB H H'->Q (.bl true) H'
def W8:Sp:=fun vs H Q _=>∃ (v:V) (s:Sy),vs=[v]/\qv H s v/\(s.isL=true->Ltr s.nm)/\∀ H',zB H H'->Q (.bl s.isL) H'
theorem XF {α:Type} {f:α->Nat} (xs:List α) (h:∀ x,1<=f x):xs.length<=(xs.map f).sum:=by
 induction xs with
 | nil=>exact AG _
 | cons x xs ih=>
  rw[Ab,AQ,List.sum_cons]
  have:=h x
  omega
def XG:Sp:=fun vs H Q _=>∃ (ps gs:Addr) (m:Nat) (P G:List Nat),vs=[.ref ps,nV m,.ref gs]/\m<=9/\H ps=some (.lst (P.map nV))/\H gs=some (.lst (G.map nV))/\P.length<=9/\G.length<=9/\∀ l H',zB H H'->H' l=some (.lst ((P.flatMap fun p=>G.map fun g=>p * m+g).map nV))->Q (.ref l) H'
def Zd (s:Sy):Prop:=∀ x ∈ s.lets,Ltr x
theorem Zd.part {s a:Sy} (h:Zd s) (ha:a ∈ s.ps):Zd a:=by
 cases s with
 | ltr x=>cases ha
 | n0 n=>cases ha
 | n1 n b=>
  rw[AF.mp ha]
  exact h
 | n2 n b c=>
  rcases AR.mp ha with rfl | ha
  ·exact fun x hx=>h x (A1 _ hx)
  ·rw[AF.mp ha]
   exact fun x hx=>h x (Ai _ hx)
theorem Zd.isl {s:Sy} (h:Zd s) (hs:s.isL=true):Ltr s.nm:=by
 cases s with
 | ltr x=>exact h x (AF.mpr rfl)
 | _=>cases hs
theorem Zd.of {T:Tb} {L:List Str} {s:Sy} (hL:Ls L) (h:GSt T L s):Zd s:=fun x hx=>hL x (h.lets_in hx)
theorem Zd.sub:∀ {s a:Sy},Zd s->a ∈ s.sub->Zd a
 | .ltr x,a,h,ha=>by rw[AF.mp ha];exact h
 | .n0 n,a,h,ha=>by rw[AF.mp ha];exact h
 | .n1 n b,a,h,ha=>by
  rcases AR.mp ha with rfl | ha
  ·exact h
  ·exact Zd.sub (s:=b) h ha
 | .n2 n b c,a,h,ha=>by
  rcases AR.mp ha with rfl | ha
  ·exact h
  ·rcases Aa.mp ha with ha | ha
   ·exact Zd.sub (s:=b) (fun x hx=>h x (A1 _ hx)) ha
   ·exact Zd.sub (s:=c) (fun x hx=>h x (Ai _ hx)) ha
def SyS (H:Hp) (ps:List (V×Sy)):Prop:=∀ z ∈ ps,Zd z.2/\qv H z.2 z.1
theorem SyS.same {H H':Hp} (s:zB H H') {ps:List (V×Sy)} (h:SyS H ps):SyS H' ps:=fun z hz=>⟨(h z hz).1,(h z hz).2.same s⟩
theorem SyS.paired {H:Hp}:∀ {ps:List (V×Sy)},SyS H ps->Paired (qv H) (ps.map Prod.snd) (ps.map Prod.fst)
 | [],_=>.nil
 | z :: ps,h=>.cons (h z AO).2 (SyS.paired fun y hy=>h y (AU _ hy))
theorem YD {H:Hp} {ss:List Sy} {us:List V} (h:Paired (qv H) ss us) (g:∀ a ∈ ss,Zd a):SyS H (us.zip ss)/\(us.zip ss).map Prod.fst=us/\(us.zip ss).map Prod.snd=ss:=by
 induction h with
 | nil=>exact⟨(fun z hz=>by cases hz),rfl,rfl⟩
 | @cons a u ss us r _ ih=>
  obtain⟨i1,i2,i3⟩:=ih fun b hb=>g b (AU _ hb)
  refine⟨fun z hz=>?_,?_,?_⟩
  ·rcases AR.mp hz with rfl | hz
   ·exact⟨g _ (AO ..),r⟩
   ·exact i1 z hz
  ·rw[Da,AQ,i2]
  ·rw[Da,AQ,i3]
theorem Q6:∀ s:Sy,s.lets.length<=s.sz
 | .ltr x=>AG _
 | .n0 n=>A0 _
 | .n1 n a=>Nat.le_succ_of_le (Q6 a)
 | .n2 n a b=>by
  have h1:=Q6 a
  have h2:=Q6 b
  show (a.lets++b.lets).length<=a.sz+b.sz+1
  rw[AI]
  omega
theorem Q7:∀ ps:List (V×Sy),(∀ z ∈ ps,z.2.sz<=63)->(ps.flatMap fun z=>z.2.lets).length<=63 * ps.length
 | [],_=>A0 _
 | z :: ps,h=>by
  have h1:=Q7 ps fun y hy=>h y (AU _ hy)
  have h2:=Q6 z.2
  have h3:=h z AO
  rw[Cw,AI,Ab]
  omega
theorem posL_rw {T:Tb} (g:Z0 T) (nd:(qf T).Nodup) {L:List Str} {ls:List (Str×Nat)} (hls:∀ p ∈ ls,p.2 < T.m) {ss:List Sy} {r:List Nat} (h:PosL T ls ss r) (hg:∀ a ∈ ss,GSt T L a):Tn.Rw T.m ss.length r:=by
 unfold PosL at h
 induction h with
 | nil=>exact⟨rfl,fun x hx=>by cases hx⟩
 | @cons a y ss r k _ ih=>
  obtain⟨h1,h2⟩:=ih fun b hb=>hg b (AU _ hb)
  refine⟨by rw[Ab,Ab,h1],fun x hx=>?_⟩
  rcases AR.mp hx with rfl | hx
  ·exact yK g nd hls (hg a AO) k
  ·exact h2 x hx
theorem no_non (xs:List Nat):inV .non (xs.map nV)=false:=by
 induction xs with
 | nil=>rfl
 | cons x xs ih=>exact ih
theorem XH {α:Type} (xs:List α) (f:α->Bool):(xs.map fun y=>V.bl (f y))=(xs.map f).map V.bl:=by rw[A2];rfl
theorem XI {ls:List (Str×Nat)} (nd:(ls.map Prod.fst).Nodup) {p:Str×Nat} (hp:p ∈ ls):ls.lookup p.1=some p.2:=by
 induction ls with
 | nil=>cases hp
 | cons q ls ih=>
  obtain⟨y,o⟩:=q
  rw[AQ,BA] at nd
  rw[Bk]
  rcases AR.mp hp with rfl | hp
  ·rw[C7]
  ·have ne:¬ p.1=y:=fun e=>nd.1 (e ▸ AS.mpr ⟨p,hp,rfl⟩)
   rw[beq_eq_false_iff_ne.mpr ne]
   exact ih nd.2 hp
theorem yP:∀ (ps acc:List (Key×V)),((acc++ps).map Prod.fst).Nodup->putAll acc ps=acc++ps
 | [],acc,_=>by rw[BY];rfl
 | p :: ps,acc,nd=>by
  show putAll (ZH acc p.1 p.2) ps=_
  have e:ZH acc p.1 p.2=acc++[p]:=by
   unfold ZH
   rw[if_neg]
   intro z
   obtain⟨kv,hkv,e⟩:=DA.mp z
   rw[AM,AQ] at nd
   have:=(Dk.mp nd).2.2 kv.1 (AS.mpr ⟨kv,hkv,rfl⟩) p.1 AO
   exact this (Az e)
  rw[e,yP ps (acc++[p]) (by rw[Cy];exact nd),Cy]
  rfl
theorem gkv_put {L:List Str} (nd:L.Nodup) (γ:Str->Nat):putAll [] (L.map fun x=>((Sum.inr x:Key),nV (γ x)))=L.map fun x=>(Sum.inr x,nV (γ x)):=by
 rw[yP _ [] ?_,D6]
 rw[D6,A2]
 unfold List.Nodup at nd ⊢
 rw[Bw]
 exact nd.imp fun hab e=>hab (Cv e)
def Wo:Sp:=fun vs H Q _=>∃ (v:V) (s:Sy),vs=[v]/\qv H s v/\Zd s/\s.sz<=63/\∀ l us H',zB H H'->H' l=some (.lst us)->Paired (qv H') s.sub us->Q (.ref l) H'
def QE:Sp:=fun vs H Q _=>∃ (l:Addr) (ps:List (V×Sy)) (L0:List Str),vs=[.ref l]/\H l=some (.lst (ps.map Prod.fst))/\SyS H ps/\ps.length<=15/\(∀ z ∈ ps,z.2.sz<=63/\∀ x ∈ z.2.lets,x ∈ L0)/\L0.length<=60/\∀ (k:Addr) (L:List Str) (H':Hp),zB H H'->H' k=some (.lst (L.map V.str))->L.Nodup->(∀ x,x ∈ L ↔ ∃ z ∈ ps,x ∈ z.2.lets)->PyProof.Rows.sortedS L=true->Q (.ref k) H'
def W9:Sp:=fun vs H Q _=>∃ (g u:Addr) (x:Str) (o:Nat) (ls:List (Str×Nat)),vs=[.ref g,.str x,.ref u]/\Zb H g ls/\ls.length<=60/\x ∉ ls.map Prod.fst/\H u=some (.tup [nV o])/\∀ g' H',zB H H'->Zb H' g' (ls++[(x,o)])->Q (.ref g') H'
def spCbn:Sp:=fun vs H Q _=>∃ (v:V) (T:Tb),vs=[v]/\WE H v T/\Z0 T/\(qf T).Nodup/\∀ e H',zB H H'->IsCd H' e T->Q (.ref e) H'
def XJ:Sp:=fun vs H Q _=>∃ (e l:Addr) (us:List V) (ss:List Sy) (T:Tb) (L:List Str),vs=[.ref e,.ref l]/\IsCd H e T/\H l=some (.lst us)/\Paired (qv H) ss us/\(∀ s ∈ ss,GSt T L s)/\Ls L/\∀ H',zB H H'->Q .non H'
def yQ:Nat->Sp
 | 0=>fun _ _ _ _=>False
 | j+1=>fun vs H Q _=>∃ (e g:Addr) (v:V) (T:Tb) (L:List Str) (s:Sy) (ls:List (Str×Nat)),vs=[.ref e,nV T.m,v,.ref g]/\IsCd H e T/\Z0 T/\(qf T).Nodup/\qv H s v/\GSt T L s/\Ls L/\Zb H g ls/\(∀ p ∈ ls,p.2 < T.m)/\s.dp<=j/\∀ (l:Addr) (xs:List Nat) (H':Hp),zB H H'->H' l=some (.lst (xs.map nV))->(∀ y,y ∈ xs ↔ ww T ls s y)->xs.length<=9->Q (.ref l) H'
structure Ask (H:Hp) (v:V) (pl:Addr) (sv:V) (T:Tb) (L:List Str) (ps:List (V×Sy)) (S:Sy):Prop where
 tb:WE H v T
 gt:Z0 T
 nd:(qf T).Nodup
 hp:H pl=some (.lst (ps.map Prod.fst))
 pn:ps.length<=14
 ps:∀ z ∈ ps,GSt T L z.2/\z.2.dp<=10/\z.2.sz<=63/\qv H z.2 z.1
 sv:qv H S sv
 gs:GSt T L S
 sd:S.dp<=10
 sz:S.sz<=63
 hL:Ls L
 ln:L.length<=5
theorem Ask.same {H H':Hp} {v:V} {pl:Addr} {sv:V} {T:Tb} {L:List Str} {ps:List (V×Sy)} {S:Sy} (a:Ask H v pl sv T L ps S) (s:zB H H'):Ask H' v pl sv T L ps S:=
 ⟨a.tb.same s,a.gt,a.nd,s _ _ a.hp,a.pn,(fun z hz=>by obtain⟨h1,h2,h3,h4⟩:=a.ps z hz;exact⟨h1,h2,h3,h4.same s⟩),a.sv.same s,a.gs,a.sd,a.sz,a.hL,a.ln⟩
theorem Ask.lets {H:Hp} {v:V} {pl:Addr} {sv:V} {T:Tb} {L M:List Str} {ps:List (V×Sy)} {S:Sy} (a:Ask H v pl sv T L ps S) (h1:∀ x ∈ M,x ∈ L) (h2:∀ z ∈ ps,∀ x ∈ z.2.lets,x ∈ M) (h3:∀ x ∈ S.lets,x ∈ M) (hl:M.length<=5):Ask H v pl sv T M ps S:=
 ⟨a.tb,a.gt,a.nd,a.hp,a.pn,(fun z hz=>by obtain⟨k1,k2,k3,k4⟩:=a.ps z hz;exact⟨k1.lets.mono (h2 z hz),k2,k3,k4⟩),a.sv,a.gs.lets.mono h3,a.sd,a.sz,fun x hx=>a.hL x (h1 x hx),hl⟩
def wm:Sp:=fun vs H Q _=>∃ (v:V) (pl g:Addr) (sv:V) (T:Tb) (L:List Str) (ps:List (V×Sy)) (S:Sy) (ls:List (Str×Nat)),vs=[v,.ref pl,sv,.ref g]/\Ask H v pl sv T L ps S/\Zb H g ls/\(∀ p ∈ ls,p.2 < T.m)/\(Clo T ls (ps.map Prod.snd) S->∀ H',zB H H'->Q (.bl true) H')/\(¬ Clo T ls (ps.map Prod.snd) S->∀ H',zB H H'->Q (.bl false) H')
def gkv (L:List Str) (γ:Str->Nat):List (Key×V):=L.map fun x=>(Sum.inr x,nV (γ x))
def Z2:Nat->Sp
 | 0=>fun _ _ _ _=>False
 | j+1=>fun vs H Q _=>∃ (v:V) (pl la g:Addr) (sv:V) (T:Tb) (L:List Str) (ps:List (V×Sy)) (S:Sy) (ls:List (Str×Nat)),vs=[v,.ref pl,sv,.ref la,.ref g]/\Ask H v pl sv T L ps S/\L.Nodup/\H la=some (.lst (L.map V.str))/\Zb H g ls/\(∀ p ∈ ls,p.2 < T.m)/\ls.map Prod.fst=L.take ls.length/\L.length<=ls.length+j /\
  (FolL T ls (ps.map Prod.snd) S->∀ t tv H',zB H H'->H' t=some (.tup [.str "follows",tv])->Q (.ref t) H') /\
  (∀ γ,Gd T γ->Keeps γ ls->Bar T γ (ps.map Prod.snd) S->∀ t d H',zB H H'->H' t=some (.tup [.str "barred",.ref d])->H' d=some (.dK (gkv L γ))->Q (.ref t) H')
def Q8:Sp:=fun vs H Q _=>∃ (v:V) (pl:Addr) (sv:V) (T:Tb) (L:List Str) (ps:List (V×Sy)) (S:Sy),vs=[v,.ref pl,sv]/\Ask H v pl sv T L ps S /\
  (Fol T (ps.map Prod.snd) S->∀ t tv H',zB H H'->H' t=some (.tup [.str "follows",tv])->Q (.ref t) H') /\
  (∀ γ (M:List Str),Gd T γ->Bar T γ (ps.map Prod.snd) S->M.Nodup->(∀ x,x ∈ M ↔ (∃ z ∈ ps,x ∈ z.2.lets)\/x ∈ S.lets)->∀ t d H',zB H H'->H' t=some (.tup [.str "barred",.ref d])->H' d=some (.dK (gkv M γ))->Q (.ref t) H')
def cnOf (c:Ya):Cn:=⟨c.nm,c.pl.toNat,(gsOf c).map Int.toNat⟩
def tbOf (T:xA):Tb:=⟨T.m.toNat,T.ws.map Int.toNat,T.cs.map cnOf⟩
theorem nat_vs {is:List Int} (h:∀ i ∈ is,0<=i):(is.map Int.toNat).map nV=is.map V.int:=by
 rw[A2]
 refine DT fun i hi=>?_
 show V.int ((i.toNat:Nat):Int)=V.int i
 rw[Cg (h i hi)]
theorem Wp {H:Hp} {m:Int}:∀ {cs:List Ya} {vs:List V},ZR H cs vs->(∀ c ∈ cs,GoodC m c)->(∀ c ∈ cs,∀ o ∈ c.cs,o ≠ none)->Cns H (cs.map cnOf) vs
 | [],vs,h,_,_=>by
  cases h
  exact .nil
 | c :: cs,vs,⟨t,u,rest,e,h1,h2,h3⟩,hg,hf=>by
  subst e
  have gc:=hg c AO
  have fc:=hf c AO
  refine .cons ⟨t,u,rfl,?_,?_⟩ (Wp h3 (fun d hd=>hg d (AU _ hd)) fun d hd=>hf d (AU _ hd))
  ·show H t=some (.tup [.str c.nm,.int ((c.pl.toNat:Nat):Int),.ref u])
   rw[Cg gc.p0]
   exact h1
  ·show H u=some (.tup (((gsOf c).map Int.toNat).map nV))
   rw[nat_vs fun i hi=>?_,h2,JA fc]
   ·rfl
   ·obtain⟨o,ho,rfl⟩:=AS.mp hi
    cases o with
    | none=>exact Int.le_refl _
    | some j=>exact (gc.cells _ ho j rfl).1
theorem half_tb {H:Hp} {v:V} {T:xA} (h:IsHalf H v T) (g:Good T) (f:Full T):WE H v (tbOf T):=by
 obtain⟨a,w,c,vs,e,h1,h2,h3,h4⟩:=h
 refine⟨a,w,c,vs,e,?_,?_,h3,Wp h4 g.each f⟩
 ·show H a=some (.tup [.int ((T.m.toNat:Nat):Int),.ref w,.ref c])
  rw[Cg (by have:=g.m1;omega)]
  exact h1
 ·show H w=some (.tup ((T.ws.map Int.toNat).map nV))
  rw[nat_vs fun i hi=>(g.ws i hi).1]
  exact h2
theorem XL {T:xA} (g:Good T) (f:Full T):Z0 (tbOf T):=by
 have m1:=g.m1
 have m9:=g.m9
 refine⟨by show 1<=T.m.toNat;omega,by show T.m.toNat<=9;omega,?_,fun x hx=>?_,by show (T.cs.map cnOf).length<=16;rw[AC];have:=g.few;omega,fun c hc=>?_⟩
 ·show (T.ws.map Int.toNat).Pairwise (· < ·)
  rw[Bw]
  refine C6 (fun {a b} ha hb hab=>?_) g.rising
  have:=(g.ws a ha).1
  omega
 ·obtain⟨i,hi,rfl⟩:=AS.mp hx
  have:=g.ws i hi
  show i.toNat < T.m.toNat
  omega
 ·obtain⟨d,hd,rfl⟩:=AS.mp hc
  have gc:=g.each d hd
  have hl:=gc.len
  refine⟨Ag gc.nm.2.1 (by decide),by show d.pl.toNat<=2;have:=gc.p2;omega,⟨?_,fun x hx=>?_⟩⟩
  ·show ((gsOf d).map Int.toNat).length=T.m.toNat ^ d.pl.toNat
   unfold gsOf
   rw[AC,AC]
   have e:T.m=((T.m.toNat:Nat):Int):=by omega
   rw[e,<- Int.natCast_pow] at hl
   exact Int.ofNat_inj.mp hl
  ·obtain⟨i,hi,rfl⟩:=AS.mp hx
   obtain⟨o,ho,rfl⟩:=AS.mp hi
   cases o with
   | none=>exact absurd rfl (f d hd none ho)
   | some j=>
    have:=gc.cells _ ho j rfl
    show j.toNat < T.m.toNat
    omega
theorem half_nd {T:xA} (g:Good T):(qf (tbOf T)).Nodup:=by
 have:=g.nd
 unfold qf tbOf
 rw[A2]
 exact this
theorem YE:jr.cps.toList=(List.range 26).map (97 + ·):=by decide +kernel
theorem YF {v:Int} (h0:0<=v) (h1:v < 26):atI jr.cps.toList v=some (97+v.toNat):=by
 have e:v=((v.toNat:Nat):Int):=by omega
 have q:atI jr.cps.toList ((v.toNat:Nat):Int)=some (97+v.toNat):=qQ (by rw[YE,AW,DU (by omega)];rfl)
 rw[<- e] at q
 exact q
theorem at5 {v:Int} (h0:0<=v) (h1:v < 5):∃ n:Int,atI [V.int 1,V.int 3,V.int 5,V.int 7,V.int 9] v=some (.int n)/\(n=1\/n=3\/n=5\/n=7\/n=9):=by
 have e:v=0\/v=1\/v=2\/v=3\/v=4:=by omega
 rcases e with rfl | rfl | rfl | rfl | rfl
 ·exact⟨1,rfl,by omega⟩
 ·exact⟨3,rfl,by omega⟩
 ·exact⟨5,rfl,by omega⟩
 ·exact⟨7,rfl,by omega⟩
 ·exact⟨9,rfl,by omega⟩
theorem one_ltr {c:Nat} (h0:97<=c) (h1:c<=122):Ltr (YC c):=⟨rfl,fun x hx=>by
 have e:x=c:=by simpa [YC] using hx
 rw[e]
 exact⟨h0,h1⟩⟩
theorem one_inj {a b:Nat} (h:YC a=YC b):a=b:=by
 have:(#[a]:Array Nat) = #[b]:=Be Str.cps h
 simpa using this
def ya (v st:Int) (k:Nat):Nat:=97+((v+st * (k:Int)) % 26).toNat
theorem XM {v st:Int} (hs:st=1\/st=3\/st=5\/st=7\/st=9) {a b:Nat} (ha:a < 5) (hb:b < 5) (h:ya v st a=ya v st b):a=b:=by
 unfold ya at h
 rcases hs with rfl | rfl | rfl | rfl | rfl <;> omega
theorem YG {v st:Int} (hs:st=1\/st=3\/st=5\/st=7\/st=9) {n:Nat} (hn:n<=5):((List.range n).map fun k=>YC (ya v st k)).Nodup:=by
 unfold List.Nodup
 rw[Bw]
 refine C6 (fun {a b} ha hb hab he=>hab ?_) (List.nodup_range (n:=n))
 exact XM hs (AX (BN.mp ha) hn) (AX (BN.mp hb) hn) (one_inj he)
theorem Q9 {fs:List (V×Sy)} {u:Int} (h0:0<=u) (h1:u < fs.length):∃ z ∈ fs,atI (fs.map Prod.fst) u=some z.1:=by
 have e:u=((u.toNat:Nat):Int):=by omega
 have hu:u.toNat < fs.length:=by omega
 refine⟨fs[u.toNat],Bc hu,?_⟩
 have q:atI (fs.map Prod.fst) ((u.toNat:Nat):Int)=some fs[u.toNat].1:=qQ (by rw[AW,AK hu];rfl)
 rw[<- e] at q
 exact q
theorem qg {H H':Hp} {p:Addr} (h:qk H p) (s:zB H H'):qk H' p:=by
 obtain⟨r,a,b,e⟩:=h
 exact⟨r,a,b,s _ _ e⟩
theorem qG {H:Hp} {p t:Addr} (h:qk H p) (n:H t=none):t ≠ p:=fun z=>by
 obtain⟨r,a,b,e⟩:=h
 rw[<- z,n] at e
 cases e
theorem yR {p t:Addr} {H H':Hp} (o:Off p H H') (n:H' t=none) (ne:t ≠ p):H t=none:=by
 cases e:H t with
 | none=>rfl
 | some x=>rw[o _ _ ne e] at n;cases n
theorem sz_sum {s:Sy} (hs:s.isL=false):(1:Int)+(s.ps.map fun a=>((a.sz:Nat):Int)).sum=((s.sz:Nat):Int):=by
 cases s with
 | ltr x=>cases hs
 | n0 n=>rfl
 | n1 n a=>simp[Sy.ps,Sy.sz];omega
 | n2 n a b=>simp[Sy.ps,Sy.sz];omega
theorem XN {s:Sy} (hs:s.isL=true):s.sz=1:=by
 cases s with
 | ltr x=>rfl
 | _=>cases hs
theorem cut_ints (ns:List Int) (lo hi:Option Int):∃ ms:List Int,wu (ns.map V.int) lo hi=ms.map V.int:=by
 unfold wu
 rw[<- DX,<- Cb]
 exact⟨_,rfl⟩
theorem cat_ints (ms:List Int):([.int 0]++ms.map V.int:List V)=(0 :: ms).map V.int:=rfl
def wn:Nat->Sp
 | 0=>fun _ _ _ _=>False
 | j+1=>fun vs H Q _=>∃ (v:V) (s:Sy),vs=[v]/\qv H s v/\s.dp<=j/\∀ H',zB H H'->Q (nV s.sz) H'
def Qc:Sp:=fun vs H Q _=>∃ (p:Addr) (m:Int),vs=[.ref p,.int m]/\qk H p/\1<=m/\m<=5/\∀ (l:Addr) (L:List Str) (H':Hp),Off p H H'->qk H' p->H l=none->l ≠ p->H' l=some (.lst (L.map V.str))->(L.length:Int)=m->L.Nodup->Ls L->Q (.ref l) H'
def Fnd (H:Hp) (T:Tb) (L:List Str) (most:Nat) (l:Addr) (fs:List (V×Sy)):Prop:=H l=some (.lst (fs.map Prod.fst))/\1<=fs.length/\fs.length<=20/\∀ z ∈ fs,GSt T L z.2/\z.2.sz<=most/\qv H z.2 z.1
def yb:Sp:=fun vs H Q _=>∃ (p ll:Addr) (v:V) (T:Tb) (L:List Str) (steps most:Nat),vs=[.ref p,v,.ref ll,nV steps,nV most]/\qk H p/\WE H v T/\Z0 T/\ll ≠ p/\H ll=some (.lst (L.map V.str))/\1<=L.length/\L.length<=5/\steps<=8/\1<=most/\most<=9/\∀ l fs H',Off p H H'->qk H' p->H l=none->l ≠ p->Fnd H' T L most l fs->Q (.ref l) H'
def wo:Sp:=fun vs H Q _=>∃ (p l:Addr) (T:Tb) (L:List Str) (most:Nat) (fs:List (V×Sy)) (n:Nat),vs=[.ref p,.ref l,nV n]/\qk H p/\l ≠ p/\Fnd H T L most l fs/\n<=3/\∀ (t sl:Addr) (ps:List (V×Sy)) (z:V×Sy) (H':Hp),Off p H H'->qk H' p->H sl=none->sl ≠ p->H' t=some (.tup [.ref sl,z.1])->H' sl=some (.lst (ps.map Prod.fst))->ps.length<=n->(∀ y ∈ ps,y ∈ fs)->z ∈ fs->Q (.ref t) H'
def spLaw (K:PySem.W.Frag):Sp:=fun vs H Q _=>∃ (a:Addr) (ns:List Int),vs=[.ref a]/\SqL K H a (ns.map V.int)/\ns.length<=63/\∀ H',Q (.bl true) H'
theorem in_strs (c:Str) (cs:List Str):inV (.str c) (cs.map V.str)=decide (c ∈ cs):=by
 induction cs with
 | nil=>rfl
 | cons w cs ih=>
  unfold inV at ih ⊢
  rw[AQ,B1,ih]
  have e:eqV (.str w) (.str c)=decide (c=w):=by
   by_cases h:c=w
   ·rw[h]
    simp[eqV]
   ·rw[Ay h]
    simp[eqV]
    exact fun z=>h z.symm
  rw[e,<- Bool.decide_or]
  exact decide_eq_decide.mpr AR.symm
theorem YH (cs:List Str):(cs.map V.str).all Zv=true:=by
 rw[Dn,A7]
 intro i _
 rfl
theorem QF {xs:List V} (b:Nat) (hb:b<=xs.length):wu xs none (some (b:Int))=xs.take b:=by
 unfold wu
 rw[HT.sIx_none,HT.sIx_nat,show min b xs.length=b by omega,Co,Nat.sub_zero]
theorem cut_fr {xs:List V} (k:Nat) (hk:k<=xs.length):wu xs (some (k:Int)) none=xs.drop k:=by
 unfold wu
 rw[HT.sIx_nat,HT.sIx_none,show min k xs.length=k by omega]
 exact A8 (by rw[BS];omega)
theorem YI {nm:Str} {ss:List Sy} (h:ss.length<=2):(Sy.mk nm ss).sz=(ss.map Sy.sz).sum+1:=by
 rw[<- Sy.sz_ps,Sy.ps_mk h]
theorem pr_of {H:Hp}:∀ {ps:List (V×Sy)},(∀ z ∈ ps,qv H z.2 z.1)->Paired (qv H) (ps.map Prod.snd) (ps.map Prod.fst)
 | [],_=>.nil
 | z :: ps,h=>.cons (h z AO) (pr_of fun y hy=>h y (AU _ hy))
theorem nm_inj {T:Tb} (nT:(qf T).Nodup) {i k:Nat} {d c:Cn} (h1:T.cs[i]? = some d) (h2:T.cs[k]? = some c) (e:d.nm=c.nm):i=k:=by
 have r1:(qf T)[i]? = some c.nm:=by
  unfold qf
  rw[AW,h1,<- e]
  rfl
 have r2:(qf T)[k]? = some c.nm:=by
  unfold qf
  rw[AW,h2]
  rfl
 obtain⟨l1,e1⟩:=AE.mp r1
 obtain⟨l2,e2⟩:=AE.mp r2
 have m1:=nT.idxOf_getElem i l1
 have m2:=nT.idxOf_getElem k l2
 rw[e1] at m1
 rw[e2] at m2
 omega
def Kn (T:Tb) (s:Sy):Prop:=s.isL=true\/∃ c ∈ T.cs,c.nm=s.nm/\c.pl=s.ps.length
def WF (T:Tb) (nm:Str) (ss:List Sy):Prop:=∃ (i:Nat) (z:Sy),ss[i]? = some z/\(∀ (j:Nat) (y:Sy),j < i->ss[j]? = some y->Kn T y)/\¬ Kn T z/\z.nm=nm
theorem XO {T:Tb} {a b:Str} {ss:List Sy} (h:WF T a ss) (k:WF T b ss):a=b:=by
 obtain⟨i,z,h1,h2,h3,h4⟩:=h
 obtain⟨j,y,k1,k2,k3,k4⟩:=k
 rcases Nat.lt_trichotomy i j with e | e | e
 ·exact absurd (k2 i z e h1) h3
 ·rw[e,k1] at h1
  rw[<- h4,<- k4,AL h1]
 ·exact absurd (h2 j y e k1) k3
theorem yc {T:Tb} {a:Str} {ss:List Sy} (h:WF T a ss) (k:∀ y ∈ ss,Kn T y):False:=by
 obtain⟨i,z,h1,_,h3,_⟩:=h
 exact h3 (k z (AV h1))
theorem Wq {T:Tb} {z:Sy} {ss:List Sy} (h:¬ Kn T z):WF T z.nm (z :: ss):=⟨0,z,rfl,(fun j y hj=>absurd hj (BX _)),h,rfl⟩
theorem Wr {T:Tb} {nm:Str} {as bs:List Sy} (h:∀ y ∈ as,Kn T y) (k:WF T nm bs):WF T nm (as++bs):=by
 obtain⟨i,z,k1,k2,k3,k4⟩:=k
 refine⟨as.length+i,z,by rw[CD (Nat.le_add_right _ _),Nat.add_sub_cancel_left];exact k1,fun j y hj hy=>?_,k3,k4⟩
 by_cases e:j < as.length
 ·rw[Bt e] at hy
  exact h y (AV hy)
 ·rw[CD (by omega)] at hy
  exact k2 (j - as.length) y (by omega) hy
theorem badL_app {T:Tb} {nm:Str} {as bs:List Sy} (k:WF T nm as):WF T nm (as++bs):=by
 obtain⟨i,z,k1,k2,k3,k4⟩:=k
 have hi:=(AE.mp k1).1
 refine⟨i,z,by rw[Bt hi];exact k1,fun j y hj hy=>?_,k3,k4⟩
 rw[Bt (by omega)] at hy
 exact k2 j y hj hy
theorem GSt.kn {T:Tb} {L:List Str} {s:Sy} (h:GSt T L s):∀ y ∈ s.sub,Kn T y:=fun y hy=>by
 have g:=GSt.sub h hy
 cases e:y.isL with
 | true=>exact .inl e
 | false=>exact .inr (GSt.node g e).1
def BadQ (T:Tb) (nm:Str) (zs:List (V×Sy)):Prop:=∃ (i:Nat) (z:V×Sy),zs[i]? = some z/\(∀ (j:Nat) (y:V×Sy),j < i->zs[j]? = some y->∀ a ∈ y.2.sub,Kn T a)/\WF T nm z.2.sub
theorem XQ {T:Tb} {a b:Str} {ss:List (V×Sy)} (h:BadQ T a ss) (k:BadQ T b ss):a=b:=by
 obtain⟨i,z,h1,h2,h3⟩:=h
 obtain⟨j,y,k1,k2,k3⟩:=k
 rcases Nat.lt_trichotomy i j with e | e | e
 ·exact (yc h3 (k2 i z e h1)).elim
 ·rw[e,k1] at h1
  rw[AL h1] at k3
  exact XO h3 k3
 ·exact (yc k3 (h2 j y e k1)).elim
theorem yd {T:Tb} {nm:Str} {z:V×Sy} {as bs:List (V×Sy)} (h:∀ y ∈ as,∀ a ∈ y.2.sub,Kn T a) (k:WF T nm z.2.sub):BadQ T nm (as++z :: bs):=
 ⟨as.length,z,by rw[CD (AG _),Nat.sub_self];rfl,fun j y hj hy=>by rw[Bt hj] at hy;exact h y (AV hy),k⟩
def CdX (H:Hp) (d:Addr) (T:Tb):Prop:=∃ kvs,H d=some (.dT kvs)/\(∀ c ∈ T.cs,∃ u,jz kvs (we c)=some u)/\∀ k u,jz kvs k=some u->∃ c ∈ T.cs,k=we c
theorem CdX.same {H H':Hp} {d:Addr} {T:Tb} (h:CdX H d T) (s:zB H H'):CdX H' d T:=by
 obtain⟨kvs,h1,h2⟩:=h
 exact⟨kvs,s _ _ h1,h2⟩
theorem XR:∀ (ps acc:List (List Key×V)) {k:List Key} {u:V},jz (putAllT acc ps) k=some u->k ∈ ps.map Prod.fst\/jz acc k=some u
 | [],acc,k,u,h=>.inr h
 | p :: ps,acc,k,u,h=>by
  rcases XR ps (ZH acc p.1 p.2) h with z | z
  ·exact .inl (AU _ z)
  ·rw[JZ] at z
   split at z
   ·rename_i e
    exact .inl (by rw[AQ,e];exact AO)
   ·exact .inr z
def XS:Sp:=fun vs H Q _=>∃ (v:V) (T:Tb),vs=[v]/\WE H v T/\Z0 T/\(qf T).Nodup/\∀ e H',zB H H'->IsCd H' e T->CdX H' e T->Q (.ref e) H'
def XT (C:Addr):Sp:=fun vs H Q E=>∃ (e l:Addr) (us:List V) (ss:List Sy) (T:Tb),vs=[.ref e,.ref l]/\CdX H e T/\H l=some (.lst us)/\Paired (qv H) ss us/\(∀ s ∈ ss,s.isL=true->Ltr s.nm)/\((∀ s ∈ ss,Kn T s)->∀ H',zB H H'->Q .non H')/\∀ nm,WF T nm ss->∀ d H',zB H H'->H' d=none->E (.ref C) (some d) (upd H' d (.xd [("name",.str nm)]))
def XU (C:Addr):Sp:=fun vs H _ E=>∃ (v:V) (pl:Addr) (sv:V) (T:Tb) (ps:List (V×Sy)) (S:Sy) (nm:Str),vs=[v,.ref pl,sv]/\WE H v T/\Z0 T/\(qf T).Nodup/\H pl=some (.lst (ps.map Prod.fst))/\ps.length<=14/\(∀ z ∈ ps++[(sv,S)],qv H z.2 z.1/\Zd z.2/\z.2.sz<=63)/\BadQ T nm (ps++[(sv,S)])/\∀ d H',zB H H'->H' d=none->E (.ref C) (some d) (upd H' d (.xd [("name",.str nm)]))
def ye (C:Addr):Sp:=fun vs H Q _=>∃ (e:Addr) (d:Option Addr),vs=[.ref e,.int 2]/\H e=some (YO e (.ref C) d)/\∀ H',zB H H'->Q (.bl true) H'
def Ja:Sp:=fun vs H Q _=>∃ (v:V) (pl:Addr) (sv:V) (T:Tb) (ps:List (V×Sy)) (S:Sy) (nm:Str),vs=[v,.ref pl,sv,.str nm]/\WE H v T/\Z0 T/\(qf T).Nodup/\H pl=some (.lst (ps.map Prod.fst))/\ps.length<=14/\(∀ z ∈ ps++[(sv,S)],qv H z.2 z.1/\Zd z.2/\z.2.sz<=63)/\BadQ T nm (ps++[(sv,S)])/\∀ H',zB H H'->Q (.bl true) H'
def spBad:Sp:=fun vs H Q _=>∃ (p l:Addr) (v:V) (T:Tb) (L:List Str) (most:Nat) (fs:List (V×Sy)),vs=[.ref p,v,.ref l]/\qk H p/\WE H v T/\Z0 T/\(qf T).Nodup/\T.cs.length<=5/\l ≠ p/\Fnd H T L most l fs/\Ls L/\most<=8/\∀ t S H',Off p H H'->qk H' p->qv H' S (.ref t)->S.isL=false->¬ Kn T S->Zd S->S.sz<=17->Q (.ref t) H'
def yf:Sp:=fun vs H Q _=>∃ (p l:Addr) (v:V) (T:Tb) (L:List Str) (most:Nat) (fs:List (V×Sy)),vs=[.ref p,v,.ref l]/\qk H p/\WE H v T/\Z0 T/\(qf T).Nodup/\T.cs.length<=5/\l ≠ p/\Fnd H T L most l fs/\Ls L/\most<=8/\∀ t u nm S H',Off p H H'->qk H' p->H' t=some (.tup [.str nm,u])->qv H' S u->WF T nm S.sub->Zd S->S.sz<=40->Q (.ref t) H'
theorem Jb {nm:Str} {ss:List Sy} (h:∀ a ∈ ss,Zd a):Zd (Sy.mk nm ss):=by
 match ss,h with
 | [],_=>exact fun x hx=>by cases hx
 | [a],h=>exact fun x hx=>h a (by simp) x hx
 | a :: b :: l,h=>
  intro x hx
  rcases Aa.mp (show x ∈ a.lets++b.lets from hx) with z | z
  ·exact h a (by simp) x z
  ·exact h b (by simp) x z
theorem at120 {pl:Nat} (h:pl<=2):∃ k:Nat,atI [V.int 1,V.int 2,V.int 0] (pl:Int)=some (.int (k:Int))/\k<=2/\k ≠ pl:=by
 match pl,h with
 | 0,_=>exact⟨1,qQ rfl,by decide,by decide⟩
 | 1,_=>exact⟨2,qQ rfl,by decide,by decide⟩
 | 2,_=>exact⟨0,qQ rfl,by decide,by decide⟩
theorem Ws {T:Tb} {c:Cn} {as bs:List Sy} {s:Sy} {nm:Str} (hc:c ∈ T.cs) (hl:c.pl=(as++s :: bs).length) (h2:(as++s :: bs).length<=2) (ha:∀ a ∈ as,∀ y ∈ a.sub,Kn T y) (h:WF T nm s.sub):WF T nm (Sy.mk c.nm (as++s :: bs)).sub:=by
 rw[Sy.sub_ps,Sy.ps_mk h2,Cf,Cw]
 refine Wr (as:=[_]) (fun y hy=>?_) (Wr (fun y hy=>by obtain⟨a,h1,h2⟩:=Dw.mp hy;exact ha a h1 y h2) (badL_app h))
 rw[AF.mp hy]
 exact .inr ⟨c,hc,(Sy.nm_mk _ _).symm,by rw[Sy.ps_mk h2];exact hl⟩
theorem pr_drop1 {α β:Type} {F:α->β->Prop}:∀ {as:List α} {bs:List β},Paired F as bs->Paired F (as.drop 1) (bs.drop 1)
 | _,_,.nil=>.nil
 | _,_,.cons _ t=>t
theorem XV {α:Type} (f:α->Nat):∀ ss:List α,((ss.drop 1).map f).sum<=(ss.map f).sum
 | []=>AG _
 | s :: ss=>by simp
theorem XW {R:TS} {D:WJ} {P:TS->WJ->Prop} {G:Prop} (main:P R D->G) (r:P R D):G:=main r
def WG:List Str:=["za", "zb", "zc", "zd", "ze", "zf"]
theorem six_free {ns:List Str} (h:ns.length<=5):∃ x r,(WG.filter fun x=>decide (x ∉ ns))=x :: r/\x ∉ ns:=by
 cases e:WG.filter fun x=>decide (x ∉ ns) with
 | cons x r=>
  have:x ∈ WG.filter fun x=>decide (x ∉ ns):=by rw[e];exact AO
  exact⟨x,r,rfl,Az (Bu.mp this).2⟩
 | nil=>
  have:=j6 WG ns (by decide +kernel) fun x hx=>CL fun z=>by
   have:x ∈ WG.filter fun x=>decide (x ∉ ns):=Bu.mpr ⟨hx,BV z⟩
   rw[e] at this
   cases this
  have h6:WG.length=6:=rfl
  omega
def top (i:Nat):Stmt:=PySem.Challenge.pw_truthgrades_k20_names_that_are_not_there.main.body.getD i (.Pass ⟨0,0,0,0⟩)
structure Gb (mg:Str->Option Value):Prop where
 «abs» : mg "abs" = none
 «range» : mg "range" = none
 «tuple» : mg "tuple" = none
 «list» : mg "list" = none
 «isinstance» : mg "isinstance" = none
 «int» : mg "int" = none
 «str» : mg "str" = none
 «len» : mg "len" = none
 «min» : mg "min" = none
 «all» : mg "all" = none
 «any» : mg "any" = none
 «dict» : mg "dict" = none
 «set» : mg "set" = none
 «sorted» : mg "sorted" = none
 «reversed» : mg "reversed" = none
 «sum» : mg "sum" = none
 «ValueError» : mg "ValueError" = none
structure Cl (K:PySem.W.Frag) (mg:Str->Option Value) (c:Nat->Addr):Prop where
 g_GradeError:mg "GradeError" = some (.ref (c 0))
 g_NoFraction:mg "NoFraction" = some (.ref (c 1))
 g_NoTable:mg "NoTable" = some (.ref (c 2))
 g_NoName:mg "NoName" = some (.ref (c 3))
 g_NoSaying:mg "NoSaying" = some (.ref (c 4))
 g_NoLetter:mg "NoLetter" = some (.ref (c 5))
 g_TooMany:mg "TooMany" = some (.ref (c 6))
 g_NoKind:mg "NoKind" = some (.ref (c 7))
 g_NoCount:mg "NoCount" = some (.ref (c 8))
 g_NoRow:mg "NoRow" = some (.ref (c 9))
 g_NoKept:mg "NoKept" = some (.ref (c 10))
 xa:exI K (c 3) bmV "ValueError.__new__" = true
 xb:PySem.W.keepIn K (.ref (c 3))=true
 xc:PySem.W.findIn K (.ref (c 3)) "__setattr__" = some (some (.builtin "object.__setattr__"))
 xd:PySem.W.findIn K (.ref (c 3)) "name" = some none
 xe:PySem.W.findIn K (.ref (c 3)) "__getattribute__" = some (some (.builtin "BaseException.__getattribute__"))
 xf:PySem.W.findIn K (.ref (c 3)) "__getattr__" = some none
 r1:PySem.W.specialIn K (.ref (c 0)) (Str.ofString "__getattribute__")=some (some (.builtin "type.__getattribute__"))
 r2:PySem.W.readsIn K (c 0) (.type "type")=true
 r3:PySem.W.findCls K (.ref (c 0)) (.type "type") "__init__" = some (.val (.builtin "ValueError.__init__"))
 m_NoName:PySem.W.exmOne K (.ref (c 3)) (.ref (c 0))=some true
 h_NoName:qt K (c 3)=true
 k_ValueError:PySem.W.kitOne K (.ref (c 3)) (.type "ValueError")=some true
 k_NoFraction:PySem.W.kitOne K (.ref (c 3)) (.ref (c 1))=some false
 k_NoTable:PySem.W.kitOne K (.ref (c 3)) (.ref (c 2))=some false
 k_NoName:PySem.W.kitOne K (.ref (c 3)) (.ref (c 3))=some true
 k_NoSaying:PySem.W.kitOne K (.ref (c 3)) (.ref (c 4))=some false
 k_NoLetter:PySem.W.kitOne K (.ref (c 3)) (.ref (c 5))=some false
 k_TooMany:PySem.W.kitOne K (.ref (c 3)) (.ref (c 6))=some false
 k_NoKind:PySem.W.kitOne K (.ref (c 3)) (.ref (c 7))=some false
 k_NoCount:PySem.W.kitOne K (.ref (c 3)) (.ref (c 8))=some false
 k_NoRow:PySem.W.kitOne K (.ref (c 3)) (.ref (c 9))=some false
 k_NoKept:PySem.W.kitOne K (.ref (c 3)) (.ref (c 10))=some false
theorem Cl.xi_NoName {K:PySem.W.Frag} {mg:Str->Option Value} {c:Nat->Addr} (cl:Cl K mg c):ExI K (c 3) "name":=⟨cl.xa,cl.xb,cl.xc,cl.xd,cl.xe,cl.xf⟩
abbrev qU:Stmt:=clsAt (top 5) 0
theorem Jl:zv ["self", "name"] ["self", "name"] (zg qU):=⟨rfl,rfl,rfl,by decide +kernel,rfl,by decide +kernel,by decide +kernel⟩
theorem Jm {P:Program} {w:World} {K:PySem.W.Frag} {mg:Str->Option Value} {base:Heap} {f:Addr} {fd:FuncData} (F:Fun K "__init__" "NoName.__init__" qU f fd) (gb:Gb mg) {c:Nat->Addr} (cl:Cl K mg c):jj P w K mg base CX0 2 f fd ["self", "name"] (yN (c 3) "name"):=by
 refine F.ok Jl (fun vs H Q E h=>?_) (fun cdv A outer s H vs Q E hr h=>?_)
 ·obtain⟨e,y,rfl,_⟩:=h
  rfl
 obtain⟨e,y,rfl,he,q⟩:=h
 refine⟨_,(@ze _ _ _ _ _ (@qY _ _ _ _ (@pe_ginit _ _ _ _ _ _ _ _ _ _ rfl cl.g_GradeError cl.r1 cl.r2 cl.r3 (@za _ _ _ _ _ (@pw _ 0 _ _ rfl rfl) (@za _ _ _ _ _ (@ql _ _ _ _) (@zb _) rfl) rfl) (by decide) rfl rfl rfl) rfl) (@zi _ _ _ (@ps_xd _ _ _ _ _ _ _ _ rfl (@pw _ 0 _ _ rfl rfl) (@pw _ 1 _ _ rfl rfl) rfl))),?_⟩
 exact⟨_,rfl,e,(c 3), "name",_,rfl,he,cl.xi_NoName,_,rfl,_,rfl,e,(c 3),rfl,he,cl.xi_NoName,fun d hd ne=>q d hd ne⟩
abbrev zD:Stmt:=top 14
theorem jk:zv ["text"] ["text"] (zg zD):=⟨rfl,rfl,rfl,by decide +kernel,rfl,by decide +kernel,by decide +kernel⟩
theorem jl {P:Program} {w:World} {K:PySem.W.Frag} {mg:Str->Option Value} {base:Heap} {f:Addr} {fd:FuncData} (F:Fun K "has_small_letters_alone" "has_small_letters_alone" zD f fd) (gb:Gb mg) {c:Nat->Addr} (cl:Cl K mg c):jj P w K mg base CX0 1 f fd ["text"] W7:=by
 refine F.ok jk (fun vs H Q E h=>?_) (fun cdv A outer s H vs Q E hr h=>?_)
 ·obtain⟨x,rfl,_⟩:=h
  rfl
 obtain⟨x,rfl,hs,hl,q⟩:=h
 have nd0:(["sign"]:List Str).Nodup:=by decide +kernel
 refine⟨_,(@zi _ _ _ (@zA _ _ _ _ (@zo _ _ _ _ _ _ _ _ _ (@wN _ K rfl rfl) rfl gb.all bt_all (@za _ _ _ _ _ (@zY _ ["sign"] [none] _ _ _ _ _ _ _ _ _ _ (by exact (show zF ["text"] (zg zD) ["sign"] [none] _ from⟨rfl,by decide +kernel,by decide +kernel,by decide +kernel,by decide +kernel,rfl,by decide +kernel⟩)) rfl (@pi_str _ _ _ _ (@pw _ 0 _ _ rfl rfl)) (fun _ _ _ _=>(@pgl _ 0 _ _ nd0 rfl rfl)) (fun _ _ _ _=>(@qC _)) (fun _ _ _ _=>(@pe_chain _ _ _ _ _ _ _ _ _ _ _ _ (@wQ _) (@wQ _) (@ql _ _ _ _) (@pw _ 0 _ _ rfl rfl) (@ql _ _ _ _) (by with_unfolding_all rfl))) (by intro _;rfl)) (@zb _) rfl) (by decide) (by decide) rfl rfl))),?_⟩
 refine⟨_,rfl,x,rfl,fun D hD=>?_⟩
 refine map_str (h:=fun _=>.bl true) (by omega) hD (fun c hc H' Q' s1 q'=>?_) (fun H' s1 hD'=>?_)
 ·obtain⟨c0,c1⟩:=hs c hc
  refine⟨_,rfl,_,_,rfl,rfl,_,rfl,?_⟩
  have e1:(!decide ((Str.mk #[c]).cps.toList < (Str.ofString "a").cps.toList))=true:=by
   have:(Str.ofString "a").cps.toList=[97]:=by decide +kernel
   rw[this]
   simp[List.cons_lt_cons_iff]
   omega
  have e2:(!decide ((Str.ofString "z").cps.toList < (Str.mk #[c]).cps.toList))=true:=by
   have:(Str.ofString "z").cps.toList=[122]:=by decide +kernel
   rw[this]
   simp[List.cons_lt_cons_iff]
   omega
  rw[if_pos e1]
  refine⟨_,_,rfl,rfl,?_⟩
  rw[e2]
  exact q' _ zB.rfl'
 ·rw[trues] at hD'
  refine⟨D,_,rfl,SqL.of hD',?_⟩
  rw[xD]
  exact q _ s1
abbrev ZE:Stmt:=top 13
theorem Wt:zv ["thing"] ["thing"] (zg ZE):=⟨rfl,rfl,rfl,by decide +kernel,rfl,by decide +kernel,by decide +kernel⟩
theorem Wu {P:Program} {w:World} {K:PySem.W.Frag} {mg:Str->Option Value} {base:Heap} {f:Addr} {fd:FuncData} (F:Fun K "is_letter" "is_letter" ZE f fd) (gb:Gb mg) {c:Nat->Addr} (cl:Cl K mg c) (d_has_small_letters_alone:Def P w K mg base 1 "has_small_letters_alone" ["text"] W7):jj P w K mg base CX0 2 f fd ["thing"] W8:=by
 refine F.ok Wt (fun vs H Q E h=>?_) (fun cdv A outer s H vs Q E hr h=>?_)
 ·obtain⟨v,s,rfl,_⟩:=h
  rfl
 obtain⟨v,s,rfl,ih,hl,q⟩:=h
 refine⟨_,(@zi _ _ _ (@zA _ _ _ _ (@wz _ _ _ _ _ _ _ (@zo _ _ _ _ _ _ _ _ _ (@Jx _ K rfl) rfl gb.isinstance zw (@za _ _ _ _ _ (@pw _ 0 _ _ rfl rfl) (@za _ _ _ _ _ (@WK _ _ (.ty "str") _ _ rfl gb.str bt_str rfl (by decide) (by decide)) (@zb _) rfl) rfl) (by decide) (by decide) rfl rfl) (@wz _ _ _ _ _ _ _ (@jX _ _ _ _ _ _ _ _ (@Zj _) (@zo _ _ _ _ _ _ _ _ _ (@zN _ K rfl) rfl gb.len qM (@za _ _ _ _ _ (@pw _ 0 _ _ rfl rfl) (@zb _) rfl) (by decide) (by decide) rfl rfl) (@zf _ _ _ _) (@zH _ _ (by decide) (by decide))) (@YV _ _ _ _ _ (@zm _ _ _ _ _ _ _ _ _ _ _ d_has_small_letters_alone hr (by omega) rfl (@za _ _ _ _ _ (@pw _ 0 _ _ rfl rfl) (@zb _) rfl) (by decide) rfl rfl)))))),?_⟩
 refine⟨_,rfl,?_⟩
 cases hs:s.isL with
 | true=>
  obtain rfl:=ih.letter hs
  obtain⟨l1,sm⟩:=hl hs
  refine⟨_,_,_,true,rfl,.str _,JW "str",true,rfl,YN ?_⟩
  refine⟨_,rfl,_,s.nm.length,rfl,⟨zj (by omega),rfl⟩,rfl,true,?_,YN ?_⟩
  ·rw[l1]
   rfl
  ·exact⟨_,rfl,s.nm,rfl,sm,by omega,fun H' s1=>by have q2:=q H' s1;rw[hs] at q2;exact q2⟩
 | false=>
  obtain⟨t,us,rfl,ht,_⟩:=ih.node hs
  exact⟨_,_,_,false,rfl,.tup ht,xE (K:=K) (.tup []),false,rfl,wv (by have q2:=q H (zB.refl H);rw[hs] at q2;exact q2)⟩
abbrev jf:Stmt:=top 17
theorem qp:zv ["S", "parts", "waiting", "part"] ["S"] (zg jf):=⟨rfl,rfl,rfl,by decide +kernel,rfl,by decide +kernel,by decide +kernel⟩
theorem Qt {P:Program} {w:World} {K:PySem.W.Frag} {mg:Str->Option Value} {base:Heap} {f:Addr} {fd:FuncData} (F:Fun K "written_parts" "written_parts" jf f fd) (gb:Gb mg) {c:Nat->Addr} (cl:Cl K mg c) (d_is_letter:Def P w K mg base 2 "is_letter" ["thing"] W8):jj P w K mg base CX0 3 f fd ["S"] Wo:=by
 refine F.ok qp (fun vs H Q E h=>?_) (fun cdv A outer s H vs Q E hr h=>?_)
 ·obtain⟨v,s,rfl,_⟩:=h
  rfl
 obtain⟨v,s,rfl,ih,gs,h63,q⟩:=h
 refine⟨_,(@ze _ _ _ _ _ (@zt _ _ 1 _ _ _ _ qp.nd rfl (Or.inl rfl) (@zK _ _ _ _ (@zb _)) rfl (by walk_at "f")) (@ze _ _ _ _ _ (@zt _ _ 2 _ _ _ _ qp.nd rfl (Or.inl rfl) (@zK _ _ _ _ (@za _ _ _ _ _ (@pw _ 0 _ _ rfl rfl) (@zb _) rfl)) rfl (by walk_at "f")) (@ze _ _ _ _ _ (@ps_while _ _ _ _ _ _ BJ (@zx _ _ _ _ _ _ _ _ (@op_gt _) (@zo _ _ _ _ _ _ _ _ _ (@zN _ K rfl) rfl gb.len qM (@za _ _ _ _ _ (@pw _ 2 _ _ rfl rfl) (@zb _) rfl) (by decide) (by decide) rfl rfl) (@zf _ _ _ _) (@zH _ _ (by decide) (by decide))) (@ze _ _ _ _ _ (@zt _ _ 3 _ _ _ _ qp.nd rfl (Or.inl rfl) (@kpe_bm0 _ K _ _ _ _ _ _ _ _ A6 PySem.F.slot_list_pop PySem.F.type_list_pop (@mt_pop _) (@pw _ 2 _ _ rfl rfl) rfl rfl rfl) rfl (by walk_at "f")) (@ze _ _ _ _ _ (@qY _ _ _ _ (@ZP _ K _ _ _ _ _ _ _ _ _ _ _ A6 B0 Bz (@jw _) (@pw _ 1 _ _ rfl rfl) (@za _ _ _ _ _ (@pw _ 3 _ _ rfl rfl) (@zb _) rfl) rfl rfl rfl rfl rfl rfl) rfl) (@zi _ _ _ (@qZ _ _ _ _ _ _ _ _ (@QG _ _ _ _ (@jW _ _ _ (@zm _ _ _ _ _ _ _ _ _ _ _ d_is_letter hr (by omega) rfl (@za _ _ _ _ _ (@pw _ 3 _ _ rfl rfl) (@zb _) rfl) (by decide) rfl rfl) (by intro _;rfl))) (@zi _ _ _ (@qY _ _ _ _ (@ZP _ K _ _ _ _ _ _ _ _ _ _ _ A6 C2 C0 (@QI _) (@pw _ 2 _ _ rfl rfl) (@za _ _ _ _ _ (@Yl _ K _ _ _ _ _ _ rfl gb.list rfl gb.reversed (@za _ _ _ _ _ (@qx _ _ _ _ _ _ _ _ _ _ (@kslT _ K rfl) (@pw _ 3 _ _ rfl rfl) (@jc _ _ _ (@zf _ _ _ _)) (@jb _)) (@zb _) rfl) rfl rfl rfl rfl) (@zb _) rfl) rfl rfl rfl rfl rfl rfl) rfl)) (@zM _)))))) (@zi _ _ _ (@zA _ _ _ _ (@pw _ 1 _ _ rfl rfl)))))),?_⟩
 refine⟨zj (by show 0<=1000;decide),fun pa hpa=>?_⟩
 have n1:=zd hpa (.lst [])
 refine⟨_,rfl,zj (by show 1<=1000;decide),fun wa hwa=>?_⟩
 have n2:=zd hwa (.lst [v])
 have pw:pa ≠ wa:=zr zc hwa
 refine⟨fun m σ H'=>(∃ x3,σ=[some v,some (.ref pa),some (.ref wa),x3])/\zB H H'/\∃ ps ws:List (V×Sy),H' pa=some (.lst (ps.map Prod.fst))/\H' wa=some (.lst (ws.map Prod.fst))/\SyS H ps/\SyS H ws/\ps.map Prod.snd++(ws.reverse.flatMap fun z=>z.2.sub)=s.sub/\(ws.map fun z=>z.2.sz).sum=m/\ps.length+m<=63/\ws.length<=m,⟨s.sz,⟨_,rfl⟩,n1.trans n2,[],[(v,s)],n2 _ _ zc,zc,(fun z hz=>by cases hz),(fun z hz=>by rw[AF.mp hz];exact⟨gs,ih⟩),by simp,by simp,by simpa using h63,by have:=Sy.sz_ps s;simp;omega⟩,?_⟩
 rintro m σ H1 ⟨⟨x3,rfl⟩,s1,ps,ws,hp,hw,gp,gw,hsub,hm,h6,hwl⟩
 refine⟨_,rfl,_,_,rfl,.inl ⟨_,SqL.of hw,rfl⟩,_,_,rfl,rfl,_,rfl,?_⟩
 rw[AC]
 rcases List.eq_nil_or_concat ws with rfl | ⟨ws,z,rfl⟩
 ·refine iteDF rfl ?_
  have e:ps.map Prod.snd=s.sub:=by simpa using hsub
  have hP:=(gp.same s1).paired
  rw[e] at hP
  exact⟨_,rfl,q pa _ H1 s1 hp hP⟩
 rw[List.concat_eq_append] at *
 have zl:0 < z.2.sz:=by have:=Sy.sz_ps z.2;omega
 refine iteDT (BV (by rw[AI];show (0:Int) < ((ws.length+1:Nat):Int);omega)) ?_
 rw[AM,List.sum_append] at hm
 simp only[List.map_cons,List.map_nil,List.sum_cons,List.sum_nil,Nat.add_zero] at hm
 have hwl:ws.length+1<=m:=by simpa using hwl
 rw[List.reverse_append,List.reverse_singleton,List.singleton_append,Cw,Sy.sub_ps z.2] at hsub
 refine⟨fun σ' H'=>(∃ x3,σ'=[some v,some (.ref pa),some (.ref wa),x3])/\zB H H'/\∃ ps ws:List (V×Sy),H' pa=some (.lst (ps.map Prod.fst))/\H' wa=some (.lst (ws.map Prod.fst))/\SyS H ps/\SyS H ws/\ps.map Prod.snd++(ws.reverse.flatMap fun z=>z.2.sub)=s.sub/\(ws.map fun z=>z.2.sz).sum=m - 1/\ps.length+(m - 1)<=63/\ws.length<=m - 1,fun σ' H' h=>⟨m - 1,by omega,h⟩,?_⟩
 obtain⟨gz,iz⟩:=gw z (by simp)
 have gw':SyS H ws:=fun y hy=>gw y (A1 _ hy)
 refine⟨_,rfl,.inl ⟨rfl,_,SqL.of hw⟩,wa,_,z.1,rfl,rfl,hw,by simp,?_⟩
 rw[show (List.map Prod.fst (ws++[z])).dropLast=ws.map Prod.fst by rw[AM];simp]
 have hp2:(upd H1 wa (.lst (ws.map Prod.fst))) pa=some (.lst (ps.map Prod.fst)):=by rw[zk pw];exact hp
 have s2:zB H (upd H1 wa (.lst (ws.map Prod.fst))):=s1.put (n1.free hwa)
 refine⟨_,rfl,.inl ⟨rfl,_,SqL.of hp2⟩,_,rfl,pa,_,_,rfl,rfl,hp2,by rw[AC];exact zq (by omega),?_⟩
 have s3:zB H (upd (upd H1 wa (.lst (ws.map Prod.fst))) pa (.lst (ps.map Prod.fst++[z.1]))):=s2.put hpa
 have hp3:(upd (upd H1 wa (.lst (ws.map Prod.fst))) pa (.lst (ps.map Prod.fst++[z.1]))) pa=some (.lst ((ps++[z]).map Prod.fst)):=by rw[zc,AM];rfl
 have hw3:(upd (upd H1 wa (.lst (ws.map Prod.fst))) pa (.lst (ps.map Prod.fst++[z.1]))) wa=some (.lst (ws.map Prod.fst)):=by rw[zk (Am pw)];exact zc
 generalize upd (upd H1 wa (.lst (ws.map Prod.fst))) pa (.lst (ps.map Prod.fst++[z.1]))=H3 at *
 have gp':SyS H (ps++[z]):=fun y hy=>by
  rcases Aa.mp hy with h | h
  ·exact gp y h
  ·rw[AF.mp h]
   exact⟨gz,iz⟩
 refine⟨_,rfl,z.1,z.2,rfl,iz.same s3,gz.isl,fun H4 s4=>⟨_,rfl,?_⟩⟩
 cases hz:z.2.isL with
 | true=>
  have zp:z.2.ps=[]/\z.2.sz=1:=by
   cases hz':z.2 with
   | ltr x=>exact⟨rfl,rfl⟩
   | _=>rw[hz'] at hz;cases hz
  rw[zp.1] at hsub
  refine wv ⟨⟨_,rfl⟩,s3.trans s4,ps++[z],ws,s4 _ _ hp3,s4 _ _ hw3,gp',gw',?_,?_,?_,?_⟩
  ·rw[<- hsub]
   simp
  ·have:=zp.2
   omega
  ·rw[AI]
   show ps.length+1+(m - 1)<=63
   omega
  ·have:=zp.2
   omega
 | false=>
  refine YN ?_
  obtain⟨t,us,ev,ht,hP⟩:=iz.node hz
  have hul:=Aw hP
  have a2:=Sy.ps_le z.2
  have ht4:=(s3.trans s4) _ _ ht
  refine⟨_,rfl,.inl ⟨rfl,_,SqL.of (s4 _ _ hw3)⟩,_,by rw[ev];rfl,_,rfl,?_⟩
  refine Wn ht4 fun t5 H5 s5 ht5=>?_
  rw[Q4 (by simp)] at ht5
  refine⟨t5,us,rfl,SqT.of ht5,by omega,fun l6 hl6=>?_⟩
  have n6:=zd hl6 (.lst us.reverse)
  have s6:=s4.trans (s5.trans n6)
  obtain⟨y1,y2,y3⟩:=YD hP fun a ha=>gz.part ha
  have hw6:=s6 _ _ hw3
  refine⟨wa,l6,_,_,rfl,rfl,hw6,zc,by rw[AC,CM];exact zj (by omega),⟨⟨_,rfl⟩,(s3.trans s6).put (n1.free hwa),ps++[z],ws++(us.zip z.2.ps).reverse,?_,?_,gp',fun y hy=>?_,?_,?_,?_,?_⟩⟩
  ·rw[zk pw]
   exact s6 _ _ hp3
  ·rw[zc,AM,List.map_reverse,y2]
  ·rcases Aa.mp hy with h | h
   ·exact gw' y h
   ·exact y1 y (List.mem_reverse.mp h)
  ·rw[<- hsub,List.reverse_append,List.reverse_reverse,Cf,AM]
   have e1:((us.zip z.2.ps).flatMap fun z=>z.2.sub)=z.2.ps.flatMap Sy.sub:=by
    rw[<- y3,List.flatMap_map]
    rw[y3]
   rw[e1]
   simp
  ·have e1:((us.zip z.2.ps).map fun z=>z.2.sz)=z.2.ps.map Sy.sz:=by
    rw[<- y3,A2]
    rw[y3]
    rfl
   rw[AM,List.sum_append,List.map_reverse,List.sum_reverse,e1]
   have:=Sy.sz_ps z.2
   omega
  ·rw[AI]
   show ps.length+1+(m - 1)<=63
   omega
  ·have e1:(us.zip z.2.ps).length=z.2.ps.length:=by rw[<- AC (f:=Prod.snd),y3]
   have e2:z.2.ps.length<=(z.2.ps.map Sy.sz).sum:=XF _ fun y=>by have:=Sy.sz_ps y;omega
   have e3:ws.length<=(ws.map fun (z:V×Sy)=>z.2.sz).sum:=XF _ fun y=>by have:=Sy.sz_ps y.2;omega
   have:=Sy.sz_ps z.2
   rw[AI,CM,e1]
   omega
abbrev qq:Stmt:=top 16
theorem qH:zv ["sayings", "letters", "saying"] ["sayings"] (zg qq):=⟨rfl,rfl,rfl,by decide +kernel,rfl,by decide +kernel,by decide +kernel⟩
theorem Qd {P:Program} {w:World} {K:PySem.W.Frag} {mg:Str->Option Value} {base:Heap} {f:Addr} {fd:FuncData} (F:Fun K "letters_of_all" "letters_of_all" qq f fd) (gb:Gb mg) {c:Nat->Addr} (cl:Cl K mg c) (d_written_parts:Def P w K mg base 3 "written_parts" ["S"] Wo) (d_is_letter:Def P w K mg base 2 "is_letter" ["thing"] W8):jj P w K mg base CX0 4 f fd ["sayings"] QE:=by
 refine F.ok qH (fun vs H Q E h=>?_) (fun cdv A outer s H vs Q E hr h=>?_)
 ·obtain⟨l,ps,L0,rfl,_⟩:=h
  rfl
 obtain⟨l,ps,L0,rfl,hl,sy,h15,hz,h60,q⟩:=h
 have nd0:(["part"]:List Str).Nodup:=by decide +kernel
 refine⟨_,(@ze _ _ _ _ _ (@zt _ _ 1 _ _ _ _ qH.nd rfl (Or.inl rfl) (@zK _ _ _ _ (@zb _)) rfl (by walk_at "f")) (@ze _ _ _ _ _ (@jv _ _ _ _ _ _ _ _ BJ rfl (@zP _ K _ _ _ (@pw _ 0 _ _ rfl rfl) rfl) (@pgl _ 2 _ _ qH.nd rfl rfl) (@zi _ _ _ (@qY _ _ _ _ (@ZP _ K _ _ _ _ _ _ _ _ _ _ _ A6 C2 C0 (@QI _) (@pw _ 1 _ _ rfl rfl) (@za _ _ _ _ _ (@zY _ ["part"] [none] _ _ _ _ _ _ _ _ _ _ (by exact (show zF ["sayings", "letters", "saying"] (zg qq) ["part"] [none] _ from⟨rfl,by decide +kernel,by decide +kernel,by decide +kernel,by decide +kernel,rfl,by decide +kernel⟩)) rfl (@zP _ K _ _ _ (@zm _ _ _ _ _ _ _ _ _ _ _ d_written_parts hr (by omega) rfl (@za _ _ _ _ _ (@pw _ 2 _ _ rfl rfl) (@zb _) rfl) (by decide) rfl rfl) rfl) (fun _ _ _ _=>(@pgl _ 0 _ _ nd0 rfl rfl)) (fun _ _ _ _=>(@Ju _ _ _ (@jW _ _ _ (@zm _ _ _ _ _ _ _ _ _ _ _ d_is_letter hr (by omega) rfl (@za _ _ _ _ _ (@pw _ 0 _ _ rfl rfl) (@zb _) rfl) (by decide) rfl rfl) (by intro _;rfl)))) (fun _ _ _ _=>(@pw _ 0 _ _ rfl rfl)) (by intro _;rfl)) (@zb _) rfl) rfl rfl rfl rfl rfl rfl) rfl)) (by intro _;rfl)) (@zi _ _ _ (@zA _ _ _ _ (@zo _ _ _ _ _ _ _ _ _ (@wc _ rfl) rfl gb.sorted wS (@za _ _ _ _ _ (@zE _ _ _ _ _ _ _ _ _ (@Yw _ K rfl rfl) rfl gb.set bt_set (@za _ _ _ _ _ (@pw _ 1 _ _ rfl rfl) (@zb _) rfl) (by decide) (by decide) rfl rfl) (@zb _) rfl) (by decide) (by decide) rfl rfl))))),?_⟩
 refine⟨zj (by show 0<=1000;decide),fun la hla=>?_⟩
 have n0:=zd hla (.lst [])
 refine⟨_,rfl,l,rfl,⟨_,SqL.of (n0 _ _ hl)⟩,?_⟩
 refine jm (xs:=ps.map Prod.fst) (fun i σ H'=>(∃ x2,σ=[some (.ref l),some (.ref la),x2])/\zB H H'/\H' la=some (.lst (((ps.take i).flatMap fun z=>z.2.lets).map V.str))) ⟨⟨_,rfl⟩,n0,zc⟩ (fun i σ H' _ h=>SqL.of (h.2.1 _ _ hl)) ?_ ?_
 ·rintro i x σ H1 hx ⟨⟨x2,rfl⟩,s1,hy⟩
  rw[AW] at hx
  obtain⟨z,hzi,rfl⟩:=Ac.mp hx
  have hzm:=AV hzi
  obtain⟨lz,iz⟩:=sy z hzm
  obtain⟨z63,_⟩:=hz z hzm
  have hb:=Q7 (ps.take i) fun y hy=>(hz y (Bx hy)).1
  have hzl:=(AE.mp hzi).1
  rw[AZ] at hb
  refine⟨_,rfl,.inl ⟨rfl,_,SqL.of hy⟩,?_⟩
  refine⟨_,rfl,z.1,z.2,rfl,iz.same s1,lz,z63,fun pa us H2 s2 hpa hP=>?_⟩
  have hul:=Aw hP
  have hsl:=Sy.sub_len z.2
  refine⟨pa,rfl,⟨_,SqL.of hpa⟩,fun D hD=>?_⟩
  refine jy (xs:=us) (fun j ys H'=>zB H2 H'/\ys=(ltrs (z.2.sub.take j)).map V.str) ⟨zd hD _,rfl⟩ (fun j ys H' h _=>SqL.of (h.1 _ _ hpa)) ?_ ?_
  ·rintro j ys H3 u hu ⟨s3,rfl⟩ hD3
   have hj:=(AE.mp hu).1
   have hw:z.2.sub[j]? = some z.2.sub[j]:=AK (by omega)
   have hwm:=Bc (l:=z.2.sub) (n:=j) (by omega)
   generalize z.2.sub[j]=w' at hw hwm
   have iw:=Paired.at hP j _ _ hw hu
   have hlt:(ltrs (z.2.sub.take j)).length<=63:=by
    refine Ag (List.length_filterMap_le _ _) ?_
    rw[AZ]
    omega
   refine⟨_,rfl,u,w',rfl,iw.same s3,(lz.sub hwm).isl,fun H4 s4=>⟨_,rfl,?_⟩⟩
   cases hl':w'.isL with
   | true=>
    refine YN ⟨_,rfl,Jf hj qS (s4 _ _ hD3) (by rw[AC];exact zq (by omega)) ⟨(s3.trans s4).put hD,?_⟩⟩
    rw[take_snoc hw,wf,AM,iw.letter hl']
    congr 1
    unfold ltrs
    rw[CN,hl']
    rfl
   | false=>
    refine wv (cno hj qS (s4 _ _ hD3) ⟨s3.trans s4,?_⟩)
    rw[take_snoc hw,wf]
    have e:ltrs [w']=[]:=by
     unfold ltrs
     rw[CN,hl']
     rfl
    rw[e,BY]
  ·rintro ys H3 ⟨s3,rfl⟩ hD3
   rw[<- hul,Aq,QC] at hD3
   have hy3:=s3 _ _ (s2 _ _ hy)
   refine⟨la,D,_,_,rfl,rfl,hy3,hD3,?_,⟨⟨_,rfl⟩,(s1.trans (s2.trans s3)).put hla,?_⟩⟩
   ·have:=Q6 z.2
    rw[AC,AC]
    exact B8 (zq (by omega))
   ·rw[zc,take_snoc hzi,Cf,AM]
    simp only[List.flatMap_cons,List.flatMap_nil,List.append_nil]
 ·rintro σ H1 ⟨⟨x2,rfl⟩,s1,hy⟩
  rw[AC,Aq] at hy
  have hb:=Q7 ps fun y hy=>(hz y hy).1
  refine⟨_,rfl,la,_,rfl,SqL.of hy,by omega,fun sa hsa=>?_⟩
  have hm:∀ x,x ∈ Jg (ps.flatMap fun z=>z.2.lets) ↔ ∃ z ∈ ps,x ∈ z.2.lets:=fun x=>by
   rw[mem_dedK,Dw]
  refine⟨sa,_,rfl,zc,WZ _,?_,fun k ss hk pm so=>q k ss _ (s1.trans ((zd hsa _).trans (zd hk _))) zc (pm.nodup_iff.mpr (WZ _)) (fun x=>by rw[pm.mem_iff,hm]) so⟩
  have:=j6 _ L0 (WZ (ps.flatMap fun z=>z.2.lets)) fun x hx=>by
   obtain⟨z,hzm,hzx⟩:=(hm x).mp hx
   exact (hz z hzm).2 x hzx
  omega
abbrev jJ:Stmt:=top 19
theorem Zr:zv ["by_letter", "letter", "given", "longer"] ["by_letter", "letter", "given"] (zg jJ):=⟨rfl,rfl,rfl,by decide +kernel,rfl,by decide +kernel,by decide +kernel⟩
theorem Jn {P:Program} {w:World} {K:PySem.W.Frag} {mg:Str->Option Value} {base:Heap} {f:Addr} {fd:FuncData} (F:Fun K "with_letter" "with_letter" jJ f fd) (gb:Gb mg) {c:Nat->Addr} (cl:Cl K mg c):jj P w K mg base CX0 1 f fd ["by_letter", "letter", "given"] W9:=by
 refine F.ok Zr (fun vs H Q E h=>?_) (fun cdv A outer s H vs Q E hr h=>?_)
 ·obtain⟨g,u,x,o,ls,rfl,_⟩:=h
  rfl
 obtain⟨g,u,x,o,ls,rfl,hg,h60,hx,hu,q⟩:=h
 refine⟨_,(@ze _ _ _ _ _ (@zt _ _ 3 _ _ _ _ Zr.nd rfl (Or.inl rfl) (@zE _ _ _ _ _ _ _ _ _ (@Yg _) rfl gb.dict WQ (@za _ _ _ _ _ (@pw _ 0 _ _ rfl rfl) (@zb _) rfl) (by decide) (by decide) rfl rfl) rfl (by walk_at "f")) (@ze _ _ _ _ _ (@ps_kput _ _ _ _ _ _ _ _ _ _ hr (@pw _ 3 _ _ rfl rfl) (@pw _ 1 _ _ rfl rfl) (@pw _ 2 _ _ rfl rfl) rfl) (@zi _ _ _ (@zA _ _ _ _ (@pw _ 3 _ _ rfl rfl))))),?_⟩
 obtain⟨kvs,hk,hP⟩:=hg
 have hkl:=Aw hP
 refine⟨_,rfl,g,kvs,rfl,hk,fun p hp=>?_⟩
 have n1:=zd hp (.dK kvs)
 refine⟨_,rfl,_,rfl,_,rfl,p,kvs,Sum.inr x,rfl,rfl,zc,zq (by omega),_,rfl,q p _ (n1.put hp) ⟨_,zc,?_⟩⟩
 rw[sets_put hP hx]
 obtain⟨kvs0,ek⟩:∃ z,z=kvs:=⟨_,rfl⟩
 rw[<- ek] at n1 hP ⊢
 have key:∀ {ls:List (Str×Nat)} {kvs:List (Key×V)},Paired (fun (p:Str×Nat) (kv:Key×V)=>kv.1=Sum.inr p.1/\∃ u,kv.2=.ref u/\H u=some (.tup [nV p.2])) ls kvs->Paired (fun (p':Str×Nat) (kv:Key×V)=>kv.1=Sum.inr p'.1/\∃ b,kv.2=.ref b/\(upd (upd H p (.dK kvs0)) p (.dK (kvs0++[(Sum.inr x,.ref u)]))) b=some (.tup [nV p'.2])) (ls++[(x,o)]) (kvs++[(Sum.inr x,.ref u)]):=fun h=>by
  induction h with
  | nil=>exact .cons ⟨rfl,u,rfl,(n1.put hp) _ _ hu⟩ .nil
  | cons z _ ih=>
   obtain⟨e1,a,e2,e3⟩:=z
   exact .cons ⟨e1,a,e2,(n1.put hp) _ _ e3⟩ ih
 exact key hP
abbrev qz:Stmt:=top 20
theorem Qu:zv ["H"] ["H"] (zg qz):=⟨rfl,rfl,rfl,by decide +kernel,rfl,by decide +kernel,by decide +kernel⟩
theorem Qv {P:Program} {w:World} {K:PySem.W.Frag} {mg:Str->Option Value} {base:Heap} {f:Addr} {fd:FuncData} (F:Fun K "cells_by_name" "cells_by_name" qz f fd) (gb:Gb mg) {c:Nat->Addr} (cl:Cl K mg c):jj P w K mg base CX0 1 f fd ["H"] spCbn:=by
 refine F.ok Qu (fun vs H Q E h=>?_) (fun cdv A outer s H vs Q E hr h=>?_)
 ·obtain⟨v,T,rfl,_⟩:=h
  rfl
 obtain⟨v,T,rfl,ia,gT,nT,q⟩:=h
 have nd0:(["name", "places", "cells"]:List Str).Nodup:=by decide +kernel
 refine⟨_,(@zi _ _ _ (@zA _ _ _ _ (@Wa _ _ hr _ _ _ _ rfl gb.dict (@za _ _ _ _ _ (@zY _ ["name", "places", "cells"] [none,none,none] _ _ _ _ _ _ _ _ _ _ (by exact (show zF ["H"] (zg qz) ["name", "places", "cells"] [none,none,none] _ from⟨rfl,by decide +kernel,by decide +kernel,by decide +kernel,by decide +kernel,rfl,by decide +kernel⟩)) rfl (@Zx _ K _ _ _ (@zu _ _ _ _ _ _ _ (@zh _ K rfl) (@pw _ 0 _ _ rfl rfl) (@zf _ _ _ _) (fun _ _=>rfl)) rfl) (fun _ _ _ _=>(@Zy _ K _ _ _ _ 3 rfl (@zO _ _ _ _ _ (@pgl _ 0 _ _ nd0 rfl rfl) (@zO _ _ _ _ _ (@pgl _ 1 _ _ nd0 rfl rfl) (@zO _ _ _ _ _ (@pgl _ 2 _ _ nd0 rfl rfl) (@Zt _) rfl) rfl) rfl) rfl rfl rfl)) (fun _ _ _ _=>(@qC _)) (fun _ _ _ _=>(@zI _ _ _ _ _ (@za _ _ _ _ _ (@zI _ _ _ _ _ (@za _ _ _ _ _ (@pw _ 0 _ _ rfl rfl) (@za _ _ _ _ _ (@pw _ 1 _ _ rfl rfl) (@zb _) rfl) rfl)) (@za _ _ _ _ _ (@pw _ 2 _ _ rfl rfl) (@zb _) rfl) rfl))) (by intro _;rfl)) (@zb _) rfl) rfl rfl))),?_⟩
 obtain⟨a,w0,c,vs,rfl,h1,h2,h3,h4⟩:=id ia
 have gcl:=gT.cl
 have gx:∀ i,∃ t u:Addr,i < T.cs.length->vs[i]? = some (.ref t)/\H t=some (.tup [.str (T.cs.getD i d0).nm,nV (T.cs.getD i d0).pl,.ref u])/\H u=some (.tup ((T.cs.getD i d0).cs.map nV)):=fun i=>by
  by_cases hi:i < T.cs.length
  ·have hc:T.cs[i]? = some (T.cs.getD i d0):=by simp[List.getD,hi]
   obtain⟨t,u,h⟩:=h4.get hc
   exact⟨t,u,fun _=>h⟩
  ·exact⟨0,0,fun h=>absurd h hi⟩
 obtain⟨ad,gx⟩:=CS gx
 obtain⟨au,gx⟩:=CS gx
 have ge:∀ i,i < T.cs.length->T.cs[i]? = some (T.cs.getD i d0):=fun i hi=>by simp[List.getD,hi]
 refine⟨_,rfl,.inr (.inl ⟨a,_,2,_,rfl,rfl,SqT.of h1,rfl,c,rfl,⟨_,SqT.of h3⟩,fun D hD=>?_⟩)⟩
 refine wT (n:=T.cs.length) (ad:=ad) (v1:=fun i=>.str (T.cs.getD i d0).nm) (v2:=fun i=>nV (T.cs.getD i d0).pl) (v3:=fun i=>.ref (au i)) (more:=[]) (fun i ys H'=>zB H H'/\ys.length=i/\J5 H' ys (Xn T au i)) ⟨zd hD _,rfl,.nil⟩ h4.len.symm (fun i hi=>(gx i hi).1) (fun i ys H' h _=>SqT.of (h.1 _ _ h3)) (fun i ys H' hi h=>SqT.of (h.1 _ _ (gx i hi).2.1)) ?_ ?_
 ·rintro i ys H1 hi ⟨s1,yl,hP⟩ hD1
  refine yes ⟨_,rfl,_,rfl,zj (by show 2<=1000;decide),fun t1 ht1=>?_⟩
  have n1:=zd ht1 (.tup [.str (T.cs.getD i d0).nm,nV (T.cs.getD i d0).pl])
  refine⟨_,rfl,zj (by show 2<=1000;decide),fun t2 ht2=>?_⟩
  have n2:=zd ht2 (.tup [.ref t1,.ref (au i)])
  have hD2:=n2 _ _ (n1 _ _ hD1)
  refine Jf hi ⟨_,_,_,rfl⟩ hD2 (zq (by omega)) ⟨(s1.trans (n1.trans n2)).put hD,by rw[AI,yl];rfl,?_⟩
  rw[Xo]
  exact J5.snoc (p:=(we (T.cs.getD i d0),.ref (au i))) (J5.tk (Tk.put hD2) (J5.tk (Tk.of (n1.trans n2)) hP)) (Tk.put hD2 _ _ zc) (Tk.put hD2 _ _ (n2 _ _ zc))
 ·rintro ys H1 ⟨s1,yl,hP⟩ hD1
  refine⟨D,ys,_,rfl,hD1,hP,fun e he=>q e _ (s1.trans (zd he _)) ⟨_,zc,fun cc hcc=>?_⟩⟩
  obtain⟨i,hi⟩:=BM.mp hcc
  have hil:=(AE.mp hi).1
  have en:T.cs.getD i d0=cc:=by
   have:=ge i hil
   rw[hi] at this
   exact (AL this).symm
  refine⟨au i,?_,?_⟩
  ·rw[<- en]
   exact WX (Xn T au T.cs.length) [] (we (T.cs.getD i d0),.ref (au i)) (ct_nd nT) (AS.mpr ⟨i,BN.mpr hil,rfl⟩)
  ·rw[<- en]
   exact (s1.trans (zd he _)) _ _ (gx i hil).2.2
abbrev jK:Stmt:=top 21
theorem Zs:zv ["shapes", "parts", "part"] ["shapes", "parts"] (zg jK):=⟨rfl,rfl,rfl,by decide +kernel,rfl,by decide +kernel,by decide +kernel⟩
theorem Jo {P:Program} {w:World} {K:PySem.W.Frag} {mg:Str->Option Value} {base:Heap} {f:Addr} {fd:FuncData} (F:Fun K "check_names" "check_names" jK f fd) (gb:Gb mg) {c:Nat->Addr} (cl:Cl K mg c) (d_is_letter:Def P w K mg base 2 "is_letter" ["thing"] W8):jj P w K mg base CX0 3 f fd ["shapes", "parts"] XJ:=by
 refine F.ok Zs (fun vs H Q E h=>?_) (fun cdv A outer s H vs Q E hr h=>?_)
 ·obtain⟨e',l,us,ss,T,L,rfl,_⟩:=h
  rfl
 obtain⟨e',l,us,ss,T,L,rfl,hcd,hl,hP,gS,hL,q⟩:=h
 refine⟨_,(@zi _ _ _ (@jv _ _ _ _ _ _ _ _ BJ rfl (@zP _ K _ _ _ (@pw _ 1 _ _ rfl rfl) rfl) (@pgl _ 2 _ _ Zs.nd rfl rfl) (@zi _ _ _ (@qZ _ _ _ _ _ _ _ _ (@PW.pt _ _ _ (@Zl _ _ _ _ _ _ _ (@QG _ _ _ _ (@jW _ _ _ (@zm _ _ _ _ _ _ _ _ _ _ _ d_is_letter hr (by omega) rfl (@za _ _ _ _ _ (@pw _ 2 _ _ rfl rfl) (@zb _) rfl) (by decide) rfl rfl) (by intro _;rfl))) (@jD _ _ _ _ (@zx _ _ _ _ _ _ _ _ (@Wb _ _ hr) (@zI _ _ _ _ _ (@za _ _ _ _ _ (@zu _ _ _ _ _ _ _ (@zh _ K rfl) (@pw _ 2 _ _ rfl rfl) (@zf _ _ _ _) (fun _ _=>rfl)) (@za _ _ _ _ _ (@zC _ _ _ _ _ _ _ _ (@wB _) (@zo _ _ _ _ _ _ _ _ _ (@zN _ K rfl) rfl gb.len qM (@za _ _ _ _ _ (@pw _ 2 _ _ rfl rfl) (@zb _) rfl) (by decide) (by decide) rfl rfl) (@zf _ _ _ _)) (@zb _) rfl) rfl)) (@pw _ 0 _ _ rfl rfl) (by with_unfolding_all rfl))))) (@zi _ _ _ (@ps_never _ _)) (@zM _))) (by intro _;rfl))),?_⟩
 refine⟨_,rfl,l,rfl,⟨_,SqL.of hl⟩,?_⟩
 refine jm (xs:=us) (fun i σ H'=>(∃ x2,σ=[some (.ref e'),some (.ref l),x2])/\zB H H') ⟨⟨_,rfl⟩,zB.refl _⟩ (fun i σ H' _ h=>SqL.of (h.2 _ _ hl)) ?_ (fun σ H' h=>q H' h.2)
 rintro i x σ H1 hx ⟨⟨x2,rfl⟩,s1⟩
 have hlen:=Aw hP
 have hi:=(AE.mp hx).1
 have hsi:ss[i]? = some ss[i]:=AK (by omega)
 generalize ss[i]=z at hsi
 have iz:=Paired.at hP i _ _ hsi hx
 have gz:=gS z (AV hsi)
 refine⟨_,rfl,x,z,rfl,iz.same s1,fun h=>hL _ (gz.letter h),fun H2 s2=>⟨_,rfl,?_⟩⟩
 cases hs:z.isL with
 | true=>exact⟨⟨_,rfl⟩,s1.trans s2⟩
 | false=>
  obtain⟨t,us2,ev,ht,hP2⟩:=iz.node hs
  obtain⟨⟨c,hc,cn,cp⟩,gps⟩:=gz.node hs
  have hul:=Aw hP2
  have ht2:=s2 _ _ (s1 _ _ ht)
  rw[ev]
  obtain⟨kvs,hk,hv⟩:=(hcd.same s1).same s2
  obtain⟨u,e1,e2⟩:=hv c hc
  refine⟨_,rfl,.inr (.inl ⟨t,_,_,_,rfl,rfl,SqT.of ht2,at0,_,rfl,_,_,rfl,.inr ⟨_,SqT.of ht2,rfl⟩,_,_,rfl,rfl,zj (by show 2<=1000;decide),fun t3 ht3=>?_⟩)⟩
  have el:V.int (((.str z.nm :: us2:List V).length:Int) - 1)=.int ((c.pl:Nat):Int):=by
   rw[Ab,<- hul,cp]
   show V.int _=V.int _
   congr 1
   omega
  dsimp only
  rw[el]
  have n3:=zd ht3 (.tup [.str z.nm,.int ((c.pl:Nat):Int)])
  refine⟨_,rfl,e',t3,kvs,we c,rfl,rfl,n3 _ _ hk,?_,?_⟩
  ·rw[zc]
   unfold we
   rw[cn]
   rfl
  rw[e1]
  exact⟨_,rfl,⟨⟨_,rfl⟩,s1.trans (s2.trans n3)⟩⟩
abbrev qV:Stmt:=top 23
theorem js:zv ["places", "many", "grades", "reached", "place"] ["places", "many", "grades"] (zg qV):=⟨rfl,rfl,rfl,by decide +kernel,rfl,by decide +kernel,by decide +kernel⟩
theorem Jp {P:Program} {w:World} {K:PySem.W.Frag} {mg:Str->Option Value} {base:Heap} {f:Addr} {fd:FuncData} (F:Fun K "next_places" "next_places" qV f fd) (gb:Gb mg) {c:Nat->Addr} (cl:Cl K mg c):jj P w K mg base CX0 1 f fd ["places", "many", "grades"] XG:=by
 refine F.ok js (fun vs H Q E h=>?_) (fun cdv A outer s H vs Q E hr h=>?_)
 ·obtain⟨ps,gs,m,P,G,rfl,_⟩:=h
  rfl
 obtain⟨ps,gs,m,P,G,rfl,m9,hp,hg,p9,g9,q⟩:=h
 have nd0:(["one", "place", "many"]:List Str).Nodup:=by decide +kernel
 refine⟨_,(@ze _ _ _ _ _ (@zt _ _ 3 _ _ _ _ js.nd rfl (Or.inl rfl) (@zK _ _ _ _ (@zb _)) rfl (by walk_at "f")) (@ze _ _ _ _ _ (@jv _ _ _ _ _ _ _ _ BJ rfl (@zP _ K _ _ _ (@pw _ 0 _ _ rfl rfl) rfl) (@YW _ _ 4 _ js.nd rfl (Or.inr rfl) (by walk_at "f")) (@zi _ _ _ (@qY _ _ _ _ (@ZP _ K _ _ _ _ _ _ _ _ _ _ _ A6 C2 C0 (@QI _) (@pw _ 3 _ _ rfl rfl) (@za _ _ _ _ _ (@zY _ ["one", "place", "many"] [none,some 4,some 1] _ _ _ _ _ _ _ _ _ _ (by exact (show zF ["places", "many", "grades", "reached", "place"] (zg qV) ["one", "place", "many"] [none,some 4,some 1] _ from⟨rfl,by decide +kernel,by decide +kernel,by decide +kernel,by decide +kernel,rfl,by decide +kernel⟩)) rfl (@zP _ K _ _ _ (@pw _ 2 _ _ rfl rfl) rfl) (fun _ _ _ _=>(@pgl _ 0 _ _ nd0 rfl rfl)) (fun _ _ _ _=>(@qC _)) (fun _ _ _ _=>(@zC _ _ _ _ _ _ _ _ (@ja _) (@zC _ _ _ _ _ _ _ _ (@ZK _) (@pw _ 1 _ _ rfl rfl) (@pw _ 2 _ _ rfl rfl)) (@pw _ 0 _ _ rfl rfl))) (by intro _;rfl)) (@zb _) rfl) rfl rfl rfl rfl rfl rfl) rfl)) (by intro _;rfl)) (@zi _ _ _ (@zA _ _ _ _ (@pw _ 3 _ _ rfl rfl))))),?_⟩
 refine⟨zj (by show 0<=1000;decide),fun rd hrd=>?_⟩
 refine⟨_,rfl,ps,rfl,⟨_,SqL.of (zd hrd _ _ _ hp)⟩,?_⟩
 refine jm (xs:=P.map nV) (fun i σ H'=>(∃ x,σ=[some (.ref ps),some (nV m),some (.ref gs),some (.ref rd),x])/\zB H H'/\H' rd=some (.lst (((P.take i).flatMap fun p=>G.map fun g=>p * m+g).map nV))) ⟨⟨_,rfl⟩,zd hrd _,zc⟩ (fun i σ H' _ h=>SqL.of (h.2.1 _ _ hp)) ?_ ?_
 ·rintro i x σ H1 hx ⟨⟨x',rfl⟩,s1,h1⟩
  rw[AW] at hx
  obtain⟨pp,hpp,rfl⟩:=Ac.mp hx
  refine⟨_,rfl,.inl ⟨rfl,_,SqL.of h1⟩,_,rfl,gs,rfl,⟨_,SqL.of (s1 _ _ hg)⟩,fun D hD=>?_⟩
  have hlen:(((P.take i).flatMap fun p=>G.map fun g=>p * m+g).map nV).length<=81:=by
   rw[AC,Tn.flat_len _ G.length (fun x=>by rw[AC]),AZ]
   exact Ag (Nat.mul_le_mul (show _<=9 by omega) g9) (by decide)
  refine Qy G nV (fun g=>nV (pp * m+g)) (s1 _ _ hg) (by omega) hD (fun z hz H' Q' s2 q'=>?_) (fun H2 s2 hD2=>?_)
  ·have q2:=q' H' zB.rfl'
   rw[show nV (pp * m+z)=V.int ((pp:Int) * (m:Int)+(z:Int)) by show V.int _=_;rw[Int.natCast_add,Int.natCast_mul]] at q2
   exact⟨_,rfl,_,rfl,_,_,rfl,rfl,.inr ⟨by omega,by omega⟩,_,rfl,_,_,rfl,rfl,q2⟩
  ·refine⟨rd,D,_,_,rfl,rfl,s2 _ _ h1,hD2,?_,⟨⟨_,rfl⟩,(s1.trans s2).put hrd,?_⟩⟩
   ·have hG:(G.map fun g=>nV (pp * m+g)).length=G.length:=AC ..
    rw[hG]
    exact zj (by omega)
   ·rw[zc,take_snoc hpp,Cf,AM]
    simp only[List.flatMap_cons,List.flatMap_nil,List.append_nil,List.map_map]
    rfl
 ·rintro σ H1 ⟨⟨x',rfl⟩,s1,h1⟩
  rw[AC,Aq] at h1
  exact⟨_,rfl,q rd _ s1 h1⟩
abbrev qi:Stmt:=top 25
theorem zG:zv ["cells", "many", "S", "sets", "places", "part", "given", "reached"] ["cells", "many", "S", "sets"] (zg qi):=⟨rfl,rfl,rfl,by decide +kernel,rfl,by decide +kernel,by decide +kernel⟩
theorem Z3 {P:Program} {w:World} {K:PySem.W.Frag} {mg:Str->Option Value} {base:Heap} {f:Addr} {fd:FuncData} (F:Fun K "possible_within" "possible_within" qi f fd) (gb:Gb mg) {c:Nat->Addr} (cl:Cl K mg c) (d_is_letter:Def P w K mg base 2 "is_letter" ["thing"] W8) (d_next_places:Def P w K mg base 1 "next_places" ["places", "many", "grades"] XG) (j:Nat) (d_possible_within:Def P w K mg base (6+j) "possible_within" ["cells", "many", "S", "sets"] (yQ j)):jj P w K mg base CX0 (6+j+1) f fd ["cells", "many", "S", "sets"] (yQ (j+1)):=by
 refine F.ok zG (fun vs H Q E h=>?_) (fun cdv A outer s H vs Q E hr h=>?_)
 ·obtain⟨e',g,v,T,L,s,ls,rfl,_⟩:=h
  rfl
 obtain⟨e',g,v,T,L,s,ls,rfl,hc,gT,nT,ih,gs,hL,hg,hlt,hj,q⟩:=h
 have nd0:(["place", "given"]:List Str).Nodup:=by decide +kernel
 refine⟨_,(@ze _ _ _ _ _ (@qZ _ _ _ _ _ _ _ _ (@jW _ _ _ (@zm _ _ _ _ _ _ _ _ _ _ _ d_is_letter hr (by omega) rfl (@za _ _ _ _ _ (@pw _ 2 _ _ rfl rfl) (@zb _) rfl) (by decide) rfl rfl) (by intro _;rfl)) (@zi _ _ _ (@zA _ _ _ _ (@yq _ _ _ _ _ _ _ _ (@zx _ _ _ _ _ _ _ _ (@op_kIn _ _ hr) (@pw _ 2 _ _ rfl rfl) (@pw _ 3 _ _ rfl rfl) (by with_unfolding_all rfl)) (@zE _ _ _ _ _ _ _ _ _ (@qT _ K rfl) rfl gb.list Zw (@za _ _ _ _ _ (@xL _ _ _ _ _ _ (@pw _ 3 _ _ rfl rfl) (@pw _ 2 _ _ rfl rfl) (fun _ _=>rfl)) (@zb _) rfl) (by decide) (by decide) rfl rfl) (@zE _ _ _ _ _ _ _ _ _ (@JB _ rfl) rfl gb.list Zw (@za _ _ _ _ _ (@pe_rng _ _ _ _ _ rfl gb.range (@za _ _ _ _ _ (@pw _ 1 _ _ rfl rfl) (@zb _) rfl) rfl) (@zb _) rfl) (by decide) (by decide) rfl rfl)))) (@zM _)) (@ze _ _ _ _ _ (@zt _ _ 4 _ _ _ _ zG.nd rfl (Or.inl rfl) (@zK _ _ _ _ (@za _ _ _ _ _ (@zf _ _ _ _) (@zb _) rfl)) rfl (by walk_at "f")) (@ze _ _ _ _ _ (@jv _ _ _ _ _ _ _ _ BJ rfl (@Zx _ K _ _ _ (@qx _ _ _ _ _ _ _ _ _ _ (@kslT _ K rfl) (@pw _ 2 _ _ rfl rfl) (@jc _ _ _ (@zf _ _ _ _)) (@jb _)) rfl) (@pgl _ 5 _ _ zG.nd rfl rfl) (@zi _ _ _ (@zt _ _ 4 _ _ _ _ zG.nd rfl (Or.inl rfl) (@zm _ _ _ _ _ _ _ _ _ _ _ d_next_places hr (by omega) rfl (@za _ _ _ _ _ (@pw _ 4 _ _ rfl rfl) (@za _ _ _ _ _ (@pw _ 1 _ _ rfl rfl) (@za _ _ _ _ _ (@zm _ _ _ _ _ _ _ _ _ _ _ d_possible_within hr (by omega) rfl (@za _ _ _ _ _ (@pw _ 0 _ _ rfl rfl) (@za _ _ _ _ _ (@pw _ 1 _ _ rfl rfl) (@za _ _ _ _ _ (@pw _ 5 _ _ rfl rfl) (@za _ _ _ _ _ (@pw _ 3 _ _ rfl rfl) (@zb _) rfl) rfl) rfl) rfl) (by decide) rfl rfl) (@zb _) rfl) rfl) rfl) (by decide) rfl rfl) rfl (by walk_at "f"))) (by intro _;rfl)) (@ze _ _ _ _ _ (@zt _ _ 6 _ _ _ _ zG.nd rfl (Or.inr rfl) (@pe_dget _ _ _ _ _ _ (@hu1 _ _ hr) (@pw _ 0 _ _ rfl rfl) (@zI _ _ _ _ _ (@za _ _ _ _ _ (@zu _ _ _ _ _ _ _ (@zh _ K rfl) (@pw _ 2 _ _ rfl rfl) (@zf _ _ _ _) (fun _ _=>rfl)) (@za _ _ _ _ _ (@zC _ _ _ _ _ _ _ _ (@wB _) (@zo _ _ _ _ _ _ _ _ _ (@zN _ K rfl) rfl gb.len qM (@za _ _ _ _ _ (@pw _ 2 _ _ rfl rfl) (@zb _) rfl) (by decide) (by decide) rfl rfl) (@zf _ _ _ _)) (@zb _) rfl) rfl)) (fun _ _=>rfl)) rfl (by walk_at "f")) (@ze _ _ _ _ _ (@jx _ ["place", "given"] [none,some 6] _ 7 _ _ _ _ _ _ _ _ _ _ _ _ (by exact (show zF ["cells", "many", "S", "sets", "places", "part", "given", "reached"] (zg qi) ["place", "given"] [none,some 6] _ from⟨rfl,by decide +kernel,by decide +kernel,by decide +kernel,by decide +kernel,rfl,by decide +kernel⟩)) rfl (@zP _ K _ _ _ (@pw _ 4 _ _ rfl rfl) rfl) (fun _ _ _ _=>(@pgl _ 0 _ _ nd0 rfl rfl)) (fun _ _ _ _=>(@qC _)) (fun _ _ _ _=>(@zu _ _ _ _ _ _ _ (@zh _ K rfl) (@pw _ 1 _ _ rfl rfl) (@pw _ 0 _ _ rfl rfl) (fun _ _=>rfl))) zG.nd rfl rfl rfl (by intro _;rfl)) (@zi _ _ _ (@zA _ _ _ _ (@yq _ _ _ _ _ _ _ _ (@zx _ _ _ _ _ _ _ _ (@Z7 _ K rfl) (@yp _ _ _) (@pw _ 7 _ _ rfl rfl) (by with_unfolding_all rfl)) (@zE _ _ _ _ _ _ _ _ _ (@JB _ rfl) rfl gb.list Zw (@za _ _ _ _ _ (@pe_rng _ _ _ _ _ rfl gb.range (@za _ _ _ _ _ (@pw _ 1 _ _ rfl rfl) (@zb _) rfl) rfl) (@zb _) rfl) (by decide) (by decide) rfl rfl) (@zo _ _ _ _ _ _ _ _ _ (@J9 _ rfl) rfl gb.sorted wS (@za _ _ _ _ _ (@zE _ _ _ _ _ _ _ _ _ (@Yr _ K rfl rfl) rfl gb.set bt_set (@za _ _ _ _ _ (@pw _ 7 _ _ rfl rfl) (@zb _) rfl) (by decide) (by decide) rfl rfl) (@zb _) rfl) (by decide) (by decide) rfl rfl))))))))),?_⟩
 have m9:=gT.m9
 refine⟨_,rfl,v,s,rfl,ih,fun h=>hL _ (gs.letter h),fun H1 s1=>⟨_,rfl,?_⟩⟩
 cases hs:s.isL with
 | true=>
  have ev:=ih.letter hs
  obtain⟨kvs,hk,hP⟩:=hg.same s1
  have hv:=yL hP s.nm
  refine YN ⟨_,rfl,_,rfl,g,kvs,Sum.inr s.nm,rfl,by rw[ev];rfl,hk,?_⟩
  cases hlk:ls.lookup s.nm with
  | some o=>
   rw[hlk] at hv
   obtain⟨u,e1,e2⟩:=hv
   rw[e1]
   refine⟨_,rfl,YN ⟨_,rfl,_,rfl,g,kvs,Sum.inr s.nm,_,rfl,hk,by rw[ev];rfl,e1,?_⟩⟩
   refine⟨u,_,rfl,.inr (SqT.of e2),fun l hl=>q l [o] _ (s1.trans (zd hl _)) zc (fun y=>?_) (show 1<=9 by decide)⟩
   rw[JN hs,hlk,AF]
  | none=>
   rw[hlk] at hv
   have hv:jz kvs (Sum.inr s.nm)=none:=hv
   rw[hv]
   refine⟨_,rfl,wv ⟨_,rfl,(T.m:Int),rfl,fun p hp=>?_⟩⟩
   refine⟨p,(T.m:Int),rfl,zc,by omega,by omega,fun l hl=>q l (List.range T.m) _ (s1.trans ((zd hp _).trans (zd hl _))) ?_ (fun y=>?_) (by rw[Av];exact m9)⟩
   ·rw[zc,BW]
   ·rw[JN hs,hlk,BN]
 | false=>
  refine wv ?_
  obtain⟨t,us,ev,ht,hP⟩:=ih.node hs
  obtain⟨⟨c,hcm,cn,cp⟩,gps⟩:=gs.node hs
  have hul:=Aw hP
  have a2:=Sy.ps_le s
  have ht1:=s1 _ _ ht
  rw[ev]
  refine⟨zj (by show 1<=1000;decide),fun r0 hr0=>?_⟩
  have n1:=zd hr0 (.lst [.int 0])
  refine⟨_,rfl,_,rfl,?_⟩
  refine Wn (n1 _ _ ht1) fun t2 H2 s2 ht2=>?_
  rw[Q4 (by simp)] at ht2
  refine⟨t2,rfl,⟨_,SqT.of ht2⟩,?_⟩
  have S2:=s1.trans (n1.trans s2)
  refine for_tup (xs:=us) (fun i σ H'=>(∃ (l:Addr) (P:List Nat) (x5:Option V),σ=[some (.ref e'),some (nV T.m),some (.ref t),some (.ref g),some (.ref l),x5,none,none]/\H' l=some (.lst (P.map nV))/\P.length<=9 ^ i/\∀ y,y ∈ P ↔ ∃ r,PosL T ls (s.ps.take i) r/\y=Tn.place T.m r)/\zB H2 H') ⟨⟨r0,[0],_,rfl,s2 _ _ zc,by decide,fun y=>?_⟩,zB.refl _⟩ (fun i σ H' _ h=>SqT.of (h.2 _ _ ht2)) ?_ ?_
  ·rw[AF]
   constructor
   ·rintro rfl
    exact⟨[],.nil,rfl⟩
   ·rintro⟨r,h,e⟩
    cases h
    exact e
  ·rintro i x σ H3 hx ⟨⟨l,P,x5,rfl,hl,hpl,hm⟩,s3⟩
   have hi:i < us.length:=(AE.mp hx).1
   have ha:s.ps[i]? = some s.ps[i]:=AK (by omega)
   generalize s.ps[i]=a at ha
   have hia:=Paired.at hP i _ _ ha hx
   have ham:=AV ha
   have hda:=Sy.dp_lt ham
   have S3:=S2.trans s3
   have p9:P.length<=9:=by
    have:i=0\/i=1:=by omega
    rcases this with h | h <;> rw[h] at hpl <;> omega
   match j,hj,d_possible_within with
   | 0,hj,_=>exact absurd hj (by omega)
   | j+1,hj,_=>
   refine⟨_,rfl,_,rfl,_,rfl,_,rfl,_,rfl,_,rfl,e',g,x,T,L,a,ls,rfl,hc.same S3,gT,nT,hia.same S3,gps a ham,hL,hg.same S3,hlt,by omega,fun l4 xs H4 s4 h4 hx4 x9=>?_⟩
   refine⟨l,l4,T.m,P,xs,rfl,m9,s4 _ _ hl,h4,p9,x9,fun l5 H5 s5 h5=>⟨⟨l5,_,_,rfl,h5,?_,fun y=>?_⟩,s3.trans (s4.trans s5)⟩⟩
   ·rw[Tn.flat_len _ xs.length (fun x=>by rw[AC]),Nat.pow_succ]
    exact Nat.mul_le_mul hpl x9
   ·rw[Dw,take_snoc ha]
    constructor
    ·rintro⟨p,hp,hy⟩
     obtain⟨o,ho,rfl⟩:=AS.mp hy
     obtain⟨r,hr',rfl⟩:=(hm p).mp hp
     exact⟨r++[o],Xq hr' ((hx4 o).mp ho),(Tn.place_snoc _ _ _).symm⟩
    ·rintro⟨r,hr',rfl⟩
     obtain⟨r',o,rfl,h1,h2⟩:=Qo hr'
     refine⟨Tn.place T.m r',(hm _).mpr ⟨r',h1,rfl⟩,AS.mpr ⟨o,(hx4 o).mpr h2,(Tn.place_snoc _ _ _).symm⟩⟩
  ·rintro σ H3 ⟨⟨l,P,x5,rfl,hl,hpl,hm⟩,s3⟩
   rw[<- hul,Aq] at hm
   have p81:P.length<=81:=by
    have:us.length=0\/us.length=1\/us.length=2:=by omega
    rcases this with h | h | h <;> rw[h] at hpl <;> omega
   have S3:=S2.trans s3
   have ht3:=S3 _ _ ht
   obtain⟨kvs,hk,hv⟩:=hc.same S3
   obtain⟨u,e1,e2⟩:=hv c hcm
   refine⟨_,rfl,_,rfl,.inr (.inl ⟨t,_,_,_,rfl,rfl,SqT.of ht3,at0,_,rfl,_,_,rfl,.inr ⟨_,SqT.of ht3,rfl⟩,_,_,rfl,rfl,zj (by show 2<=1000;decide),fun t4 ht4=>?_⟩)⟩
   have el:V.int (((.str s.nm :: us:List V).length:Int) - 1)=.int ((c.pl:Nat):Int):=by
    rw[Ab,<- hul,cp]
    show V.int _=V.int _
    congr 1
    omega
   dsimp only
   rw[el]
   have n4:=zd ht4 (.tup [.str s.nm,.int ((c.pl:Nat):Int)])
   have hgd:Yf (upd H3 t4 (.tup [.str s.nm,.int ((c.pl:Nat):Int)])) e' (.ref t4) (jz kvs (we c)):=Yf.t (n4 _ _ hk) (by
    rw[zc]
    unfold we
    rw[cn]
    rfl)
   rw[e1] at hgd
   refine⟨e',_,rfl,hgd,?_⟩
   have pw:∀ r,PosL T ls s.ps r->Tn.place T.m r < c.cs.length/\Tn.at' c.cs (Tn.place T.m r)=L4.cellOf T s.nm r/\Tn.at' c.cs (Tn.place T.m r) < T.m:=fun r hr'=>by
    have rw':=posL_rw gT nT hlt hr' gps
    rw[<- cp] at rw'
    obtain⟨_,_,c3⟩:=gT.cn c hcm
    have pl:=Tn.place_lt _ _ rw'
    refine⟨by rw[c3.len];exact pl,?_,c3.at_lt pl⟩
    unfold L4.cellOf
    rw[<- cn,yJ nT hcm]
   refine⟨_,rfl,l,rfl,⟨_,SqL.of (n4 _ _ hl)⟩,fun D hD=>?_⟩
   refine Qy P nV (fun p=>nV (Tn.at' c.cs p)) (n4 _ _ hl) (by omega) hD (fun z hz H' Q' s2 q'=>?_) (fun H4 s4 hD4=>?_)
   ·obtain⟨r,hr',rfl⟩:=(hm z).mp hz
    exact⟨_,rfl,_,rfl,.inr (.inl ⟨u,_,_,_,rfl,rfl,SqT.of (s2 _ _ (n4 _ _ e2)),at_nV (pw r hr').1,q' H' zB.rfl'⟩)⟩
   ·rw[show (P.map fun p=>nV (Tn.at' c.cs p))=(P.map (Tn.at' c.cs)).map nV by rw[A2];rfl] at hD4
    refine⟨_,rfl,D,_,rfl,.inl (SqL.of hD4),rfl,Q0 _,?_⟩
    rw[no_non]
    refine⟨_,rfl,wv ?_⟩
    have all9:∀ y ∈ P.map (Tn.at' c.cs),y < T.m:=fun y hy=>by
     obtain⟨p,hp,rfl⟩:=AS.mp hy
     obtain⟨r,hr',rfl⟩:=(hm p).mp hp
     exact (pw r hr').2.2
    refine⟨_,rfl,D,_,rfl,SqL.of hD4,(fun y hy=>AX (all9 y hy) m9),fun sa ds hsa nd hds=>?_⟩
    refine⟨sa,ds,rfl,zc,fun k ms hk' pm so=>q k ms _ (S3.trans (n4.trans (s4.trans ((zd hsa _).trans (zd hk' _))))) zc (fun y=>?_) ?_⟩
    ·rw[pm.mem_iff,hds,pos_node hs]
     constructor
     ·intro hy
      obtain⟨p,hp,rfl⟩:=AS.mp hy
      obtain⟨r,hr',rfl⟩:=(hm p).mp hp
      exact⟨r,hr',(pw r hr').2.1⟩
     ·rintro⟨r,hr',rfl⟩
      exact AS.mpr ⟨_,(hm _).mpr ⟨r,hr',rfl⟩,(pw r hr').2.1⟩
    ·have:=Tn.nodup_len T.m ms (pm.nodup_iff.mpr nd) fun y hy=>all9 y ((hds y).mp (pm.mem_iff.mp hy))
     omega
abbrev jg:Stmt:=top 29
theorem Ze:zv ["T", "premises", "S", "sets", "cells", "premise"] ["T", "premises", "S", "sets"] (zg jg):=⟨rfl,rfl,rfl,by decide +kernel,rfl,by decide +kernel,by decide +kernel⟩
theorem Wv {P:Program} {w:World} {K:PySem.W.Frag} {mg:Str->Option Value} {base:Heap} {f:Addr} {fd:FuncData} (F:Fun K "is_closed" "is_closed" jg f fd) (gb:Gb mg) {c:Nat->Addr} (cl:Cl K mg c) (d_cells_by_name:Def P w K mg base 1 "cells_by_name" ["H"] spCbn) (d_possible_within:Def P w K mg base 18 "possible_within" ["cells", "many", "S", "sets"] (yQ 12)):jj P w K mg base CX0 20 f fd ["T", "premises", "S", "sets"] wm:=by
 refine F.ok Ze (fun vs H Q E h=>?_) (fun cdv A outer s H vs Q E hr h=>?_)
 ·obtain⟨v,pl,g,sv,T,L,ps,S,ls,rfl,_⟩:=h
  rfl
 obtain⟨v,pl,g,sv,T,L,ps,S,ls,rfl,ak,hg,hlt,q1,q0⟩:=h
 have nd0:(["one", "T"]:List Str).Nodup:=by decide +kernel
 have nd1:(["one", "T"]:List Str).Nodup:=by decide +kernel
 refine⟨_,(@ze _ _ _ _ _ (@zt _ _ 4 _ _ _ _ Ze.nd rfl (Or.inl rfl) (@zm _ _ _ _ _ _ _ _ _ _ _ d_cells_by_name hr (by omega) rfl (@za _ _ _ _ _ (@pw _ 0 _ _ rfl rfl) (@zb _) rfl) (by decide) rfl rfl) rfl (by walk_at "f")) (@ze _ _ _ _ _ (@jv _ _ _ _ _ _ _ _ BJ rfl (@zP _ K _ _ _ (@pw _ 1 _ _ rfl rfl) rfl) (@pgl _ 5 _ _ Ze.nd rfl rfl) (@zi _ _ _ (@qZ _ _ _ _ _ _ _ _ (@QG _ _ _ _ (@jW _ _ _ (@zo _ _ _ _ _ _ _ _ _ (@Xf _ K rfl rfl) rfl gb.any bt_any (@za _ _ _ _ _ (@zY _ ["one", "T"] [none,some 0] _ _ _ _ _ _ _ _ _ _ (by exact (show zF ["T", "premises", "S", "sets", "cells", "premise"] (zg jg) ["one", "T"] [none,some 0] _ from⟨rfl,by decide +kernel,by decide +kernel,by decide +kernel,by decide +kernel,rfl,by decide +kernel⟩)) rfl (@zP _ K _ _ _ (@zm _ _ _ _ _ _ _ _ _ _ _ d_possible_within hr (by omega) rfl (@za _ _ _ _ _ (@pw _ 4 _ _ rfl rfl) (@za _ _ _ _ _ (@zu _ _ _ _ _ _ _ (@zh _ K rfl) (@pw _ 0 _ _ rfl rfl) (@zf _ _ _ _) (fun _ _=>rfl)) (@za _ _ _ _ _ (@pw _ 5 _ _ rfl rfl) (@za _ _ _ _ _ (@pw _ 3 _ _ rfl rfl) (@zb _) rfl) rfl) rfl) rfl) (by decide) rfl rfl) rfl) (fun _ _ _ _=>(@pgl _ 0 _ _ nd0 rfl rfl)) (fun _ _ _ _=>(@qC _)) (fun _ _ _ _=>(@jX _ _ _ _ _ _ _ _ (@Z7 _ K rfl) (@pw _ 0 _ _ rfl rfl) (@zu _ _ _ _ _ _ _ (@zh _ K rfl) (@pw _ 1 _ _ rfl rfl) (@zf _ _ _ _) (fun _ _=>rfl)) (by with_unfolding_all rfl))) (by intro _;rfl)) (@zb _) rfl) (by decide) (by decide) rfl rfl) (by intro _;rfl))) (@zi _ _ _ (@zA _ _ _ _ (@YU _ _ _ _))) (@zM _))) (by intro _;rfl)) (@zi _ _ _ (@zA _ _ _ _ (@zo _ _ _ _ _ _ _ _ _ (@wN _ K rfl rfl) rfl gb.all bt_all (@za _ _ _ _ _ (@zY _ ["one", "T"] [none,some 0] _ _ _ _ _ _ _ _ _ _ (by exact (show zF ["T", "premises", "S", "sets", "cells", "premise"] (zg jg) ["one", "T"] [none,some 0] _ from⟨rfl,by decide +kernel,by decide +kernel,by decide +kernel,by decide +kernel,rfl,by decide +kernel⟩)) rfl (@zP _ K _ _ _ (@zm _ _ _ _ _ _ _ _ _ _ _ d_possible_within hr (by omega) rfl (@za _ _ _ _ _ (@pw _ 4 _ _ rfl rfl) (@za _ _ _ _ _ (@zu _ _ _ _ _ _ _ (@zh _ K rfl) (@pw _ 0 _ _ rfl rfl) (@zf _ _ _ _) (fun _ _=>rfl)) (@za _ _ _ _ _ (@pw _ 2 _ _ rfl rfl) (@za _ _ _ _ _ (@pw _ 3 _ _ rfl rfl) (@zb _) rfl) rfl) rfl) rfl) (by decide) rfl rfl) rfl) (fun _ _ _ _=>(@pgl _ 0 _ _ nd1 rfl rfl)) (fun _ _ _ _=>(@qC _)) (fun _ _ _ _=>(@jX _ _ _ _ _ _ _ _ (@Z7 _ K rfl) (@pw _ 0 _ _ rfl rfl) (@zu _ _ _ _ _ _ _ (@zh _ K rfl) (@pw _ 1 _ _ rfl rfl) (@zf _ _ _ _) (fun _ _=>rfl)) (by with_unfolding_all rfl))) (by intro _;rfl)) (@zb _) rfl) (by decide) (by decide) rfl rfl))))),?_⟩
 obtain⟨a,w0,c0,vs0,rfl,h1,h2,h3,h4⟩:=id ak.tb
 refine⟨_,rfl,_,T,rfl,ak.tb,ak.gt,ak.nd,fun e' H1 s1 hc=>?_⟩
 refine⟨_,rfl,pl,rfl,⟨_,SqL.of (s1 _ _ ak.hp)⟩,?_⟩
 refine jm (xs:=ps.map Prod.fst) (fun i σ H'=>(∃ x5,σ=[some (.ref a),some (.ref pl),some sv,some (.ref g),some (.ref e'),x5])/\zB H H'/\zB H1 H'/\∀ z ∈ ps.take i,∃ y,ww T ls z.2 y/\y ∈ T.ws) ⟨⟨_,rfl⟩,s1,zB.refl _,(fun z hz=>by cases hz)⟩ (fun i σ H' _ h=>SqL.of (h.2.1 _ _ ak.hp)) ?_ ?_
 ·rintro i x σ H0 hx' ⟨⟨x5,rfl⟩,s0,s01,hall⟩
  rw[AW] at hx'
  obtain⟨z,hzi,rfl⟩:=Ac.mp hx'
  have hzm:=AV hzi
  obtain⟨gz,dz,_,iz⟩:=ak.ps z hzm
  refine⟨_,rfl,_,rfl,.inr (.inl ⟨a,_,0,_,rfl,rfl,SqT.of (s0 _ _ h1),rfl,_,rfl,_,rfl,e',g,z.1,T,L,_,ls,rfl,hc.same s01,ak.gt,ak.nd,iz.same s0,gz,ak.hL,hg.same s0,hlt,show _<=11 by omega,fun l xs H2 s2 hl hx x9=>?_⟩)⟩
  refine⟨l,rfl,⟨_,SqL.of hl⟩,fun D hD=>?_⟩
  have h1':=s2 _ _ (s0 _ _ h1)
  have h2':=s2 _ _ (s0 _ _ h2)
  refine Qy xs nV (fun y=>.bl (decide (y ∈ T.ws))) hl (by omega) hD (fun y hy H' Q' s3 q'=>?_) (fun H3 s3 hD3=>?_)
  ·refine⟨_,rfl,_,rfl,.inr (.inl ⟨a,_,1,_,rfl,rfl,SqT.of (s3 _ _ h1'),rfl,w0,_,rfl,.inr (SqT.of (s3 _ _ h2')),rfl,Q0 _,?_⟩)⟩
   have q2:=q' H' zB.rfl'
   rw[<- Xm] at q2
   exact q2
  rw[XH] at hD3
  refine⟨D,_,rfl,SqL.of hD3,?_⟩
  refine⟨_,rfl,?_⟩
  cases hany:(xs.map fun y=>decide (y ∈ T.ws)).any id with
  | true=>
   refine⟨⟨_,rfl⟩,s0.trans (s2.trans s3),s01.trans (s2.trans s3),fun z' hz'=>?_⟩
   rw[take_snoc hzi] at hz'
   rcases Aa.mp hz' with h | h
   ·exact hall z' h
   ·rw[AF.mp h]
    obtain⟨b,hb,eb⟩:=DA.mp hany
    obtain⟨y,hy,rfl⟩:=AS.mp hb
    exact⟨y,(hx y).mp hy,Az eb⟩
  | false=>
   refine q1 (.inl ⟨z.2,AS.mpr ⟨z,hzm,rfl⟩,fun y hy hw=>?_⟩) _ (s0.trans (s2.trans s3))
   have:(xs.map fun y=>decide (y ∈ T.ws)).any id=true:=DA.mpr ⟨_,AS.mpr ⟨y,(hx y).mpr hy,rfl⟩,BV hw⟩
   rw[hany] at this
   cases this
 ·rintro σ H0 ⟨⟨x5,rfl⟩,s0,s01,hall⟩
  rw[AC,Aq] at hall
  refine⟨_,rfl,_,rfl,.inr (.inl ⟨a,_,0,_,rfl,rfl,SqT.of (s0 _ _ h1),rfl,_,rfl,_,rfl,e',g,sv,T,L,_,ls,rfl,hc.same s01,ak.gt,ak.nd,ak.sv.same s0,ak.gs,ak.hL,hg.same s0,hlt,show _<=11 from Ag ak.sd (by decide),fun l xs H2 s2 hl hx x9=>?_⟩)⟩
  refine⟨l,rfl,⟨_,SqL.of hl⟩,fun D hD=>?_⟩
  have h1':=s2 _ _ (s0 _ _ h1)
  have h2':=s2 _ _ (s0 _ _ h2)
  refine Qy xs nV (fun y=>.bl (decide (y ∈ T.ws))) hl (by omega) hD (fun y hy H' Q' s3 q'=>?_) (fun H3 s3 hD3=>?_)
  ·refine⟨_,rfl,_,rfl,.inr (.inl ⟨a,_,1,_,rfl,rfl,SqT.of (s3 _ _ h1'),rfl,w0,_,rfl,.inr (SqT.of (s3 _ _ h2')),rfl,Q0 _,?_⟩)⟩
   have q2:=q' H' zB.rfl'
   rw[<- Xm] at q2
   exact q2
  rw[XH] at hD3
  refine⟨D,_,rfl,SqL.of hD3,?_⟩
  have S3:=s0.trans (s2.trans s3)
  cases hal:(xs.map fun y=>decide (y ∈ T.ws)).all id with
  | true=>
   refine q1 (.inr fun y hy=>?_) _ S3
   exact Az (A7.mp hal _ (AS.mpr ⟨y,(hx y).mpr hy,rfl⟩))
  | false=>
   refine q0 (fun clo=>?_) _ S3
   rcases clo with ⟨p,hp,hn⟩ | h
   ·obtain⟨z,hz,rfl⟩:=AS.mp hp
    obtain⟨y,hy,hw⟩:=hall z hz
    exact hn y hy hw
   ·have:(xs.map fun y=>decide (y ∈ T.ws)).all id=true:=A7.mpr fun b hb=>by
     obtain⟨y,hy,rfl⟩:=AS.mp hb
     exact BV (h y ((hx y).mp hy))
    rw[hal] at this
    cases this
abbrev jL:Stmt:=top 28
theorem qO:zv ["T", "premises", "S", "letters", "sets", "letter", "trees", "one", "answer"] ["T", "premises", "S", "letters", "sets"] (zg jL):=⟨rfl,rfl,rfl,by decide +kernel,rfl,by decide +kernel,by decide +kernel⟩
theorem Ww {P:Program} {w:World} {K:PySem.W.Frag} {mg:Str->Option Value} {base:Heap} {f:Addr} {fd:FuncData} (F:Fun K "answer_by" "answer_by" jL f fd) (gb:Gb mg) {c:Nat->Addr} (cl:Cl K mg c) (d_is_closed:Def P w K mg base 20 "is_closed" ["T", "premises", "S", "sets"] wm) (d_with_letter:Def P w K mg base 1 "with_letter" ["by_letter", "letter", "given"] W9) (j:Nat) (d_answer_by:Def P w K mg base (22+j) "answer_by" ["T", "premises", "S", "letters", "sets"] (Z2 j)):jj P w K mg base CX0 (22+j+1) f fd ["T", "premises", "S", "letters", "sets"] (Z2 (j+1)):=by
 refine F.ok qO (fun vs H Q E h=>?_) (fun cdv A outer s H vs Q E hr h=>?_)
 ·obtain⟨v,pl,la,g,sv,T,L,ps,S,ls,rfl,_⟩:=h
  rfl
 obtain⟨v,pl,la,g,sv,T,L,ps,S,ls,rfl,ak,nd,hla,hg,hlt,hls,hj,q1,q0⟩:=h
 have nd0:(["letter", "sets"]:List Str).Nodup:=by decide +kernel
 refine⟨_,(@ze _ _ _ _ _ (@qZ _ _ _ _ _ _ _ _ (@jW _ _ _ (@zm _ _ _ _ _ _ _ _ _ _ _ d_is_closed hr (by omega) rfl (@za _ _ _ _ _ (@pw _ 0 _ _ rfl rfl) (@za _ _ _ _ _ (@pw _ 1 _ _ rfl rfl) (@za _ _ _ _ _ (@pw _ 2 _ _ rfl rfl) (@za _ _ _ _ _ (@pw _ 4 _ _ rfl rfl) (@zb _) rfl) rfl) rfl) rfl) (by decide) rfl rfl) (by intro _;rfl)) (@zi _ _ _ (@zA _ _ _ _ (@zI _ _ _ _ _ (@za _ _ _ _ _ (@ql _ _ _ _) (@za _ _ _ _ _ (@zI _ _ _ _ _ (@za _ _ _ _ _ (@ql _ _ _ _) (@zb _) rfl)) (@zb _) rfl) rfl)))) (@zM _)) (@ze _ _ _ _ _ (@qZ _ _ _ _ _ _ _ _ (@zx _ _ _ _ _ _ _ _ (@Zj _) (@zo _ _ _ _ _ _ _ _ _ (@Wh _) rfl gb.len qM (@za _ _ _ _ _ (@pw _ 4 _ _ rfl rfl) (@zb _) rfl) (by decide) (by decide) rfl rfl) (@zo _ _ _ _ _ _ _ _ _ (@zN _ K rfl) rfl gb.len qM (@za _ _ _ _ _ (@pw _ 3 _ _ rfl rfl) (@zb _) rfl) (by decide) (by decide) rfl rfl) (@zH _ _ (by decide) (by decide))) (@zi _ _ _ (@zA _ _ _ _ (@zI _ _ _ _ _ (@za _ _ _ _ _ (@ql _ _ _ _) (@za _ _ _ _ _ (@pe_dictP _ K _ _ _ _ rfl gb.dict (@za _ _ _ _ _ (@zY _ ["letter", "sets"] [none,some 4] _ _ _ _ _ _ _ _ _ _ (by exact (show zF ["T", "premises", "S", "letters", "sets", "letter", "trees", "one", "answer"] (zg jL) ["letter", "sets"] [none,some 4] _ from⟨rfl,by decide +kernel,by decide +kernel,by decide +kernel,by decide +kernel,rfl,by decide +kernel⟩)) rfl (@zP _ K _ _ _ (@pw _ 3 _ _ rfl rfl) rfl) (fun _ _ _ _=>(@pgl _ 0 _ _ nd0 rfl rfl)) (fun _ _ _ _=>(@qC _)) (fun _ _ _ _=>(@zI _ _ _ _ _ (@za _ _ _ _ _ (@pw _ 0 _ _ rfl rfl) (@za _ _ _ _ _ (@zu _ _ _ _ _ _ _ (@zh _ K rfl) (@xL _ _ _ _ _ _ (@pw _ 1 _ _ rfl rfl) (@pw _ 0 _ _ rfl rfl) (fun _ _=>rfl)) (@zf _ _ _ _) (fun _ _=>rfl)) (@zb _) rfl) rfl))) (by intro _;rfl)) (@zb _) rfl) rfl rfl rfl) (@zb _) rfl) rfl)))) (@zM _)) (@ze _ _ _ _ _ (@zt _ _ 5 _ _ _ _ qO.nd rfl (Or.inl rfl) (@zu _ _ _ _ _ _ _ (@zh _ K rfl) (@pw _ 3 _ _ rfl rfl) (@zo _ _ _ _ _ _ _ _ _ (@Wh _) rfl gb.len qM (@za _ _ _ _ _ (@pw _ 4 _ _ rfl rfl) (@zb _) rfl) (by decide) (by decide) rfl rfl) (fun _ _=>rfl)) rfl (by walk_at "f")) (@ze _ _ _ _ _ (@zt _ _ 6 _ _ _ _ qO.nd rfl (Or.inl rfl) (@zK _ _ _ _ (@zb _)) rfl (by walk_at "f")) (@ze _ _ _ _ _ (@jv _ _ _ _ _ _ _ _ BJ rfl (@qe _ _ _ _ _ _ rfl gb.range (@za _ _ _ _ _ (@zu _ _ _ _ _ _ _ (@zh _ K rfl) (@pw _ 0 _ _ rfl rfl) (@zf _ _ _ _) (fun _ _=>rfl)) (@zb _) rfl) rfl) (@pgl _ 7 _ _ qO.nd rfl rfl) (@ze _ _ _ _ _ (@zt _ _ 8 _ _ _ _ qO.nd rfl (Or.inl rfl) (@zm _ _ _ _ _ _ _ _ _ _ _ d_answer_by hr (by omega) rfl (@za _ _ _ _ _ (@pw _ 0 _ _ rfl rfl) (@za _ _ _ _ _ (@pw _ 1 _ _ rfl rfl) (@za _ _ _ _ _ (@pw _ 2 _ _ rfl rfl) (@za _ _ _ _ _ (@pw _ 3 _ _ rfl rfl) (@za _ _ _ _ _ (@zm _ _ _ _ _ _ _ _ _ _ _ d_with_letter hr (by omega) rfl (@za _ _ _ _ _ (@pw _ 4 _ _ rfl rfl) (@za _ _ _ _ _ (@pw _ 5 _ _ rfl rfl) (@za _ _ _ _ _ (@zI _ _ _ _ _ (@za _ _ _ _ _ (@pw _ 7 _ _ rfl rfl) (@zb _) rfl)) (@zb _) rfl) rfl) rfl) (by decide) rfl rfl) (@zb _) rfl) rfl) rfl) rfl) rfl) (by decide) rfl rfl) rfl (by walk_at "f")) (@ze _ _ _ _ _ (@qZ _ _ _ _ _ _ _ _ (@zx _ _ _ _ _ _ _ _ (@Zj _) (@zu _ _ _ _ _ _ _ (@zh _ K rfl) (@pw _ 8 _ _ rfl rfl) (@zf _ _ _ _) (fun _ _=>rfl)) (@ql _ _ _ _) (@zH _ _ (by decide) (by decide))) (@zi _ _ _ (@zA _ _ _ _ (@pw _ 8 _ _ rfl rfl))) (@zM _)) (@zi _ _ _ (@qY _ _ _ _ (@ZP _ K _ _ _ _ _ _ _ _ _ _ _ A6 B0 Bz (@jw _) (@pw _ 6 _ _ rfl rfl) (@za _ _ _ _ _ (@zu _ _ _ _ _ _ _ (@zh _ K rfl) (@pw _ 8 _ _ rfl rfl) (@zf _ _ _ _) (fun _ _=>rfl)) (@zb _) rfl) rfl rfl rfl rfl rfl rfl) rfl)))) (by intro _;rfl)) (@zi _ _ _ (@zA _ _ _ _ (@zI _ _ _ _ _ (@za _ _ _ _ _ (@ql _ _ _ _) (@za _ _ _ _ _ (@zI _ _ _ _ _ (@za _ _ _ _ _ (@ql _ _ _ _) (@za _ _ _ _ _ (@pw _ 5 _ _ rfl rfl) (@za _ _ _ _ _ (@zE _ _ _ _ _ _ _ _ _ (@zT _ K rfl) rfl gb.tuple jE (@za _ _ _ _ _ (@pw _ 6 _ _ rfl rfl) (@zb _) rfl) (by decide) (by decide) rfl rfl) (@zb _) rfl) rfl) rfl)) (@zb _) rfl) rfl))))))))),?_⟩
 obtain⟨a,w0,c0,vs0,rfl,h1,h2,h3,h4⟩:=id ak.tb
 have m9:=ak.gt.m9
 have m1:=ak.gt.m1
 have l5:=ak.ln
 have hll:ls.length<=L.length:=by
  have:=Be List.length hls
  rw[AC,AZ] at this
  omega
 refine⟨_,rfl,_,rfl,_,rfl,_,rfl,_,pl,g,sv,T,L,ps,S,ls,rfl,ak,hg,hlt,fun clo H1 s1=>⟨_,rfl,YN ?_⟩,fun nclo H1 s1=>⟨_,rfl,wv ?_⟩⟩
 ·refine⟨zj (by show 1<=1000;decide),fun t1 ht1=>⟨zj (by show 2<=1000;decide),fun t2 ht2=>q1 (clo_fol clo) t2 (.ref t1) _ (s1.trans ((zd ht1 _).trans (zd ht2 _))) zc⟩⟩
 obtain⟨kvs,hk,hP⟩:=hg.same s1
 have hkl:=Aw hP
 refine⟨_,rfl,g,kvs,rfl,hk,_,rfl,_,_,rfl,.inl ⟨_,SqL.of (s1 _ _ hla),rfl⟩,rfl,_,rfl,?_⟩
 rw[AC]
 by_cases hfull:ls.length=L.length
 ·refine iteDT (BV (by rw[<- hkl,hfull])) ?_
  rw[hfull,Aq] at hls
  have γd:∃ γ:Str->Nat,Gd T γ/\∀ x ∈ L,ls.lookup x=some (γ x):=by
   refine⟨fun x=>(ls.lookup x).getD 0,fun x=>?_,fun x hx=>?_⟩
   ·show (ls.lookup x).getD 0 < T.m
    cases e:ls.lookup x with
    | none=>exact m1
    | some o=>exact hlt (x,o) (Qb e)
   ·obtain⟨o,e⟩:=Yy nd hls hx
    show ls.lookup x=some ((ls.lookup x).getD 0)
    rw[e]
    rfl
  obtain⟨γ,gd,hγ⟩:=γd
  have kp:Keeps γ ls:=fun p hp=>by
   have e1:=XI (by rw[hls];exact nd) hp
   have e2:=hγ p.1 (by rw[<- hls];exact AS.mpr ⟨p,hp,rfl⟩)
   rw[e1] at e2
   exact (AL e2).symm
  have bar:Bar T γ (ps.map Prod.snd) S:=bar_of nclo (fun p hp x hx=>by
   obtain⟨z,hz,rfl⟩:=AS.mp hp
   exact hγ x ((ak.ps z hz).1.lets_in hx)) fun x hx=>hγ x (ak.gs.lets_in hx)
  refine⟨_,rfl,la,rfl,⟨_,SqL.of (s1 _ _ hla)⟩,fun D hD=>?_⟩
  refine jy (xs:=L.map V.str) (fun i ys H'=>zB H1 H'/\Prs H' ys ((L.take i).map fun x=>((Sum.inr x:Key),nV (γ x)))/\ys.length=i) ⟨zd hD _,.nil,rfl⟩ (fun i ys H' h _=>SqL.of (h.1 _ _ (s1 _ _ hla))) ?_ ?_
  ·rintro i ys H2 y hy ⟨s2,hpr,hyl⟩ hD2
   rw[AW] at hy
   obtain⟨x,hx,rfl⟩:=Ac.mp hy
   have hi:=(AE.mp hx).1
   have hv:=yL hP x
   rw[hγ x (AV hx)] at hv
   obtain⟨u,e1,e2⟩:=hv
   refine yes ⟨_,rfl,_,rfl,_,rfl,g,kvs,Sum.inr x,_,rfl,s2 _ _ hk,rfl,e1,.inr (.inl ⟨u,_,0,_,rfl,rfl,SqT.of (s2 _ _ e2),rfl,zj (by show 2<=1000;decide),fun t3 ht3=>?_⟩)⟩
   have n3:=zd ht3 (.tup [.str x,nV (γ x)])
   have hD3:=n3 _ _ hD2
   refine Jf (by rw[AC];exact hi) qS hD3 (zq (by omega)) ⟨(s2.trans n3).put hD,?_,by rw[AI,hyl];rfl⟩
   rw[take_snoc hx,AM]
   exact Prs.snoc (p:=(Sum.inr x,nV (γ x))) (Prs.tk (Tk.put hD3) (Prs.tk (Tk.of n3) hpr)) (Tk.put hD3 _ _ zc)
  ·rintro ys H2 ⟨s2,hpr,hyl⟩ hD2
   rw[AC,Aq] at hpr
   refine⟨D,ys,_,rfl,hD2,hpr,fun dd hdd=>?_⟩
   rw[gkv_put nd]
   refine⟨zj (by show 2<=1000;decide),fun t5 ht5=>q0 γ gd kp bar t5 dd _ (s1.trans (s2.trans ((zd hdd _).trans (zd ht5 _)))) zc ((zd ht5 _) _ _ zc)⟩
 refine iteDF (Ay (by rw[<- hkl];intro z;exact hfull (by have:=V.int.inj z;omega))) ?_
 have hlt2:ls.length < L.length:=by omega
 have hxl:L[ls.length]? = some L[ls.length]:=AK hlt2
 generalize L[ls.length]=x at hxl
 have hxn:x ∉ ls.map Prod.fst:=by
  rw[hls]
  intro hm
  obtain⟨i,hi,e⟩:=List.mem_take_iff_getElem.mp hm
  obtain⟨hk2,e2⟩:=AE.mp hxl
  exact (Ct.mp nd) i ls.length (by omega) hk2 (by omega) (by rw[e,e2])
 refine⟨_,rfl,_,rfl,g,kvs,rfl,hk,.inl ⟨la,_,_,.str x,rfl,rfl,SqL.of (s1 _ _ hla),(by rw[<- hkl];exact qQ (by rw[AW,hxl];rfl)),?_⟩⟩
 refine⟨zj (by show 0<=1000;decide),fun tl htl=>?_⟩
 have n1:=zd htl (.lst [])
 refine⟨_,rfl,.inr (.inl ⟨a,_,0,_,rfl,rfl,SqT.of (n1 _ _ (s1 _ _ h1)),rfl,(T.m:Int),rfl,by omega,by omega,?_⟩)⟩
 rw[BW]
 have hHtl:=s1.free htl
 refine ZJ (fun i σ H'=>(∃ x7 x8,σ=[some (.ref a),some (.ref pl),some sv,some (.ref la),some (.ref g),some (.str x),some (.ref tl),x7,x8])/\zB H H'/\(∃ ys,H' tl=some (.lst ys)/\ys.length=i)/\∀ o,o < i->FolL T (ls++[(x,o)]) (ps.map Prod.snd) S) ⟨⟨_,_,rfl⟩,s1.trans n1,⟨[],zc,rfl⟩,fun o ho=>absurd ho (BX _)⟩ ?_ ?_
 ·rintro i σ H2 hi ⟨⟨x7,x8,rfl⟩,s2,⟨ys,hys,hyl⟩,hfol⟩
  match j,hj,d_answer_by with
  | 0,hj,_=>exact absurd hj (by omega)
  | j+1,hj,_=>
  rw[show (0:Int)+(i:Int)=((i:Nat):Int) by omega]
  refine⟨_,rfl,_,rfl,_,rfl,_,rfl,_,rfl,_,rfl,_,rfl,zj (by show 1<=1000;decide),fun u hu=>?_⟩
  have n2:=zd hu (.tup [nV i])
  have S3:=s2.trans n2
  refine⟨g,u,x,i,ls,rfl,hg.same S3,by omega,hxn,zc,fun g' H4 s4 hg'=>?_⟩
  have S4:=S3.trans s4
  have tl4:=s4 _ _ (n2 _ _ hys)
  refine⟨_,pl,la,g',sv,T,L,ps,S,ls++[(x,i)],rfl,ak.same S4,nd,S4 _ _ hla,hg',(fun p hp=>?_),?_,?_,fun fol t tv H5 s5 ht=>?_,fun γ gd kp bar t dd H5 s5 ht hd=>?_⟩
  ·rcases Aa.mp hp with hp | hp
   ·exact hlt p hp
   ·rw[AF.mp hp]
    exact hi
  ·rw[AM,AI,hls]
   exact (take_snoc hxl).symm
  ·rw[AI]
   show L.length<=ls.length+1+j
   omega
  ·refine⟨_,rfl,.inr (.inl ⟨t,_,0,_,rfl,rfl,SqT.of ht,rfl,rfl,_,rfl,iteDF (by decide +kernel) ?_⟩)⟩
   have tl5:=s5 _ _ tl4
   refine⟨_,rfl,.inl ⟨rfl,_,SqL.of tl5⟩,_,rfl,.inr (.inl ⟨t,_,1,_,rfl,rfl,SqT.of ht,rfl,?_⟩)⟩
   refine⟨tl,_,_,rfl,rfl,tl5,zq (by omega),⟨_,_,rfl⟩,(S4.trans s5).put hHtl,⟨_,zc,by rw[AI,hyl];rfl⟩,fun o ho=>?_⟩
   by_cases e:o=i
   ·rw[e]
    exact fol
   ·exact hfol o (by omega)
  ·refine⟨_,rfl,.inr (.inl ⟨t,_,0,_,rfl,rfl,SqT.of ht,rfl,rfl,_,rfl,iteDT (by decide +kernel) ?_⟩)⟩
   exact⟨_,rfl,q0 γ gd (Yx kp) bar t dd H5 (S4.trans s5) ht hd⟩
 ·rintro σ H2 ⟨⟨x7,x8,rfl⟩,s2,⟨ys,hys,hyl⟩,hfol⟩
  refine⟨_,rfl,_,rfl,tl,ys,rfl,.inl ⟨SqL.of hys,fun t1 ht1=>?_⟩⟩
  refine⟨zj (by show 3<=1000;decide),fun t2 ht2=>⟨zj (by show 2<=1000;decide),fun t3 ht3=>q1 (Xr x hfol) t3 (.ref t2) _ (s2.trans ((zd ht1 _).trans ((zd ht2 _).trans (zd ht3 _)))) zc⟩⟩
abbrev Jc:Stmt:=top 27
theorem Qe:zv ["T", "premises", "S", "sayings", "saying"] ["T", "premises", "S"] (zg Jc):=⟨rfl,rfl,rfl,by decide +kernel,rfl,by decide +kernel,by decide +kernel⟩
theorem YJ {P:Program} {w:World} {K:PySem.W.Frag} {mg:Str->Option Value} {base:Heap} {f:Addr} {fd:FuncData} (F:Fun K "follows" "follows" Jc f fd) (gb:Gb mg) {c:Nat->Addr} (cl:Cl K mg c) (d_check_names:Def P w K mg base 3 "check_names" ["shapes", "parts"] XJ) (d_cells_by_name:Def P w K mg base 1 "cells_by_name" ["H"] spCbn) (d_written_parts:Def P w K mg base 3 "written_parts" ["S"] Wo) (d_letters_of_all:Def P w K mg base 4 "letters_of_all" ["sayings"] QE) (d_answer_by:Def P w K mg base 28 "answer_by" ["T", "premises", "S", "letters", "sets"] (Z2 6)):jj P w K mg base CX0 30 f fd ["T", "premises", "S"] Q8:=by
 refine F.ok Qe (fun vs H Q E h=>?_) (fun cdv A outer s H vs Q E hr h=>?_)
 ·obtain⟨v,pl,sv,T,L,ps,S,rfl,_⟩:=h
  rfl
 obtain⟨v,pl,sv,T,L,ps,S,rfl,ak,q1,q0⟩:=h
 refine⟨_,(@ze _ _ _ _ _ (@zt _ _ 3 _ _ _ _ Qe.nd rfl (Or.inl rfl) (@zC _ _ _ _ _ _ _ _ (@ZM _) (@zE _ _ _ _ _ _ _ _ _ (@qT _ K rfl) rfl gb.list Zw (@za _ _ _ _ _ (@pw _ 1 _ _ rfl rfl) (@zb _) rfl) (by decide) (by decide) rfl rfl) (@zK _ _ _ _ (@za _ _ _ _ _ (@pw _ 2 _ _ rfl rfl) (@zb _) rfl))) rfl (by walk_at "f")) (@ze _ _ _ _ _ (@jv _ _ _ _ _ _ _ _ BJ rfl (@zP _ K _ _ _ (@pw _ 3 _ _ rfl rfl) rfl) (@pgl _ 4 _ _ Qe.nd rfl rfl) (@zi _ _ _ (@qY _ _ _ _ (@zm _ _ _ _ _ _ _ _ _ _ _ d_check_names hr (by omega) rfl (@za _ _ _ _ _ (@zm _ _ _ _ _ _ _ _ _ _ _ d_cells_by_name hr (by omega) rfl (@za _ _ _ _ _ (@pw _ 0 _ _ rfl rfl) (@zb _) rfl) (by decide) rfl rfl) (@za _ _ _ _ _ (@zm _ _ _ _ _ _ _ _ _ _ _ d_written_parts hr (by omega) rfl (@za _ _ _ _ _ (@pw _ 4 _ _ rfl rfl) (@zb _) rfl) (by decide) rfl rfl) (@zb _) rfl) rfl) (by decide) rfl rfl) rfl)) (by intro _;rfl)) (@zi _ _ _ (@zA _ _ _ _ (@zm _ _ _ _ _ _ _ _ _ _ _ d_answer_by hr (by omega) rfl (@za _ _ _ _ _ (@pw _ 0 _ _ rfl rfl) (@za _ _ _ _ _ (@pw _ 1 _ _ rfl rfl) (@za _ _ _ _ _ (@pw _ 2 _ _ rfl rfl) (@za _ _ _ _ _ (@zm _ _ _ _ _ _ _ _ _ _ _ d_letters_of_all hr (by omega) rfl (@za _ _ _ _ _ (@pw _ 3 _ _ rfl rfl) (@zb _) rfl) (by decide) rfl rfl) (@za _ _ _ _ _ (@yD _ _) (@zb _) rfl) rfl) rfl) rfl) rfl) (by decide) rfl rfl))))),?_⟩
 refine⟨_,rfl,pl,_,rfl,.inl (SqL.of ak.hp),fun l1 hl1=>?_⟩
 have n1:=zd hl1 (.lst (ps.map Prod.fst))
 refine⟨_,rfl,zj (by show 1<=1000;decide),fun l2 hl2=>?_⟩
 have n2:=zd hl2 (.lst [sv])
 have pn:=ak.pn
 refine⟨l1,l2,_,_,rfl,rfl,n2 _ _ zc,zc,by rw[AC];exact zj (by show ps.length+1<=1000;omega),fun l3 hl3=>?_⟩
 have n3:=zd hl3 (.lst (ps.map Prod.fst++[sv]))
 have eq3:(ps++[(sv,S)]).map Prod.fst=ps.map Prod.fst++[sv]:=by rw[AM];rfl
 have hl3':=@zc (upd (upd H l1 (.lst (ps.map Prod.fst))) l2 (.lst [sv])) l3 (.lst (ps.map Prod.fst++[sv]))
 rw[<- eq3] at hl3' n3 ⊢
 have S3:=n1.trans (n2.trans n3)
 generalize upd (upd (upd H l1 (.lst (ps.map Prod.fst))) l2 (.lst [sv])) l3 (.lst ((ps++[(sv,S)]).map Prod.fst))=H3 at *
 have allq:∀ z ∈ ps++[(sv,S)],GSt T L z.2/\z.2.sz<=63/\qv H3 z.2 z.1:=fun z hz=>by
  rcases Aa.mp hz with hz | hz
  ·obtain⟨k1,k2,k3,k4⟩:=ak.ps z hz
   exact⟨k1,k3,k4.same S3⟩
  ·rw[AF.mp hz]
   exact⟨ak.gs,ak.sz,ak.sv.same S3⟩
 refine⟨_,rfl,l3,rfl,⟨_,SqL.of hl3'⟩,?_⟩
 refine jm (xs:=(ps++[(sv,S)]).map Prod.fst) (fun i σ H'=>(∃ x4,σ=[some v,some (.ref pl),some sv,some (.ref l3),x4])/\zB H3 H') ⟨⟨_,rfl⟩,zB.refl _⟩ (fun i σ H' _ h=>SqL.of (h.2 _ _ hl3')) ?_ ?_
 ·rintro i x σ H4 hx ⟨⟨x4,rfl⟩,s4⟩
  rw[AW] at hx
  obtain⟨z,hzi,rfl⟩:=Ac.mp hx
  obtain⟨gz,z63,iz⟩:=allq z (AV hzi)
  refine⟨_,rfl,v,T,rfl,ak.tb.same (S3.trans s4),ak.gt,ak.nd,fun e' H5 s5 hc=>⟨_,rfl,z.1,z.2,rfl,iz.same (s4.trans s5),Zd.of ak.hL gz,z63,fun l us H6 s6 hl hP=>⟨e',l,us,z.2.sub,T,L,rfl,hc.same s6,hl,hP,(fun s hs=>gz.sub hs),ak.hL,fun H7 s7=>⟨⟨_,rfl⟩,s4.trans (s5.trans (s6.trans s7))⟩⟩⟩⟩
 ·rintro σ H4 ⟨⟨x4,rfl⟩,s4⟩
  refine⟨_,rfl,_,rfl,_,rfl,_,rfl,l3,ps++[(sv,S)],L,rfl,s4 _ _ hl3',(fun z hz=>⟨Zd.of ak.hL (allq z hz).1,(allq z hz).2.2.same s4⟩),by rw[AI];show ps.length+1<=15;omega,(fun z hz=>⟨(allq z hz).2.1,fun x hx=>(allq z hz).1.lets_in hx⟩),by have:=ak.ln;omega,fun k M H5 s5 hk nd hm so=>fun dd hdd=>?_⟩
  have n6:=zd hdd (.dK [])
  have S6:=S3.trans (s4.trans (s5.trans n6))
  have hm2:∀ x,x ∈ M ↔ (∃ z ∈ ps,x ∈ z.2.lets)\/x ∈ S.lets:=fun x=>by
   rw[hm]
   constructor
   ·rintro⟨z,hz,hx⟩
    rcases Aa.mp hz with hz | hz
    ·exact .inl ⟨z,hz,hx⟩
    ·rw[AF.mp hz] at hx
     exact .inr hx
   ·rintro (⟨z,hz,hx⟩ | hx)
    ·exact⟨z,A1 _ hz,hx⟩
    ·exact⟨(sv,S),Ai _ (AF.mpr rfl),hx⟩
  have hML:∀ x ∈ M,x ∈ L:=fun x hx=>by
   rcases (hm2 x).mp hx with ⟨z,hz,hx⟩ | hx
   ·exact (ak.ps z hz).1.lets_in hx
   ·exact ak.gs.lets_in hx
  have hM5:M.length<=5:=Ag (j6 M L nd hML) ak.ln
  refine⟨v,pl,k,dd,sv,T,M,ps,S,[],rfl,(ak.same S6).lets hML (fun z hz x hx=>(hm2 x).mpr (.inl ⟨z,hz,hx⟩)) (fun x hx=>(hm2 x).mpr (.inr hx)) hM5,nd,n6 _ _ hk,⟨[],zc,.nil⟩,(fun p hp=>by cases hp),rfl,(show M.length<=0+5 by omega),fun fol t tv H7 s7 ht=>q1 (fol_nil.mp fol) t tv H7 (S6.trans s7) ht,fun γ gd _ bar t d' H7 s7 ht hd=>q0 γ M gd bar nd hm2 t d' H7 (S6.trans s7) ht hd⟩
abbrev qr:Stmt:=top 20
theorem Qf:zv ["H"] ["H"] (zg qr):=⟨rfl,rfl,rfl,by decide +kernel,rfl,by decide +kernel,by decide +kernel⟩
theorem Qg {P:Program} {w:World} {K:PySem.W.Frag} {mg:Str->Option Value} {base:Heap} {f:Addr} {fd:FuncData} (F:Fun K "cells_by_name" "cells_by_name" qr f fd) (gb:Gb mg) {c:Nat->Addr} (cl:Cl K mg c):jj P w K mg base CX0 1 f fd ["H"] XS:=by
 refine F.ok Qf (fun vs H Q E h=>?_) (fun cdv A outer s H vs Q E hr h=>?_)
 ·obtain⟨v,T,rfl,_⟩:=h
  rfl
 obtain⟨v,T,rfl,ia,gT,nT,q⟩:=h
 have nd0:(["name", "places", "cells"]:List Str).Nodup:=by decide +kernel
 refine⟨_,(@zi _ _ _ (@zA _ _ _ _ (@Wa _ _ hr _ _ _ _ rfl gb.dict (@za _ _ _ _ _ (@zY _ ["name", "places", "cells"] [none,none,none] _ _ _ _ _ _ _ _ _ _ (by exact (show zF ["H"] (zg qr) ["name", "places", "cells"] [none,none,none] _ from⟨rfl,by decide +kernel,by decide +kernel,by decide +kernel,by decide +kernel,rfl,by decide +kernel⟩)) rfl (@Zx _ K _ _ _ (@zu _ _ _ _ _ _ _ (@zh _ K rfl) (@pw _ 0 _ _ rfl rfl) (@zf _ _ _ _) (fun _ _=>rfl)) rfl) (fun _ _ _ _=>(@Zy _ K _ _ _ _ 3 rfl (@zO _ _ _ _ _ (@pgl _ 0 _ _ nd0 rfl rfl) (@zO _ _ _ _ _ (@pgl _ 1 _ _ nd0 rfl rfl) (@zO _ _ _ _ _ (@pgl _ 2 _ _ nd0 rfl rfl) (@Zt _) rfl) rfl) rfl) rfl rfl rfl)) (fun _ _ _ _=>(@qC _)) (fun _ _ _ _=>(@zI _ _ _ _ _ (@za _ _ _ _ _ (@zI _ _ _ _ _ (@za _ _ _ _ _ (@pw _ 0 _ _ rfl rfl) (@za _ _ _ _ _ (@pw _ 1 _ _ rfl rfl) (@zb _) rfl) rfl)) (@za _ _ _ _ _ (@pw _ 2 _ _ rfl rfl) (@zb _) rfl) rfl))) (by intro _;rfl)) (@zb _) rfl) rfl rfl))),?_⟩
 obtain⟨a,w0,c,vs,rfl,h1,h2,h3,h4⟩:=id ia
 have gcl:=gT.cl
 have gx:∀ i,∃ t u:Addr,i < T.cs.length->vs[i]? = some (.ref t)/\H t=some (.tup [.str (T.cs.getD i d0).nm,nV (T.cs.getD i d0).pl,.ref u])/\H u=some (.tup ((T.cs.getD i d0).cs.map nV)):=fun i=>by
  by_cases hi:i < T.cs.length
  ·have hc:T.cs[i]? = some (T.cs.getD i d0):=by simp[List.getD,hi]
   obtain⟨t,u,h⟩:=h4.get hc
   exact⟨t,u,fun _=>h⟩
  ·exact⟨0,0,fun h=>absurd h hi⟩
 obtain⟨ad,gx⟩:=CS gx
 obtain⟨au,gx⟩:=CS gx
 have ge:∀ i,i < T.cs.length->T.cs[i]? = some (T.cs.getD i d0):=fun i hi=>by simp[List.getD,hi]
 refine⟨_,rfl,.inr (.inl ⟨a,_,2,_,rfl,rfl,SqT.of h1,rfl,c,rfl,⟨_,SqT.of h3⟩,fun D hD=>?_⟩)⟩
 refine wT (n:=T.cs.length) (ad:=ad) (v1:=fun i=>.str (T.cs.getD i d0).nm) (v2:=fun i=>nV (T.cs.getD i d0).pl) (v3:=fun i=>.ref (au i)) (more:=[]) (fun i ys H'=>zB H H'/\ys.length=i/\J5 H' ys (Xn T au i)) ⟨zd hD _,rfl,.nil⟩ h4.len.symm (fun i hi=>(gx i hi).1) (fun i ys H' h _=>SqT.of (h.1 _ _ h3)) (fun i ys H' hi h=>SqT.of (h.1 _ _ (gx i hi).2.1)) ?_ ?_
 ·rintro i ys H1 hi ⟨s1,yl,hP⟩ hD1
  refine yes ⟨_,rfl,_,rfl,zj (by show 2<=1000;decide),fun t1 ht1=>?_⟩
  have n1:=zd ht1 (.tup [.str (T.cs.getD i d0).nm,nV (T.cs.getD i d0).pl])
  refine⟨_,rfl,zj (by show 2<=1000;decide),fun t2 ht2=>?_⟩
  have n2:=zd ht2 (.tup [.ref t1,.ref (au i)])
  have hD2:=n2 _ _ (n1 _ _ hD1)
  refine Jf hi ⟨_,_,_,rfl⟩ hD2 (zq (by omega)) ⟨(s1.trans (n1.trans n2)).put hD,by rw[AI,yl];rfl,?_⟩
  rw[Xo]
  exact J5.snoc (p:=(we (T.cs.getD i d0),.ref (au i))) (J5.tk (Tk.put hD2) (J5.tk (Tk.of (n1.trans n2)) hP)) (Tk.put hD2 _ _ zc) (Tk.put hD2 _ _ (n2 _ _ zc))
 ·rintro ys H1 ⟨s1,yl,hP⟩ hD1
  have hat:∀ cc ∈ T.cs,∃ i,i < T.cs.length/\T.cs.getD i d0=cc:=fun cc hcc=>by
   obtain⟨i,hi⟩:=BM.mp hcc
   have hil:=(AE.mp hi).1
   have:=ge i hil
   rw[hi] at this
   exact⟨i,hil,(AL this).symm⟩
  have hin:∀ i,i < T.cs.length->jz (putAllT [] (Xn T au T.cs.length)) (we (T.cs.getD i d0))=some (.ref (au i)):=fun i hil=>WX (Xn T au T.cs.length) [] (we (T.cs.getD i d0),.ref (au i)) (ct_nd nT) (AS.mpr ⟨i,BN.mpr hil,rfl⟩)
  refine⟨D,ys,_,rfl,hD1,hP,fun e he=>q e _ (s1.trans (zd he _)) ⟨_,zc,fun cc hcc=>?_⟩ ⟨_,zc,fun cc hcc=>?_,fun k u hk=>?_⟩⟩
  ·obtain⟨i,hil,en⟩:=hat cc hcc
   refine⟨au i,?_,?_⟩
   ·rw[<- en]
    exact hin i hil
   ·rw[<- en]
    exact (s1.trans (zd he _)) _ _ (gx i hil).2.2
  ·obtain⟨i,hil,en⟩:=hat cc hcc
   rw[<- en]
   exact⟨_,hin i hil⟩
  ·rcases XR _ _ hk with z | z
   ·rw[Xp] at z
    obtain⟨c,hc,rfl⟩:=AS.mp z
    exact⟨c,hc,rfl⟩
   ·cases z
abbrev jt:Stmt:=top 21
theorem Zf:zv ["shapes", "parts", "part"] ["shapes", "parts"] (zg jt):=⟨rfl,rfl,rfl,by decide +kernel,rfl,by decide +kernel,by decide +kernel⟩
theorem Jd {P:Program} {w:World} {K:PySem.W.Frag} {mg:Str->Option Value} {base:Heap} {f:Addr} {fd:FuncData} (F:Fun K "check_names" "check_names" jt f fd) (gb:Gb mg) {c:Nat->Addr} (cl:Cl K mg c) (d_is_letter:Def P w K mg base 2 "is_letter" ["thing"] W8) (d_init_NoName:DefI P w K mg base 2 (c 3) "name" ["self", "name"]):jj P w K mg base (CXD P w) 4 f fd ["shapes", "parts"] (XT (c 3)):=by
 refine F.okD Zf (fun vs H Q E h=>?_) (fun cdv A outer s H vs Q E hr h=>?_)
 ·obtain⟨e',l,us,ss,T,rfl,_⟩:=h
  rfl
 obtain⟨e',l,us,ss,T,rfl,hcd,hl,hP,hL,q1,q0⟩:=h
 refine⟨_,(@zi _ _ _ (@jv _ _ _ _ _ _ _ _ PassesOwn.leaving rfl (@zP _ K _ _ _ (@pw _ 1 _ _ rfl rfl) rfl) (@pgl _ 2 _ _ Zf.nd rfl rfl) (@zi _ _ _ (@qZ _ _ _ _ _ _ _ _ (@PW.pt _ _ _ (@Zl _ _ _ _ _ _ _ (@QG _ _ _ _ (@jW _ _ _ (@zm _ _ _ _ _ _ _ _ _ _ _ d_is_letter hr (by omega) rfl (@za _ _ _ _ _ (@pw _ 2 _ _ rfl rfl) (@zb _) rfl) (by decide) rfl rfl) (by intro _;rfl))) (@jD _ _ _ _ (@zx _ _ _ _ _ _ _ _ (@Wb _ _ hr) (@zI _ _ _ _ _ (@za _ _ _ _ _ (@zu _ _ _ _ _ _ _ (@zh _ K rfl) (@pw _ 2 _ _ rfl rfl) (@zf _ _ _ _) (fun _ _=>rfl)) (@za _ _ _ _ _ (@zC _ _ _ _ _ _ _ _ (@wB _) (@zo _ _ _ _ _ _ _ _ _ (@zN _ K rfl) rfl gb.len qM (@za _ _ _ _ _ (@pw _ 2 _ _ rfl rfl) (@zb _) rfl) (by decide) (by decide) rfl rfl) (@zf _ _ _ _)) (@zb _) rfl) rfl)) (@pw _ 0 _ _ rfl rfl) (by with_unfolding_all rfl))))) (@zi _ _ _ (@XB _ _ _ _ _ _ _ _ _ _ _ _ _ _ d_init_NoName rfl cl.g_NoName cl.xi_NoName hr (by omega) rfl rfl (@thrownD _ _ _ _ _ _ _ _ _ _ _ _ _ _ _) (@za _ _ _ _ _ (@zu _ _ _ _ _ _ _ (@zh _ K rfl) (@pw _ 2 _ _ rfl rfl) (@zf _ _ _ _) (fun _ _=>rfl)) (@zb _) rfl) (by decide) rfl rfl)) (@zM _))) (by intro _;rfl))),?_⟩
 refine⟨_,rfl,l,rfl,⟨_,SqL.of hl⟩,?_⟩
 have hlen:=Aw hP
 refine jm (xs:=us) (fun i σ H'=>(∃ x2,σ=[some (.ref e'),some (.ref l),x2])/\zB H H'/\∀ (j:Nat) (y:Sy),j < i->ss[j]? = some y->Kn T y) ⟨⟨_,rfl⟩,zB.refl _,(fun j y hj=>absurd hj (BX _))⟩ (fun i σ H' _ h=>SqL.of (h.2.1 _ _ hl)) ?_ (fun σ H' h=>q1 (fun s hs=>by obtain⟨j,hj⟩:=BM.mp hs;exact h.2.2 j s (by have:=(AE.mp hj).1;omega) hj) H' h.2.1)
 rintro i x σ H1 hx ⟨⟨x2,rfl⟩,s1,kn⟩
 have hi:=(AE.mp hx).1
 have hsi:ss[i]? = some ss[i]:=AK (by omega)
 generalize ss[i]=z at hsi
 have iz:=Paired.at hP i _ _ hsi hx
 have kn1:Kn T z->∀ j y,j < i+1->ss[j]? = some y->Kn T y:=fun h j y hj hy=>by
  rcases Cj j i with e | e
  ·exact kn j y e hy
  ·have:j=i:=by omega
   rw[this,hsi] at hy
   rw[<- AL hy]
   exact h
 refine⟨_,rfl,x,z,rfl,iz.same s1,hL z (AV hsi),fun H2 s2=>⟨_,rfl,?_⟩⟩
 cases hs:z.isL with
 | true=>exact⟨⟨_,rfl⟩,s1.trans s2,kn1 (.inl hs)⟩
 | false=>
  obtain⟨t,us2,ev,ht,hP2⟩:=iz.node hs
  have hul:=Aw hP2
  have ht2:=s2 _ _ (s1 _ _ ht)
  rw[ev]
  obtain⟨kvs,hk,hv,hw⟩:=(hcd.same s1).same s2
  refine⟨_,rfl,.inr (.inl ⟨t,_,_,_,rfl,rfl,SqT.of ht2,at0,_,rfl,_,_,rfl,.inr ⟨_,SqT.of ht2,rfl⟩,_,_,rfl,rfl,zj (by show 2<=1000;decide),fun t3 ht3=>?_⟩)⟩
  have el:V.int (((.str z.nm :: us2:List V).length:Int) - 1)=.int ((z.ps.length:Nat):Int):=by
   rw[Ab,<- hul]
   show V.int _=V.int _
   congr 1
   omega
  dsimp only
  rw[el]
  have n3:=zd ht3 (.tup [.str z.nm,.int ((z.ps.length:Nat):Int)])
  have S3:=s1.trans (s2.trans n3)
  refine⟨_,rfl,e',t3,kvs,[Sum.inr z.nm,Sum.inl ((z.ps.length:Nat):Int)],rfl,rfl,n3 _ _ hk,zc,?_⟩
  by_cases hz:Kn T z
  ·obtain⟨c,hc,cn,cp⟩:=hz.elim (fun e=>by rw[hs] at e;cases e) id
   obtain⟨u,e1⟩:=hv c hc
   have ek:([Sum.inr z.nm,Sum.inl ((z.ps.length:Nat):Int)]:List Key)=we c:=by
    unfold we
    rw[cn,cp]
   rw[ek,e1]
   exact⟨_,rfl,⟨⟨_,rfl⟩,S3,kn1 (.inr ⟨c,hc,cn,cp⟩)⟩⟩
  ·have en:jz kvs [Sum.inr z.nm,Sum.inl ((z.ps.length:Nat):Int)]=none:=by
    cases e:jz kvs [Sum.inr z.nm,Sum.inl ((z.ps.length:Nat):Int)] with
    | none=>rfl
    | some u=>
     obtain⟨c,hc,ek⟩:=hw _ _ e
     unfold we at ek
     obtain⟨k1,k2⟩:=DY ek
     have k3:=Sum.inl.inj (DY k2).1
     exact absurd (.inr ⟨c,hc,(Cv k1).symm,by omega⟩) hz
   rw[en]
   refine⟨_,rfl,?_⟩
   have ht4:=n3 _ _ ht2
   refine YN ⟨_,rfl,.inr (.inl ⟨t,_,_,_,rfl,rfl,SqT.of ht4,at0,.str z.nm,rfl,fun d hd=>?_⟩)⟩
   exact q0 z.nm ⟨i,z,hsi,kn,hz,rfl⟩ d _ S3 hd
abbrev Qh:Stmt:=top 27
theorem ZF:zv ["T", "premises", "S", "sayings", "saying"] ["T", "premises", "S"] (zg Qh):=⟨rfl,rfl,rfl,by decide +kernel,rfl,by decide +kernel,by decide +kernel⟩
theorem yg {P:Program} {w:World} {K:PySem.W.Frag} {mg:Str->Option Value} {base:Heap} {f:Addr} {fd:FuncData} (F:Fun K "follows" "follows" Qh f fd) (gb:Gb mg) {c:Nat->Addr} (cl:Cl K mg c) (d_check_namesX:DefD P w K mg base 4 "check_names" ["shapes", "parts"] (XT (c 3))) (d_cells_by_nameX:Def P w K mg base 1 "cells_by_name" ["H"] XS) (d_written_parts:Def P w K mg base 3 "written_parts" ["S"] Wo) (d_letters_of_all:Def P w K mg base 4 "letters_of_all" ["sayings"] QE) (d_answer_by:Def P w K mg base 28 "answer_by" ["T", "premises", "S", "letters", "sets"] (Z2 6)):jj P w K mg base (CXD P w) 30 f fd ["T", "premises", "S"] (XU (c 3)):=by
 refine F.okD ZF (fun vs H Q E h=>?_) (fun cdv A outer s H vs Q E hr h=>?_)
 ·obtain⟨v,pl,sv,T,ps,S,nm,rfl,_⟩:=h
  rfl
 obtain⟨v,pl,sv,T,ps,S,nm,rfl,tb,gT,nT,hpl,pn,hall,hbad,q⟩:=h
 refine⟨_,(@ze _ _ _ _ _ (@zt _ _ 3 _ _ _ _ ZF.nd rfl (Or.inl rfl) (@zC _ _ _ _ _ _ _ _ (@ZM _) (@zE _ _ _ _ _ _ _ _ _ (@qT _ K rfl) rfl gb.list Zw (@za _ _ _ _ _ (@pw _ 1 _ _ rfl rfl) (@zb _) rfl) (by decide) (by decide) rfl rfl) (@zK _ _ _ _ (@za _ _ _ _ _ (@pw _ 2 _ _ rfl rfl) (@zb _) rfl))) rfl (by walk_at "f")) (@ze _ _ _ _ _ (@jv _ _ _ _ _ _ _ _ PassesOwn.leaving rfl (@zP _ K _ _ _ (@pw _ 3 _ _ rfl rfl) rfl) (@pgl _ 4 _ _ ZF.nd rfl rfl) (@zi _ _ _ (@qY _ _ _ _ (@pe_defPD _ _ _ _ _ _ _ _ _ _ _ _ d_check_namesX hr (by omega) rfl (@passD _ _ _ _ _ _ _ _ _ _ _ _ _ _ _ _ (fun _ _ _ z=>z)) (@za _ _ _ _ _ (@zm _ _ _ _ _ _ _ _ _ _ _ d_cells_by_nameX hr (by omega) rfl (@za _ _ _ _ _ (@pw _ 0 _ _ rfl rfl) (@zb _) rfl) (by decide) rfl rfl) (@za _ _ _ _ _ (@zm _ _ _ _ _ _ _ _ _ _ _ d_written_parts hr (by omega) rfl (@za _ _ _ _ _ (@pw _ 4 _ _ rfl rfl) (@zb _) rfl) (by decide) rfl rfl) (@zb _) rfl) rfl) (by decide) rfl rfl) rfl)) (by intro _;rfl)) (@zi _ _ _ (@zA _ _ _ _ (@zm _ _ _ _ _ _ _ _ _ _ _ d_answer_by hr (by omega) rfl (@za _ _ _ _ _ (@pw _ 0 _ _ rfl rfl) (@za _ _ _ _ _ (@pw _ 1 _ _ rfl rfl) (@za _ _ _ _ _ (@pw _ 2 _ _ rfl rfl) (@za _ _ _ _ _ (@zm _ _ _ _ _ _ _ _ _ _ _ d_letters_of_all hr (by omega) rfl (@za _ _ _ _ _ (@pw _ 3 _ _ rfl rfl) (@zb _) rfl) (by decide) rfl rfl) (@za _ _ _ _ _ (@yD _ _) (@zb _) rfl) rfl) rfl) rfl) rfl) (by decide) rfl rfl))))),?_⟩
 refine⟨_,rfl,pl,_,rfl,.inl (SqL.of hpl),fun l1 hl1=>?_⟩
 have n1:=zd hl1 (.lst (ps.map Prod.fst))
 refine⟨_,rfl,zj (by show 1<=1000;decide),fun l2 hl2=>?_⟩
 have n2:=zd hl2 (.lst [sv])
 refine⟨l1,l2,_,_,rfl,rfl,n2 _ _ zc,zc,by rw[AC];exact zj (by show ps.length+1<=1000;omega),fun l3 hl3=>?_⟩
 have n3:=zd hl3 (.lst (ps.map Prod.fst++[sv]))
 have eq3:(ps++[(sv,S)]).map Prod.fst=ps.map Prod.fst++[sv]:=by rw[AM];rfl
 have hl3':=@zc (upd (upd H l1 (.lst (ps.map Prod.fst))) l2 (.lst [sv])) l3 (.lst (ps.map Prod.fst++[sv]))
 rw[<- eq3] at hl3' n3 ⊢
 have S3:=n1.trans (n2.trans n3)
 generalize upd (upd (upd H l1 (.lst (ps.map Prod.fst))) l2 (.lst [sv])) l3 (.lst ((ps++[(sv,S)]).map Prod.fst))=H3 at *
 refine⟨_,rfl,l3,rfl,⟨_,SqL.of hl3'⟩,?_⟩
 refine jm (xs:=(ps++[(sv,S)]).map Prod.fst) (fun i σ H'=>(∃ x4,σ=[some v,some (.ref pl),some sv,some (.ref l3),x4])/\zB H3 H'/\∀ (j:Nat) (y:V×Sy),j < i->(ps++[(sv,S)])[j]? = some y->∀ a ∈ y.2.sub,Kn T a) ⟨⟨_,rfl⟩,zB.refl _,(fun j y hj=>absurd hj (BX _))⟩ (fun i σ H' _ h=>SqL.of (h.2.1 _ _ hl3')) ?_ ?_
 ·rintro i x σ H4 hx ⟨⟨x4,rfl⟩,s4,kn⟩
  rw[AW] at hx
  obtain⟨z,hzi,rfl⟩:=Ac.mp hx
  obtain⟨iz,lz,z63⟩:=hall z (AV hzi)
  refine⟨_,rfl,v,T,rfl,tb.same (S3.trans s4),gT,nT,fun e' H5 s5 _ hc=>⟨_,rfl,z.1,z.2,rfl,iz.same (S3.trans (s4.trans s5)),lz,z63,fun l us H6 s6 hl hP=>⟨e',l,us,z.2.sub,T,rfl,hc.same s6,hl,hP,(fun s hs h=>(Zd.sub lz hs).isl h),fun hk H7 s7=>⟨⟨_,rfl⟩,s4.trans (s5.trans (s6.trans s7)),fun j y hj hy=>?_⟩,fun nm' hb d H' s' hd=>?_⟩⟩⟩
  ·rcases Cj j i with e | e
   ·exact kn j y e hy
   ·have:j=i:=by omega
    rw[this,hzi] at hy
    rw[<- AL hy]
    exact hk
  ·have e:=XQ hbad ⟨i,z,hzi,kn,hb⟩
   rw[<- e]
   exact q d H' (S3.trans (s4.trans (s5.trans (s6.trans s')))) hd
 ·rintro σ H4 ⟨⟨x4,rfl⟩,s4,kn⟩
  obtain⟨i,z,h1,_,h3⟩:=hbad
  rw[AC] at kn
  exact (yc h3 (kn i z (AE.mp h1).1 h1)).elim
abbrev Qi:Stmt:=top 31
theorem jM:zv ["_law_cell", "_law_rest", "_law_one"] ["_law_cell"] (zg Qi):=⟨rfl,rfl,rfl,by decide +kernel,rfl,by decide +kernel,by decide +kernel⟩
theorem yh {P:Program} {w:World} {K:PySem.W.Frag} {mg:Str->Option Value} {base:Heap} {f:Addr} {fd:FuncData} (F:Fun K "_law_pool" "_law_pool" Qi f fd) (gb:Gb mg) {c:Nat->Addr} (cl:Cl K mg c):jj P w K mg base CX0 1 f fd ["_law_cell"] xz:=by
 refine F.ok jM (fun vs H Q E h=>?_) (fun cdv A outer s H vs Q E hr h=>?_)
 ·obtain⟨c,rfl,_⟩:=h
  rfl
 obtain⟨c,rfl,q⟩:=h
 refine⟨_,(@ze _ _ _ _ _ (@zt _ _ 1 _ _ _ _ jM.nd rfl (Or.inl rfl) (@zf _ _ _ _) rfl (by walk_at "f")) (@ze _ _ _ _ _ (@qZ _ _ _ _ _ _ _ _ (@PW.pt _ _ _ (@pw_or _ _ _ _ _ _ _ (@zx _ _ _ _ _ _ _ _ (@op_lt _) (@pw _ 0 _ _ rfl rfl) (@zf _ _ _ _) (@zH _ _ (by decide) (by decide))) (@pw_or1 _ _ _ _ (@zx _ _ _ _ _ _ _ _ (@op_ge _) (@pw _ 0 _ _ rfl rfl) (@zC _ _ _ _ _ _ _ _ (@op_pow _) (@zf _ _ _ _) (@zf _ _ _ _)) (@zH _ _ (by decide) (by decide)))))) (@zi _ _ _ (@zt _ _ 1 _ _ _ _ jM.nd rfl (Or.inl rfl) (@zo _ _ _ _ _ _ _ _ _ (@call_abs _) rfl gb.abs bt_abs (@za _ _ _ _ _ (@pw _ 0 _ _ rfl rfl) (@zb _) rfl) (by decide) (by decide) rfl rfl) rfl (by walk_at "f"))) (@zM _)) (@ze _ _ _ _ _ (@zt _ _ 2 _ _ _ _ jM.nd rfl (Or.inl rfl) (@zC _ _ _ _ _ _ _ _ (@Ql _) (@pw _ 0 _ _ rfl rfl) (@zf _ _ _ _)) rfl (by walk_at "f")) (@zi _ _ _ (@zA _ _ _ _ (@zK _ _ _ _ (@za _ _ _ _ _ (@pw _ 1 _ _ rfl rfl) (@za _ _ _ _ _ (@pw _ 2 _ _ rfl rfl) (@za _ _ _ _ _ (@zC _ _ _ _ _ _ _ _ (@Ql _) (@zC _ _ _ _ _ _ _ _ (@ja _) (@zC _ _ _ _ _ _ _ _ (@ZK _) (@pw _ 2 _ _ rfl rfl) (@zf _ _ _ _)) (@zf _ _ _ _)) (@zf _ _ _ _)) (@zb _) rfl) rfl) rfl))))))),?_⟩
 walk_at "rd"
 refine Z5 (fun c1=>?_) (fun c1=>?_)
 ·walk_at "rd"
  exact⟨zj (by show 3<=1000;decide),fun p hp=>q p _ _ _ hp⟩
 ·walk_at "rd"
  refine Z5 (fun c2=>?_) (fun c2=>?_)
  ·walk_at "rd"
   exact⟨zj (by show 3<=1000;decide),fun p hp=>q p _ _ _ hp⟩
  ·walk_at "rd"
   exact⟨zj (by show 3<=1000;decide),fun p hp=>q p _ _ _ hp⟩
abbrev Qj:Stmt:=top 32
theorem Je:zv ["_law_pool_here", "_law_many", "_law_found"] ["_law_pool_here", "_law_many"] (zg Qj):=⟨rfl,rfl,rfl,by decide +kernel,rfl,by decide +kernel,by decide +kernel⟩
theorem yi {P:Program} {w:World} {K:PySem.W.Frag} {mg:Str->Option Value} {base:Heap} {f:Addr} {fd:FuncData} (F:Fun K "_law_draw" "_law_draw" Qj f fd) (gb:Gb mg) {c:Nat->Addr} (cl:Cl K mg c):jj P w K mg base CX0 1 f fd ["_law_pool_here", "_law_many"] j4:=by
 refine F.ok Je (fun vs H Q E h=>?_) (fun cdv A outer s H vs Q E hr h=>?_)
 ·obtain⟨p,m,rfl,_⟩:=h
  rfl
 obtain⟨p,m,rfl,⟨r,a,b,hp⟩,m0,m1,q⟩:=h
 refine⟨_,(@ze _ _ _ _ _ (@qZ _ _ _ _ _ _ _ _ (@zx _ _ _ _ _ _ _ _ (@op_gt _) (@zu _ _ _ _ _ _ _ (@zh _ K rfl) (@pw _ 0 _ _ rfl rfl) (@zf _ _ _ _) (fun _ _=>rfl)) (@zf _ _ _ _) (@zH _ _ (by decide) (by decide))) (@ze _ _ _ _ _ (@zt _ _ 2 _ _ _ _ Je.nd rfl (Or.inl rfl) (@zC _ _ _ _ _ _ _ _ (@Ql _) (@zu _ _ _ _ _ _ _ (@zh _ K rfl) (@pw _ 0 _ _ rfl rfl) (@zf _ _ _ _) (fun _ _=>rfl)) (@pw _ 1 _ _ rfl rfl)) rfl (by walk_at "f")) (@ze _ _ _ _ _ (@Qk _ _ _ _ _ _ (@zC _ _ _ _ _ _ _ _ (@Y1 _) (@zu _ _ _ _ _ _ _ (@zh _ K rfl) (@pw _ 0 _ _ rfl rfl) (@zf _ _ _ _) (fun _ _=>rfl)) (@pw _ 1 _ _ rfl rfl)) (@YX _ _ _ _ _ _ _ (@pw _ 0 _ _ rfl rfl) (@zf _ _ _ _) (@JS _) (by intro _;rfl)) rfl rfl rfl) (@zi _ _ _ (@zA _ _ _ _ (@pw _ 2 _ _ rfl rfl))))) (@zM _)) (@ze _ _ _ _ _ (@Qk _ _ _ _ _ _ (@zC _ _ _ _ _ _ _ _ (@Ql _) (@zC _ _ _ _ _ _ _ _ (@ja _) (@zC _ _ _ _ _ _ _ _ (@ja _) (@zC _ _ _ _ _ _ _ _ (@ZK _) (@zu _ _ _ _ _ _ _ (@zh _ K rfl) (@pw _ 0 _ _ rfl rfl) (@zf _ _ _ _) (fun _ _=>rfl)) (@zf _ _ _ _)) (@zu _ _ _ _ _ _ _ (@zh _ K rfl) (@pw _ 0 _ _ rfl rfl) (@zf _ _ _ _) (fun _ _=>rfl))) (@zf _ _ _ _)) (@zf _ _ _ _)) (@YX _ _ _ _ _ _ _ (@pw _ 0 _ _ rfl rfl) (@zf _ _ _ _) (@JS _) (by intro _;rfl)) rfl rfl rfl) (@ze _ _ _ _ _ (@Qk _ _ _ _ _ _ (@zC _ _ _ _ _ _ _ _ (@Ql _) (@zC _ _ _ _ _ _ _ _ (@ja _) (@zC _ _ _ _ _ _ _ _ (@ja _) (@zC _ _ _ _ _ _ _ _ (@ZK _) (@zu _ _ _ _ _ _ _ (@zh _ K rfl) (@pw _ 0 _ _ rfl rfl) (@zf _ _ _ _) (fun _ _=>rfl)) (@zf _ _ _ _)) (@zC _ _ _ _ _ _ _ _ (@Ql _) (@zC _ _ _ _ _ _ _ _ (@ZK _) (@zu _ _ _ _ _ _ _ (@zh _ K rfl) (@pw _ 0 _ _ rfl rfl) (@zf _ _ _ _) (fun _ _=>rfl)) (@zu _ _ _ _ _ _ _ (@zh _ K rfl) (@pw _ 0 _ _ rfl rfl) (@zf _ _ _ _) (fun _ _=>rfl))) (@zf _ _ _ _))) (@zf _ _ _ _)) (@zf _ _ _ _)) (@YX _ _ _ _ _ _ _ (@pw _ 0 _ _ rfl rfl) (@zf _ _ _ _) (@JS _) (by intro _;rfl)) rfl rfl rfl) (@zi _ _ _ (@zA _ _ _ _ (@zC _ _ _ _ _ _ _ _ (@Ql _) (@zC _ _ _ _ _ _ _ _ (@Y1 _) (@zC _ _ _ _ _ _ _ _ (@ja _) (@zu _ _ _ _ _ _ _ (@zh _ K rfl) (@pw _ 0 _ _ rfl rfl) (@zf _ _ _ _) (fun _ _=>rfl)) (@zC _ _ _ _ _ _ _ _ (@ZK _) (@zf _ _ _ _) (@zu _ _ _ _ _ _ _ (@zh _ K rfl) (@pw _ 0 _ _ rfl rfl) (@zf _ _ _ _) (fun _ _=>rfl)))) (@zf _ _ _ _)) (@pw _ 1 _ _ rfl rfl))))))),?_⟩
 walk_at "rd"
 refine Z5 (fun c=>?_) (fun c=>?_)
 ·walk_at "rd"
  exact q _ _ (DJ _ (by omega)) (Cq _ m0) Off.put ⟨_,_,_,zc⟩
 ·walk_at "rd"
  exact q _ _ (DJ _ (by omega)) (Cq _ m0) (Off.put.trans Off.put) ⟨_,_,_,zc⟩
abbrev qX:Stmt:=top 33
theorem jh:zv ["_law_pool_here", "_law_names", "_law_letters_here", "_law_name_here", "_law_some"] ["_law_pool_here", "_law_names"] (zg qX):=⟨rfl,rfl,rfl,by decide +kernel,rfl,by decide +kernel,by decide +kernel⟩
theorem inV_str (s:Str) (ns:List Str):inV (.str s) (ns.map V.str)=decide (s ∈ ns):=by
 induction ns with
 | nil=>rfl
 | cons n ns ih=>
  have e:inV (.str s) ((n :: ns).map V.str)=((n == s) || inV (.str s) (ns.map V.str)):=rfl
  rw[e,ih]
  by_cases h:s=n
  ·subst h;simp
  ·have h':(n == s)=false:=by simpa using fun z=>h z.symm
   rw[h',Bool.false_or]
   simp[h]
theorem XX (ns:List Str):(ns.map V.str).all Zv=true:=by
 rw[A7]
 intro x hx
 obtain⟨n,_,rfl⟩:=AS.mp hx
 rfl
theorem qk.same {H H':Hp} {p:Addr} (h:qk H p) (s:zB H H'):qk H' p:=by
 obtain⟨r,a,b,e⟩:=h
 exact⟨r,a,b,s _ _ e⟩
theorem Wx {K:PySem.W.Frag} {p l:Addr} {ns:List Str} {Q:VK} {H:Hp} {z:Str} (hz:j7 z) (pl:qk H p) (hl:H l=some (.lst (ns.map .str))) (hn:ns.length<=8) (q:∀ x H',zB H H'->x ∉ ns->j7 x->Q (.str x) H') :
  tSeq
   (tAsg (tOp rCat (tLst (tCons (YT 3) tNil)) (tComp [none,some 3] (iStr (YT 2)) (jU 0) tYes (tOp (fun x y H Q=>∃ i j,x=V.str i/\y=V.str j/\i.length+j.length<=sizeLine/\Q (V.str (i++j)) H) (tSl (fun x lo hi H Q=>rSlL K x lo hi H Q\/rSlT K x lo hi H Q\/rSlS x lo hi H Q) (YT 1) xk (tPart (tC (V.int 7)))) (YT 0)))) (jU 4))
   (tRet (tOp (rIx K) (tComp [none,some 1] (iList K (YT 4)) (jU 0) (tTest (tOp (rIn K true) (YT 0) (YT 1))) (YT 0)) (tC (V.int 0))))
   { nx:=fun _ H'=>Q V.non H',rt:=Q } [some (.ref p),some (.ref l),some (.str jr),some (.str z),none] H:=by
 refine⟨_,rfl,zj (by show 1<=1000;decide),fun g hg=>?_⟩
 refine⟨_,rfl,jr,rfl,fun D hD=>?_⟩
 have g1:zB H (upd H g (.lst [.str z])):=zd hg _
 refine yv (fun i ys H'=>zB (upd H g (.lst [.str z])) H'/\ys=(jr.cps.toList.take i).map fun c=>V.str (yB (PySem.Txt.slice z none (some 7)) c)) ⟨zd hD _,rfl⟩ ?_ ?_
 ·rintro i ys H' c hc ⟨s1,rfl⟩ hD'
  have hi:i < jr.cps.size:=(Bl.mp hc).1
  have hi26:i < 26:=by have:=Zc;simp at this;omega
  refine yes ?_
  have hsl:=CP z none (some 7)
  have hz8:=hz.2.1
  refine⟨_,rfl,_,rfl,.inr (.inr ⟨z,rfl,zj (by omega),_,rfl,_,_,rfl,rfl,?_,?_⟩)⟩
  ·refine zj ?_
   have e1:(Str.mk #[c]).length=1:=rfl
   rw[e1]
   omega
  ·refine Jf hi qS hD' ?_ ⟨fun b o qb=>?_,?_⟩
   ·rw[AC,AZ]
    exact zq (by omega)
   ·rw[zk (zr qb hD)]
    exact s1 b o qb
   ·rw[take_snoc (show jr.cps.toList[i]? = some c by simpa using hc),AM]
    rfl
 ·rintro ys H' ⟨s1,rfl⟩ hD'
  rw[A8 (by simp)] at hD'
  refine⟨g,D,_,_,rfl,rfl,s1 _ _ zc,hD',?_,fun e he=>?_⟩
  ·rw[AC,Zc]
   exact zj (by show 1+26<=1000;decide)
  have s2:zB H (upd H' e (.lst ([.str z]++(jr.cps.toList.map fun c=>V.str (yB (PySem.Txt.slice z none (some 7)) c))))):=(g1.trans s1).trans (zd he _)
  have ec:(.lst ([.str z]++(jr.cps.toList.map fun c=>V.str (yB (PySem.Txt.slice z none (some 7)) c))):HO)=.lst ((z :: jr.cps.toList.map (yB (PySem.Txt.slice z none (some 7)))).map V.str):=by
   rw[AQ,A2]
   rfl
  generalize hcs:(z :: jr.cps.toList.map (yB (PySem.Txt.slice z none (some 7))))=cs at ec
  have hcl:cs.length=27:=by rw[<- hcs,Ab,AC,Zc]
  rw[ec] at s2 ⊢
  refine⟨_,rfl,e,rfl,⟨_,SqL.of zc⟩,fun D2 hD2=>?_⟩
  refine jy (xs:=cs.map V.str) (fun i ys H2=>zB (upd H' e (.lst (cs.map V.str))) H2/\ys=((cs.take i).filter fun s=>decide (s ∉ ns)).map V.str) ⟨zd hD2 _,rfl⟩ (fun i ys H2 h _=>SqL.of (h.1 _ _ zc)) ?_ ?_
  ·rintro i ys H2 x hx ⟨s3,rfl⟩ hD3
   have hi:i < (cs.map V.str).length:=(AE.mp hx).1
   rw[AW] at hx
   obtain⟨s,hs,rfl⟩:=Ac.mp hx
   refine⟨_,rfl,_,rfl,l,_,rfl,.inl (SqL.of (s3 _ _ (s2 _ _ hl))),rfl,XX ns,_,rfl,?_⟩
   rw[inV_str]
   have keep:∀ (o:HO),zB (upd H' e (.lst (cs.map V.str))) (upd H2 D2 o):=fun o b u qb=>by
    rw[zk (zr qb hD2)]
    exact s3 b u qb
   have hlen:(((cs.take i).filter fun s=>decide (s ∉ ns)).map V.str).length < sizeLine:=by
    rw[AC]
    refine zq ?_
    have h1:=B9 (fun s=>decide (s ∉ ns)) (cs.take i)
    rw[AZ] at h1
    omega
   refine Z5 (fun c=>?_) (fun c=>?_)
   ·have hm:s ∉ ns:=by simpa using c
    refine⟨_,rfl,Jf hi qS hD3 hlen ⟨keep _,?_⟩⟩
    rw[take_snoc hs,Bd,AM]
    simp[hm]
   ·have hm:s ∈ ns:=by simpa using c
    refine cno hi qS hD3 ⟨s3,?_⟩
    rw[take_snoc hs,Bd]
    simp[hm]
  ·rintro ys H2 ⟨s3,rfl⟩ hD3
   rw[AC,Aq] at hD3
   obtain⟨c,hc,hnew⟩:=pick_new (PySem.Txt.slice z none (some 7)) jr.cps.toList alpha_nd ns (by rw[Zc];omega)
   have hmem:yB (PySem.Txt.slice z none (some 7)) c ∈ cs.filter fun s=>decide (s ∉ ns):=by
    rw[<- hcs]
    exact Bu.mpr ⟨AU _ (AS.mpr ⟨c,hc,rfl⟩),by simpa using hnew⟩
   cases hf:cs.filter (fun s=>decide (s ∉ ns)) with
   | nil=>rw[hf] at hmem;cases hmem
   | cons s0 rest=>
    rw[hf] at hD3
    have hs0:s0 ∉ ns:=by
     have:s0 ∈ cs.filter fun s=>decide (s ∉ ns):=by rw[hf];exact AO
     simpa using (Bu.mp this).2
    have hn0:j7 s0:=by
     have hm0:s0 ∈ cs.filter fun s=>decide (s ∉ ns):=by rw[hf];exact AO
     have hm1:=(Bu.mp hm0).1
     rw[<- hcs] at hm1
     rcases AR.mp hm1 with e1 | hm2
     ·rw[e1]
      exact hz
     ·obtain⟨c',hc',e1⟩:=AS.mp hm2
      rw[<- e1]
      exact xC hz (ZD c' hc').1 (ZD c' hc').2
    exact .inl ⟨D2,_,0,_,rfl,rfl,SqL.of hD3,qQ (j:=0) rfl,q s0 H2 (s2.trans s3) hs0 hn0⟩
theorem yj {P:Program} {w:World} {K:PySem.W.Frag} {mg:Str->Option Value} {base:Heap} {f:Addr} {fd:FuncData} (F:Fun K "_law_name" "_law_name" qX f fd) (gb:Gb mg) {c:Nat->Addr} (cl:Cl K mg c) (d_law_draw:Def P w K mg base 1 "_law_draw" ["_law_pool_here", "_law_many"] j4):jj P w K mg base CX0 2 f fd ["_law_pool_here", "_law_names"] XC:=by
 refine F.ok jh (fun vs H Q E h=>?_) (fun cdv A outer s H vs Q E hr h=>?_)
 ·obtain⟨p,l,ns,rfl,_⟩:=h
  rfl
 obtain⟨p,l,ns,rfl,pl,hl,hn,q⟩:=h
 have nd0:(["_law_k", "_law_letters_here", "_law_pool_here"]:List Str).Nodup:=by decide +kernel
 have nd1:(["_law_sign", "_law_name_here"]:List Str).Nodup:=by decide +kernel
 have nd2:(["_law_one", "_law_names"]:List Str).Nodup:=by decide +kernel
 refine⟨_,(@ze _ _ _ _ _ (@zt _ _ 2 _ _ _ _ jh.nd rfl (Or.inr rfl) (@ql _ _ _ _) rfl (by walk_at "f")) (@ze _ _ _ _ _ (@zt _ _ 3 _ _ _ _ jh.nd rfl (Or.inr rfl) (@ZP _ K _ _ _ _ _ _ _ _ _ _ _ PySem.F.plainAttrs_str PySem.F.slot_str_join PySem.F.type_str_join (@kmt_join _ K rfl) (@ql _ _ _ _) (@za _ _ _ _ _ (@zY _ ["_law_k", "_law_letters_here", "_law_pool_here"] [none,some 2,some 0] _ _ _ _ _ _ _ _ _ _ (by exact (show zF ["_law_pool_here", "_law_names", "_law_letters_here", "_law_name_here", "_law_some"] (zg qX) ["_law_k", "_law_letters_here", "_law_pool_here"] [none,some 2,some 0] _ from⟨rfl,by decide +kernel,by decide +kernel,by decide +kernel,by decide +kernel,rfl,by decide +kernel⟩)) rfl (@qe _ _ _ _ _ _ rfl gb.range (@za _ _ _ _ _ (@zC _ _ _ _ _ _ _ _ (@ja _) (@zf _ _ _ _) (@zm _ _ _ _ _ _ _ _ _ _ _ d_law_draw hr (by omega) rfl (@za _ _ _ _ _ (@pw _ 0 _ _ rfl rfl) (@za _ _ _ _ _ (@zf _ _ _ _) (@zb _) rfl) rfl) (by decide) rfl rfl)) (@zb _) rfl) rfl) (fun _ _ _ _=>(@pgl _ 0 _ _ nd0 rfl rfl)) (fun _ _ _ _=>(@qC _)) (fun _ _ _ _=>(@zu _ _ _ _ _ _ _ (@zh _ K rfl) (@pw _ 1 _ _ rfl rfl) (@zm _ _ _ _ _ _ _ _ _ _ _ d_law_draw hr (by omega) rfl (@za _ _ _ _ _ (@pw _ 2 _ _ rfl rfl) (@za _ _ _ _ _ (@zf _ _ _ _) (@zb _) rfl) rfl) (by decide) rfl rfl) (fun _ _=>rfl))) (by intro _;rfl)) (@zb _) rfl) rfl rfl rfl rfl rfl rfl) rfl (by walk_at "f")) (@ze _ _ _ _ _ (@qZ _ _ _ _ _ _ _ _ (@zx _ _ _ _ _ _ _ _ (@Zj _) (@zm _ _ _ _ _ _ _ _ _ _ _ d_law_draw hr (by omega) rfl (@za _ _ _ _ _ (@pw _ 0 _ _ rfl rfl) (@za _ _ _ _ _ (@zf _ _ _ _) (@zb _) rfl) rfl) (by decide) rfl rfl) (@zf _ _ _ _) (@zH _ _ (by decide) (by decide))) (@zi _ _ _ (@zt _ _ 3 _ _ _ _ jh.nd rfl (Or.inr rfl) (@zu _ _ _ _ _ _ _ (@zh _ K rfl) (@zK _ _ _ _ (@za _ _ _ _ _ (@ql _ _ _ _) (@za _ _ _ _ _ (@ql _ _ _ _) (@zb _) rfl) rfl)) (@zm _ _ _ _ _ _ _ _ _ _ _ d_law_draw hr (by omega) rfl (@za _ _ _ _ _ (@pw _ 0 _ _ rfl rfl) (@za _ _ _ _ _ (@zf _ _ _ _) (@zb _) rfl) rfl) (by decide) rfl rfl) (fun _ _=>rfl)) rfl (by walk_at "f"))) (@zM _)) (@ze _ _ _ _ _ (@zt _ _ 4 _ _ _ _ jh.nd rfl (Or.inl rfl) (@zC _ _ _ _ _ _ _ _ (@ZM _) (@zK _ _ _ _ (@za _ _ _ _ _ (@pw _ 3 _ _ rfl rfl) (@zb _) rfl)) (@zY _ ["_law_sign", "_law_name_here"] [none,some 3] _ _ _ _ _ _ _ _ _ _ (by exact (show zF ["_law_pool_here", "_law_names", "_law_letters_here", "_law_name_here", "_law_some"] (zg qX) ["_law_sign", "_law_name_here"] [none,some 3] _ from⟨rfl,by decide +kernel,by decide +kernel,by decide +kernel,by decide +kernel,rfl,by decide +kernel⟩)) rfl (@pi_str _ _ _ _ (@pw _ 2 _ _ rfl rfl)) (fun _ _ _ _=>(@pgl _ 0 _ _ nd1 rfl rfl)) (fun _ _ _ _=>(@qC _)) (fun _ _ _ _=>(@zC _ _ _ _ _ _ _ _ (@yV _) (@qx _ _ _ _ _ _ _ _ _ _ (@Z8 _ K rfl) (@pw _ 1 _ _ rfl rfl) (@jb _) (@jc _ _ _ (@zf _ _ _ _))) (@pw _ 0 _ _ rfl rfl))) (by intro _;rfl))) rfl (by walk_at "f")) (@zi _ _ _ (@zA _ _ _ _ (@zu _ _ _ _ _ _ _ (@zh _ K rfl) (@zY _ ["_law_one", "_law_names"] [none,some 1] _ _ _ _ _ _ _ _ _ _ (by exact (show zF ["_law_pool_here", "_law_names", "_law_letters_here", "_law_name_here", "_law_some"] (zg qX) ["_law_one", "_law_names"] [none,some 1] _ from⟨rfl,by decide +kernel,by decide +kernel,by decide +kernel,by decide +kernel,rfl,by decide +kernel⟩)) rfl (@zP _ K _ _ _ (@pw _ 4 _ _ rfl rfl) rfl) (fun _ _ _ _=>(@pgl _ 0 _ _ nd2 rfl rfl)) (fun _ _ _ _=>(@Ju _ _ _ (@zx _ _ _ _ _ _ _ _ (@ZO _ K rfl) (@pw _ 0 _ _ rfl rfl) (@pw _ 1 _ _ rfl rfl) (by with_unfolding_all rfl)))) (fun _ _ _ _=>(@pw _ 0 _ _ rfl rfl)) (by intro _;rfl)) (@zf _ _ _ _) (fun _ _=>rfl)))))))),?_⟩
 refine⟨rfl,?_⟩
 refine⟨_,rfl,p,7,rfl,pl,by decide,by decide,fun v H1 v0 v1 o1 pl1=>?_⟩
 refine⟨_,_,rfl,rfl,_,rfl,by omega,by omega,fun D hD=>?_⟩
 have pnl:l ≠ p:=fun z=>by
  obtain⟨r,a,b,e⟩:=pl
  rw[<- z,hl] at e
  cases ns with
  | nil=>cases e
  | cons n ns=>cases e
 have pnD:D ≠ p:=fun z=>by
  obtain⟨r,a,b,e⟩:=pl1
  rw[<- z,hD] at e
  cases e
 refine qF (fun i ys H=>Off p H1 H/\qk H p/\∃ cs:List Nat,ys=(cs.map YC).map V.str/\cs.length=i/\∀ d ∈ cs,97<=d/\d<=122) ⟨Off.new hD,pl1.new hD,[],rfl,rfl,by simp⟩ ?_ ?_
 ·rintro i ys H2 hi ⟨o2,p2,cs,rfl,hc,hs⟩ hD2
  refine yes ?_
  refine⟨_,rfl,_,rfl,p,26,rfl,p2,by decide,by decide,fun u H3 u0 u1 o3 p3=>?_⟩
  obtain⟨c,hat,c0,c1⟩:=alpha_at u0 u1
  refine .inr (.inr ⟨jr,u,c,rfl,rfl,zj (by decide +kernel),hat,?_⟩)
  refine Jf hi qS (o3 _ _ pnD hD2) (by rw[AC,AC,hc];exact zq (by omega)) ⟨?_,p3.off (Am pnD),cs++[c],by rw[AM,AM];rfl,by rw[AI,hc];rfl,?_⟩
  ·exact (o2.trans o3).fresh hD
  ·intro d hd
   rcases Aa.mp hd with hd | hd
   ·exact hs d hd
   ·rw[AF.mp hd]
    exact⟨c0,c1⟩
 ·rintro ys H2 ⟨o2,p2,cs,rfl,hc,hs⟩ hD2
  refine⟨_,D,cs.map YC,rfl,rfl,SqL.of hD2,?_,?_⟩
  ·rw[yO]
   show _+(cs.map YC).length * 0<=_
   omega
  have hz:=XE hs (by omega) (by omega)
  refine⟨_,rfl,p,16,rfl,p2,by decide,by decide,fun u H3 u0 u1 o3 p3=>⟨rfl,_,rfl,?_⟩⟩
  have o03:Off p H H3:=(o1.trans o2).trans o3
  refine Z5 (fun c=>?_) (fun c=>?_)
  ·refine⟨zj (by show 2<=1000;decide),fun g hg=>⟨_,rfl,p,2,rfl,p3.new hg,by decide,by decide,fun y H4 y0 y1 o4 p4=>?_⟩⟩
   have gp:g ≠ p:=fun z=>by
    obtain⟨r,a,b,e⟩:=p3
    rw[<- z,hg] at e
    cases e
   obtain⟨z,hat,hz8⟩:=at2 y0 y1
   have o04:Off p H H4:=(o03.trans (Off.new hg)).trans o4
   exact .inl ⟨g,_,y,_,rfl,rfl,SqL.of (o4 _ _ gp zc),hat,Wx hz8 p4 (o04 _ _ pnl hl) hn fun x H' s5 hx hnm=>q x H' (o04.trans (Off.of s5)) (qk.same p4 s5) hx hnm⟩
  ·exact Wx hz p3 (o03 _ _ pnl hl) hn fun x H' s5 hx hnm=>q x H' (o03.trans (Off.of s5)) (qk.same p3 s5) hx hnm
abbrev ZG:Stmt:=top 34
theorem qP:zv ["_law_pool_here", "_law_many", "_law_places", "_law_often", "_law_found", "_law_k", "_law_one"] ["_law_pool_here", "_law_many", "_law_places", "_law_often"] (zg ZG):=⟨rfl,rfl,rfl,by decide +kernel,rfl,by decide +kernel,by decide +kernel⟩
theorem Wy {P:Program} {w:World} {K:PySem.W.Frag} {mg:Str->Option Value} {base:Heap} {f:Addr} {fd:FuncData} (F:Fun K "_law_cells" "_law_cells" ZG f fd) (gb:Gb mg) {c:Nat->Addr} (cl:Cl K mg c) (d_law_draw:Def P w K mg base 1 "_law_draw" ["_law_pool_here", "_law_many"] j4):jj P w K mg base CX0 2 f fd ["_law_pool_here", "_law_many", "_law_places", "_law_often"] W6:=by
 refine F.ok qP (fun vs H Q E h=>?_) (fun cdv A outer s H vs Q E hr h=>?_)
 ·obtain⟨p,m,pl,often,rfl,_⟩:=h
  rfl
 obtain⟨p,m,pl,often,rfl,hp,m1,m9,p0,p2,o0,o9,q⟩:=h
 refine⟨_,(@ze _ _ _ _ _ (@zt _ _ 4 _ _ _ _ qP.nd rfl (Or.inl rfl) (@zK _ _ _ _ (@zb _)) rfl (by walk_at "f")) (@ze _ _ _ _ _ (@jv _ _ _ _ _ _ _ _ BJ rfl (@qe _ _ _ _ _ _ rfl gb.range (@za _ _ _ _ _ (@zu _ _ _ _ _ _ _ (@zh _ K rfl) (@zK _ _ _ _ (@za _ _ _ _ _ (@zf _ _ _ _) (@za _ _ _ _ _ (@pw _ 1 _ _ rfl rfl) (@za _ _ _ _ _ (@zC _ _ _ _ _ _ _ _ (@ZK _) (@pw _ 1 _ _ rfl rfl) (@pw _ 1 _ _ rfl rfl)) (@zb _) rfl) rfl) rfl)) (@pw _ 2 _ _ rfl rfl) (fun _ _=>rfl)) (@zb _) rfl) rfl) (@pgl _ 5 _ _ qP.nd rfl rfl) (@ze _ _ _ _ _ (@zt _ _ 6 _ _ _ _ qP.nd rfl (Or.inl rfl) (@zm _ _ _ _ _ _ _ _ _ _ _ d_law_draw hr (by omega) rfl (@za _ _ _ _ _ (@pw _ 0 _ _ rfl rfl) (@za _ _ _ _ _ (@pw _ 1 _ _ rfl rfl) (@zb _) rfl) rfl) (by decide) rfl rfl) rfl (by walk_at "f")) (@ze _ _ _ _ _ (@qZ _ _ _ _ _ _ _ _ (@PW.pt _ _ _ (@Zl _ _ _ _ _ _ _ (@zx _ _ _ _ _ _ _ _ (@op_gt _) (@pw _ 3 _ _ rfl rfl) (@zf _ _ _ _) (@zH _ _ (by decide) (by decide))) (@jD _ _ _ _ (@zx _ _ _ _ _ _ _ _ (@Zj _) (@zm _ _ _ _ _ _ _ _ _ _ _ d_law_draw hr (by omega) rfl (@za _ _ _ _ _ (@pw _ 0 _ _ rfl rfl) (@za _ _ _ _ _ (@pw _ 3 _ _ rfl rfl) (@zb _) rfl) rfl) (by decide) rfl rfl) (@zf _ _ _ _) (@zH _ _ (by decide) (by decide)))))) (@zi _ _ _ (@zt _ _ 6 _ _ _ _ qP.nd rfl (Or.inl rfl) (@yp _ _ _) rfl (by walk_at "f"))) (@zM _)) (@zi _ _ _ (@qY _ _ _ _ (@ZP _ K _ _ _ _ _ _ _ _ _ _ _ A6 B0 Bz (@jw _) (@pw _ 4 _ _ rfl rfl) (@za _ _ _ _ _ (@pw _ 6 _ _ rfl rfl) (@zb _) rfl) rfl rfl rfl rfl rfl rfl) rfl)))) (by intro _;rfl)) (@zi _ _ _ (@zA _ _ _ _ (@zE _ _ _ _ _ _ _ _ _ (@zT _ K rfl) rfl gb.tuple jE (@za _ _ _ _ _ (@pw _ 4 _ _ rfl rfl) (@zb _) rfl) (by decide) (by decide) rfl rfl))))),?_⟩
 obtain⟨n,hat,n0,n81,hnm⟩:=YB m1 m9 p0 p2
 refine⟨A0 _,fun f hf=>?_⟩
 have fp:f ≠ p:=fun z=>by
  obtain⟨r,a,b,e⟩:=hp
  rw[<- z,hf] at e
  cases e
 refine⟨_,rfl,_,rfl,_,rfl,_,_,rfl,rfl,.inr ⟨by omega,by omega⟩,zj (by show 3<=1000;decide),fun g hg=>?_⟩
 have fg:f ≠ g:=fun z=>by
  rw[<- z,zc] at hg
  cases hg
 have hg0:H g=none:=by
  rw[zk (Am fg)] at hg
  exact hg
 refine⟨_,rfl,.inl ⟨g,_,pl,_,rfl,rfl,SqL.of zc,hat,_,rfl,by omega,by omega,?_⟩⟩
 refine ZJ (fun i σ H'=>∃ (cs:List (Option Int)) (x5 x6:Option V),σ=[some (.ref p),some (.int m),some (.int pl),some (.int often),some (.ref f),x5,x6]/\Off p H H'/\qk H' p/\H' f=some (.lst (cs.map Zk))/\cs.length=i/\(∀ o ∈ cs,wR m o)/\(often=0->∀ o ∈ cs,o ≠ none))
  ⟨[],none,none,rfl,((Off.refl.fresh hf).fresh hg0),(hp.new hf).new hg,by rw[zk fg,zc];rfl,rfl,by simp,by simp⟩ ?_ ?_
 ·rintro i σ H' hi ⟨cs,x5,x6,rfl,o1,p1,hc,hl,hok,hno⟩
  have hz:(cs.map Zk).length < sizeLine:=by
   rw[AC,hl]
   exact zq (by omega)
  refine⟨_,rfl,_,rfl,p,m,rfl,p1,by omega,by omega,fun v H2 v0 v1 o2 p2=>?_⟩
  have hc2:=o2 _ _ fp hc
  have fin:∀ (o:Option Int) (H3:Hp),wR m o->(often=0->o ≠ none)->Off p H H3->qk H3 p->H3 f=some (.lst (cs.map Zk)) ->
    ∃ (cs':List (Option Int)) (x5 x6:Option V),[some (V.ref p),some (.int m),some (.int pl),some (.int often),some (.ref f),some (.int (0+i)),some (Zk o)]=[some (.ref p),some (.int m),some (.int pl),some (.int often),some (.ref f),x5,x6] /\
     Off p H (upd H3 f (.lst (cs.map Zk++[Zk o])))/\qk (upd H3 f (.lst (cs.map Zk++[Zk o]))) p/\(upd H3 f (.lst (cs.map Zk++[Zk o]))) f=some (.lst (cs'.map Zk))/\cs'.length=i+1/\(∀ o ∈ cs',wR m o)/\(often=0->∀ o ∈ cs',o ≠ none):=fun o H3 b1 b2 a1 a2 a3=>
   ⟨cs++[o],_,_,rfl,a1.fresh hf,a2.off (Am fp),by rw[zc,AM];rfl,by rw[AI,hl];rfl,fun z hz'=>by
    rcases Aa.mp hz' with q1 | q1
    ·exact hok z q1
    ·rw[AF.mp q1];exact b1,fun h0 z hz'=>by
    rcases Aa.mp hz' with q1 | q1
    ·exact hno h0 z q1
    ·rw[AF.mp q1];exact b2 h0⟩
  refine⟨_,rfl,_,_,rfl,rfl,_,rfl,?_⟩
  refine Z5 (fun c1=>?_) (fun c1=>?_)
  ·have c1':0 < often:=Az c1
   refine⟨_,rfl,_,rfl,p,often,rfl,p2,c1',by omega,fun u H3 u0 u1 o3 p3=>?_⟩
   have hc3:=o3 _ _ fp hc2
   refine⟨rfl,_,rfl,?_⟩
   refine Z5 (fun c2=>?_) (fun c2=>?_)
   ·exact⟨_,rfl,.inl ⟨rfl,_,SqL.of hc3⟩,_,rfl,f,_,_,rfl,rfl,hc3,hz,fin none H3 (fun i e=>nomatch e) (fun h0=>by omega) ((o1.trans o2).trans o3) p3 hc3⟩
   ·exact⟨_,rfl,.inl ⟨rfl,_,SqL.of hc3⟩,_,rfl,f,_,_,rfl,rfl,hc3,hz,fin (some v) H3 (fun i e=>by cases e;exact⟨v0,v1⟩) (fun _ e=>nomatch e) ((o1.trans o2).trans o3) p3 hc3⟩
  ·exact⟨_,rfl,.inl ⟨rfl,_,SqL.of hc2⟩,_,rfl,f,_,_,rfl,rfl,hc2,hz,fin (some v) H2 (fun i e=>by cases e;exact⟨v0,v1⟩) (fun _ e=>nomatch e) (o1.trans o2) p2 hc2⟩
 ·rintro σ H' ⟨cs,x5,x6,rfl,o1,p1,hc,hl,hok,hno⟩
  refine⟨_,rfl,f,_,rfl,.inl ⟨SqL.of hc,fun t ht=>?_⟩⟩
  have tf:H t=none\/∃ o,H t=some o:=by cases e:H t with
   | none=>exact .inl rfl
   | some o=>exact .inr ⟨o,rfl⟩
  refine q t cs _ (fun b o hb e=>?_) (p1.new ht) zc (by rw[<- hnm];omega) hok hno
  rw[zk (fun z=>by rw[z] at e hb;have:=o1 t o hb e;rw[ht] at this;cases this)]
  exact o1 b o hb e
abbrev jB:Stmt:=top 35
theorem qu:zv ["_law_pool_here", "_law_most", "_law_connectives", "_law_often", "_law_many", "_law_wished", "_law_found", "_law_k", "_law_name_here", "_law_places"] ["_law_pool_here", "_law_most", "_law_connectives", "_law_often"] (zg jB):=⟨rfl,rfl,rfl,by decide +kernel,rfl,by decide +kernel,by decide +kernel⟩
theorem yk {P:Program} {w:World} {K:PySem.W.Frag} {mg:Str->Option Value} {base:Heap} {f:Addr} {fd:FuncData} (F:Fun K "_law_half" "_law_half" jB f fd) (gb:Gb mg) {c:Nat->Addr} (cl:Cl K mg c) (d_law_draw:Def P w K mg base 1 "_law_draw" ["_law_pool_here", "_law_many"] j4) (d_law_name:Def P w K mg base 2 "_law_name" ["_law_pool_here", "_law_names"] XC) (d_law_cells:Def P w K mg base 2 "_law_cells" ["_law_pool_here", "_law_many", "_law_places", "_law_often"] W6):jj P w K mg base CX0 3 f fd ["_law_pool_here", "_law_most", "_law_connectives", "_law_often"] XD:=by
 refine F.ok qu (fun vs H Q E h=>?_) (fun cdv A outer s H vs Q E hr h=>?_)
 ·obtain⟨p,most,conn,often,rfl,_⟩:=h
  rfl
 obtain⟨p,most,conn,often,rfl,hp,m1,m9,c0,c8,o0,o9,q⟩:=h
 have nd0:(["_law_one", "_law_pool_here"]:List Str).Nodup:=by decide +kernel
 have nd1:(["_law_one"]:List Str).Nodup:=by decide +kernel
 refine⟨_,(@ze _ _ _ _ _ (@zt _ _ 4 _ _ _ _ qu.nd rfl (Or.inl rfl) (@zC _ _ _ _ _ _ _ _ (@ja _) (@zf _ _ _ _) (@zm _ _ _ _ _ _ _ _ _ _ _ d_law_draw hr (by omega) rfl (@za _ _ _ _ _ (@pw _ 0 _ _ rfl rfl) (@za _ _ _ _ _ (@pw _ 1 _ _ rfl rfl) (@zb _) rfl) rfl) (by decide) rfl rfl)) rfl (by walk_at "f")) (@ze _ _ _ _ _ (@zt _ _ 5 _ _ _ _ qu.nd rfl (Or.inl rfl) (@zE _ _ _ _ _ _ _ _ _ (@zT _ K rfl) rfl gb.tuple jE (@za _ _ _ _ _ (@zY _ ["_law_one", "_law_pool_here"] [none,some 0] _ _ _ _ _ _ _ _ _ _ (by exact (show zF ["_law_pool_here", "_law_most", "_law_connectives", "_law_often", "_law_many", "_law_wished", "_law_found", "_law_k", "_law_name_here", "_law_places"] (zg jB) ["_law_one", "_law_pool_here"] [none,some 0] _ from⟨rfl,by decide +kernel,by decide +kernel,by decide +kernel,by decide +kernel,rfl,by decide +kernel⟩)) rfl (@qe _ _ _ _ _ _ rfl gb.range (@za _ _ _ _ _ (@pw _ 4 _ _ rfl rfl) (@zb _) rfl) rfl) (fun _ _ _ _=>(@pgl _ 0 _ _ nd0 rfl rfl)) (fun _ _ _ _=>(@Ju _ _ _ (@zx _ _ _ _ _ _ _ _ (@Zj _) (@zm _ _ _ _ _ _ _ _ _ _ _ d_law_draw hr (by omega) rfl (@za _ _ _ _ _ (@pw _ 1 _ _ rfl rfl) (@za _ _ _ _ _ (@zf _ _ _ _) (@zb _) rfl) rfl) (by decide) rfl rfl) (@zf _ _ _ _) (@zH _ _ (by decide) (by decide))))) (fun _ _ _ _=>(@pw _ 0 _ _ rfl rfl)) (by intro _;rfl)) (@zb _) rfl) (by decide) (by decide) rfl rfl) rfl (by walk_at "f")) (@ze _ _ _ _ _ (@zt _ _ 6 _ _ _ _ qu.nd rfl (Or.inl rfl) (@zK _ _ _ _ (@zb _)) rfl (by walk_at "f")) (@ze _ _ _ _ _ (@jv _ _ _ _ _ _ _ _ BJ rfl (@qe _ _ _ _ _ _ rfl gb.range (@za _ _ _ _ _ (@zm _ _ _ _ _ _ _ _ _ _ _ d_law_draw hr (by omega) rfl (@za _ _ _ _ _ (@pw _ 0 _ _ rfl rfl) (@za _ _ _ _ _ (@zC _ _ _ _ _ _ _ _ (@ja _) (@pw _ 2 _ _ rfl rfl) (@zf _ _ _ _)) (@zb _) rfl) rfl) (by decide) rfl rfl) (@zb _) rfl) rfl) (@pgl _ 7 _ _ qu.nd rfl rfl) (@ze _ _ _ _ _ (@zt _ _ 8 _ _ _ _ qu.nd rfl (Or.inl rfl) (@zm _ _ _ _ _ _ _ _ _ _ _ d_law_name hr (by omega) rfl (@za _ _ _ _ _ (@pw _ 0 _ _ rfl rfl) (@za _ _ _ _ _ (@zY _ ["_law_one"] [none] _ _ _ _ _ _ _ _ _ _ (by exact (show zF ["_law_pool_here", "_law_most", "_law_connectives", "_law_often", "_law_many", "_law_wished", "_law_found", "_law_k", "_law_name_here", "_law_places"] (zg jB) ["_law_one"] [none] _ from⟨rfl,by decide +kernel,by decide +kernel,by decide +kernel,by decide +kernel,rfl,by decide +kernel⟩)) rfl (@zP _ K _ _ _ (@pw _ 6 _ _ rfl rfl) rfl) (fun _ _ _ _=>(@pgl _ 0 _ _ nd1 rfl rfl)) (fun _ _ _ _=>(@qC _)) (fun _ _ _ _=>(@zu _ _ _ _ _ _ _ (@zh _ K rfl) (@pw _ 0 _ _ rfl rfl) (@zf _ _ _ _) (fun _ _=>rfl))) (by intro _;rfl)) (@zb _) rfl) rfl) (by decide) rfl rfl) rfl (by walk_at "f")) (@ze _ _ _ _ _ (@zt _ _ 9 _ _ _ _ qu.nd rfl (Or.inl rfl) (@zu _ _ _ _ _ _ _ (@zh _ K rfl) (@zK _ _ _ _ (@za _ _ _ _ _ (@zf _ _ _ _) (@za _ _ _ _ _ (@zf _ _ _ _) (@za _ _ _ _ _ (@zf _ _ _ _) (@za _ _ _ _ _ (@zf _ _ _ _) (@zb _) rfl) rfl) rfl) rfl)) (@zm _ _ _ _ _ _ _ _ _ _ _ d_law_draw hr (by omega) rfl (@za _ _ _ _ _ (@pw _ 0 _ _ rfl rfl) (@za _ _ _ _ _ (@zf _ _ _ _) (@zb _) rfl) rfl) (by decide) rfl rfl) (fun _ _=>rfl)) rfl (by walk_at "f")) (@zi _ _ _ (@qY _ _ _ _ (@ZP _ K _ _ _ _ _ _ _ _ _ _ _ A6 B0 Bz (@jw _) (@pw _ 6 _ _ rfl rfl) (@za _ _ _ _ _ (@zI _ _ _ _ _ (@za _ _ _ _ _ (@pw _ 8 _ _ rfl rfl) (@za _ _ _ _ _ (@pw _ 9 _ _ rfl rfl) (@za _ _ _ _ _ (@zm _ _ _ _ _ _ _ _ _ _ _ d_law_cells hr (by omega) rfl (@za _ _ _ _ _ (@pw _ 0 _ _ rfl rfl) (@za _ _ _ _ _ (@pw _ 4 _ _ rfl rfl) (@za _ _ _ _ _ (@pw _ 9 _ _ rfl rfl) (@za _ _ _ _ _ (@pw _ 3 _ _ rfl rfl) (@zb _) rfl) rfl) rfl) rfl) (by decide) rfl rfl) (@zb _) rfl) rfl) rfl)) (@zb _) rfl) rfl rfl rfl rfl rfl rfl) rfl)))) (by intro _;rfl)) (@zi _ _ _ (@zA _ _ _ _ (@zI _ _ _ _ _ (@za _ _ _ _ _ (@pw _ 4 _ _ rfl rfl) (@za _ _ _ _ _ (@pw _ 5 _ _ rfl rfl) (@za _ _ _ _ _ (@zE _ _ _ _ _ _ _ _ _ (@zT _ K rfl) rfl gb.tuple jE (@za _ _ _ _ _ (@pw _ 6 _ _ rfl rfl) (@zb _) rfl) (by decide) (by decide) rfl rfl) (@zb _) rfl) rfl) rfl)))))))),?_⟩
 refine⟨_,rfl,_,rfl,p,most,rfl,hp,by omega,by omega,fun v H1 v0 v1 o1 pl1=>?_⟩
 refine⟨_,_,rfl,rfl,?_⟩
 refine⟨_,rfl,_,rfl,by omega,by omega,fun D hD=>?_⟩
 have ne:∀ {H0:Hp} {t:Addr},qk H0 p->H0 t=none->t ≠ p:=fun {H0 t} hq ht z=>by
  obtain⟨r,a,b,e⟩:=hq
  rw[<- z,ht] at e
  cases e
 have pnD:=ne pl1 hD
 refine qF (fun i ys H=>Off p H1 H/\qk H p/\∃ ws:List Int,ys=ws.map V.int/\ws.length<=i/\(∀ w ∈ ws,0<=w/\w < (i:Int))/\ws.Pairwise (· < ·)) ⟨Off.new hD,pl1.new hD,[],rfl,AG _,by simp,List.Pairwise.nil⟩ ?_ ?_
 ·rintro i ys H2 hi ⟨o2,p2,ws,rfl,hw,hwb,hwr⟩ hD2
  refine⟨_,rfl,p,2,rfl,p2,by decide,by decide,fun u H3 u0 u1 o3 p3=>⟨rfl,_,rfl,?_⟩⟩
  refine Z5 (fun c=>?_) (fun c=>?_)
  ·refine⟨_,rfl,Jf hi qS (o3 _ _ pnD hD2) (by rw[AC];exact zq (by omega)) ⟨(o2.trans o3).fresh hD,p3.off (Am pnD),ws++[0+(i:Int)],by rw[AM];rfl,?_,fun z hz=>?_,?_⟩⟩
   ·rw[AI,DO]
    omega
   ·rcases Aa.mp hz with hz | hz
    ·have:=hwb z hz
     omega
    ·rw[AF.mp hz]
     omega
   ·refine Ce.mpr ⟨hwr,List.pairwise_singleton _ _,fun a ha b hb=>?_⟩
    rw[AF.mp hb]
    have:=hwb a ha
    omega
  ·exact cno hi qS (o3 _ _ pnD hD2) ⟨o2.trans o3,p3,ws,rfl,by omega,fun z hz=>by have:=hwb z hz;omega,hwr⟩
 ·rintro ys H2 ⟨o2,p2,ws,rfl,hw,hwb,hwr⟩ hD2
  refine⟨D,_,rfl,.inl ⟨SqL.of hD2,fun w1 hw1=>?_⟩⟩
  refine⟨A0 _,fun f hf=>?_⟩
  have fw:f ≠ w1:=fun z=>by
   rw[z,zc] at hf
   cases hf
  have p3:qk (upd H2 w1 (.tup (ws.map V.int))) p:=p2.new hw1
  have p4:qk (upd (upd H2 w1 (.tup (ws.map V.int))) f (.lst [])) p:=p3.new hf
  have fp:=ne p3 hf
  have wp:=ne p2 hw1
  have nf:∀ b o,b ≠ p->H b=some o->b ≠ f:=fun b o hb e z=>by
   have e3:(upd H2 w1 (.tup (ws.map V.int))) b=some o:=((o1.trans o2).trans (Off.new hw1)) b o hb e
   rw[z,hf] at e3
   cases e3
  have o4:Off p H (upd (upd H2 w1 (.tup (ws.map V.int))) f (.lst [])):=((o1.trans o2).trans (Off.new hw1)).trans (Off.new hf)
  refine⟨_,rfl,_,rfl,_,_,rfl,rfl,p,_,rfl,p4,by omega,by omega,fun nc H5 n0 n1 o5 p5=>⟨_,rfl,by omega,by omega,?_⟩⟩
  have hw5:H5 w1=some (.tup (ws.map V.int)):=o5 _ _ wp (by rw[zk (Am fw)];exact zc)
  have hf5:H5 f=some (.lst []):=o5 _ _ fp zc
  refine ZJ (fun i σ H6=>∃ (cs:List Ya) (vs:List V) (x7 x8 x9:Option V),σ=[some (.ref p),some (.int most),some (.int conn),some (.int often),some (.int (1+v)),some (.ref w1),some (.ref f),x7,x8,x9] /\
   Off p H H6/\qk H6 p/\H6 w1=some (.tup (ws.map V.int))/\H6 f=some (.lst vs)/\ZR H6 cs vs/\cs.length=i/\(∀ c ∈ cs,GoodC (1+v) c)/\(cs.map (·.nm)).Nodup/\(often=0->∀ c ∈ cs,∀ o ∈ c.cs,o ≠ none)) ⟨[],[],none,none,none,rfl,o4.trans o5,p5,hw5,hf5,rfl,rfl,by simp,by simp,by simp⟩ ?_ ?_
  ·rintro i σ H6 hi ⟨cs,vs,x7,x8,x9,rfl,o6,p6,hw6,hf6,hC,hl,hgc,hnd,hfu⟩
   refine⟨_,rfl,_,rfl,f,rfl,⟨_,SqL.of hf6⟩,fun D2 hD2=>?_⟩
   have hvl:=hC.len
   have nD2:=ne p6 hD2
   refine jy (xs:=vs) (fun j ys H7=>zB H6 H7/\ys=(cs.take j).map fun c=>V.str c.nm) ⟨zd hD2 _,rfl⟩ (fun j ys H7 h _=>SqL.of (h.1 _ _ hf6)) ?_ ?_
   ·rintro j ys H7 x hx ⟨s7,rfl⟩ hD7
    have hj:j < vs.length:=(AE.mp hx).1
    have hcj:cs[j]? = some (cs.getD j ⟨"",0,[]⟩):=by simp[List.getD,show j < cs.length by omega]
    obtain⟨t,u,e1,e2,e3⟩:=hC.get hcj
    rw[hx] at e1
    cases e1
    refine yes ?_
    refine⟨_,rfl,.inr (.inl ⟨t,_,0,_,rfl,rfl,SqT.of (s7 _ _ e2),rfl,?_⟩)⟩
    refine Jf hj qS hD7 (by rw[AC,AZ];exact zq (by omega)) ⟨fun b o qb=>?_,?_⟩
    ·rw[zk (zr qb hD2)]
     exact s7 b o qb
    ·rw[take_snoc hcj,AM]
     rfl
   ·rintro ys H7 ⟨s7,rfl⟩ hD7
    rw[hvl,Aq] at hD7
    have p7:qk H7 p:=by
     obtain⟨r,a,b,e⟩:=p6
     exact⟨r,a,b,s7 _ _ e⟩
    refine⟨p,D2,cs.map (·.nm),rfl,p7,by rw[A2];exact hD7,by rw[AC];omega,fun x H8 o8 p8 hx8 hxn=>?_⟩
    refine⟨zj (by show 4<=1000;decide),fun g hg=>⟨_,rfl,p,4,rfl,p8.new hg,by decide,by decide,fun y H9 y0 y1 o9' p9=>?_⟩⟩
    have gp:=ne p8 hg
    obtain⟨pp,hat,pp0,pp2⟩:=at4 y0 y1
    refine .inl ⟨g,_,y,_,rfl,rfl,SqL.of (o9' _ _ gp zc),hat,?_⟩
    have o69:Off p H6 H9:=((Off.of s7).trans o8).trans ((Off.new hg).trans o9')
    have hf9:=o69 _ _ fp hf6
    refine⟨_,rfl,.inl ⟨rfl,_,SqL.of hf9⟩,_,rfl,_,rfl,_,rfl,_,rfl,_,rfl,_,rfl,p,_,_,_,rfl,p9,by omega,by omega,pp0,pp2,o0,o9,fun t cl H10 o10 p10 ht hcl hck hcf=>?_⟩
    refine⟨zj (by show 3<=1000;decide),fun tt htt=>?_⟩
    have o610:Off p H6 H10:=o69.trans o10
    have hf10:=o610 _ _ fp hf6
    have nft:f ≠ tt:=fun z=>by
     rw[<- z,hf10] at htt
     cases htt
    have tk6:Tk H6 (upd H10 tt (.tup [.str x,.int pp,.ref t])):=(o610.tk p6).trans (Tk.new htt)
    have hfT:(upd H10 tt (.tup [.str x,.int pp,.ref t])) f=some (.lst vs):=by rw[zk nft];exact hf10
    refine⟨f,vs,_,rfl,rfl,hfT,zq (by omega),?_⟩
    have tkf:Tk H6 (upd (upd H10 tt (.tup [.str x,.int pp,.ref t])) f (.lst (vs++[.ref tt]))):=tk6.trans (Tk.put hfT)
    have ntp:=ne p10 htt
    refine⟨cs++[⟨x,pp,cl⟩],vs++[.ref tt],some (.int (0+i)),some (.str x),some (.int pp),rfl,?_,(p10.new htt).off (Am fp),tkf _ _ hw6,zc,?_,?_,?_,?_,?_⟩
    ·intro b o hb hbo
     have e10:=o610 b o hb (o6 b o hb hbo)
     rw[zk (nf b o hb hbo),zk (zr e10 htt)]
     exact e10
    ·refine (hC.tk tkf).snoc (c:=⟨x,pp,cl⟩) (u:=t) ?_ ?_
     ·rw[zk (Am nft)]
      exact zc
     ·have:=Tk.new (o:=.tup [.str x,.int pp,.ref t]) htt _ _ ht
      exact Tk.put hfT _ _ this
    ·rw[AI,hl]
     rfl
    ·intro c hc
     rcases Aa.mp hc with hc | hc
     ·exact hgc c hc
     ·have:=AF.mp hc
      rw[this]
      exact⟨hxn,pp0,pp2,hcl,hck⟩
    ·rw[AM]
     refine Dk.mpr ⟨hnd,by simp,fun a ha b hb=>?_⟩
     have e2:b=x:=AF.mp hb
     rw[e2]
     intro e3
     rw[e3] at ha
     exact hx8 ha
    ·intro h0 c hc
     rcases Aa.mp hc with hc | hc
     ·exact hfu h0 c hc
     ·have:=AF.mp hc
      rw[this]
      exact hcf h0
  ·rintro σ H6 ⟨cs,vs,x7,x8,x9,rfl,o6,p6,hw6,hf6,hC,hl,hgc,hnd,hfu⟩
   refine⟨_,rfl,_,rfl,_,rfl,f,_,rfl,.inl ⟨SqL.of hf6,fun c hc=>?_⟩⟩
   refine⟨zj (by show 3<=1000;decide),fun tt htt=>?_⟩
   have tk1:Tk H6 (upd (upd H6 c (.tup vs)) tt (.tup [.int (1+v),.ref w1,.ref c])):=(Tk.new hc).trans (Tk.new htt)
   refine q _ ⟨1+v,ws,cs⟩ _ ((o6.trans (Off.new hc)).trans (Off.new htt)) ((p6.new hc).new htt) ⟨tt,w1,c,vs,rfl,zc,tk1 _ _ hw6,Tk.new htt _ _ zc,hC.tk tk1⟩ ⟨by show 1<=1+v;omega,by show 1+v<=9;omega,fun w hw'=>by show 0<=w/\w < 1+v;have:=hwb w hw';omega,hwr,by show ws.length<=9;omega,by show cs.length<=8;omega,hnd,hgc⟩ hfu (by show 1+v<=most;omega) (by show (cs.length:Int)<=conn;omega)
abbrev jN:Stmt:=top 36
theorem Wz:zv ["_law_saying"] ["_law_saying"] (zg jN):=⟨rfl,rfl,rfl,by decide +kernel,rfl,by decide +kernel,by decide +kernel⟩
theorem WA {P:Program} {w:World} {K:PySem.W.Frag} {mg:Str->Option Value} {base:Heap} {f:Addr} {fd:FuncData} (F:Fun K "_law_words" "_law_words" jN f fd) (gb:Gb mg) {c:Nat->Addr} (cl:Cl K mg c) (j:Nat) (d_law_words:Def P w K mg base (6+j) "_law_words" ["_law_saying"] (wn j)):jj P w K mg base CX0 (6+j+1) f fd ["_law_saying"] (wn (j+1)):=by
 refine F.ok Wz (fun vs H Q E h=>?_) (fun cdv A outer s H vs Q E hr h=>?_)
 ·obtain⟨v,s,rfl,_⟩:=h
  rfl
 obtain⟨v,s,rfl,ih,hj,q⟩:=h
 have nd0:(["_law_part"]:List Str).Nodup:=by decide +kernel
 refine⟨_,(@ze _ _ _ _ _ (@qZ _ _ _ _ _ _ _ _ (@jW _ _ _ (@zo _ _ _ _ _ _ _ _ _ (@Jx _ K rfl) rfl gb.isinstance zw (@za _ _ _ _ _ (@pw _ 0 _ _ rfl rfl) (@za _ _ _ _ _ (@WK _ _ (.ty "str") _ _ rfl gb.str bt_str rfl (by decide) (by decide)) (@zb _) rfl) rfl) (by decide) (by decide) rfl rfl) (by intro _;rfl)) (@zi _ _ _ (@zA _ _ _ _ (@zf _ _ _ _))) (@zM _)) (@zi _ _ _ (@zA _ _ _ _ (@zC _ _ _ _ _ _ _ _ (@ja _) (@zf _ _ _ _) (@zo _ _ _ _ _ _ _ _ _ (@xt _ K rfl rfl) rfl gb.sum bt_sum (@za _ _ _ _ _ (@zY _ ["_law_part"] [none] _ _ _ _ _ _ _ _ _ _ (by exact (show zF ["_law_saying"] (zg jN) ["_law_part"] [none] _ from⟨rfl,by decide +kernel,by decide +kernel,by decide +kernel,by decide +kernel,rfl,by decide +kernel⟩)) rfl (@Zx _ K _ _ _ (@qx _ _ _ _ _ _ _ _ _ _ (@kslT _ K rfl) (@pw _ 0 _ _ rfl rfl) (@jc _ _ _ (@zf _ _ _ _)) (@jb _)) rfl) (fun _ _ _ _=>(@pgl _ 0 _ _ nd0 rfl rfl)) (fun _ _ _ _=>(@qC _)) (fun _ _ _ _=>(@zm _ _ _ _ _ _ _ _ _ _ _ d_law_words hr (by omega) rfl (@za _ _ _ _ _ (@pw _ 0 _ _ rfl rfl) (@zb _) rfl) (by decide) rfl rfl)) (by intro _;rfl)) (@zb _) rfl) (by decide) (by decide) rfl rfl))))),?_⟩
 cases hs:s.isL with
 | true=>
  have ev:=ih.letter hs
  refine⟨_,rfl,_,_,_,true,rfl,by rw[ev];exact .str _,JW "str",_,rfl,YN ?_⟩
  have q2:=q H (zB.refl H)
  rw[XN hs] at q2
  exact q2
 | false=>
  obtain⟨t,us,ev,ht,hP⟩:=ih.node hs
  have hul:=Aw hP
  have a2:=Sy.ps_le s
  rw[ev]
  refine⟨_,rfl,_,_,_,false,rfl,.tup ht,xE (K:=K) (.tup []),_,rfl,wv ?_⟩
  refine⟨_,rfl,_,rfl,?_⟩
  refine Wn ht fun t2 H2 s2 ht2=>?_
  rw[Q4 (by simp)] at ht2
  refine⟨t2,rfl,⟨_,SqT.of ht2⟩,fun D hD=>?_⟩
  refine Qw (xs:=us) (fun i ys H'=>zB H2 H'/\ys=((s.ps.take i).map fun a=>((a.sz:Nat):Int)).map V.int) ⟨zd hD _,rfl⟩ (fun i ys H' h _=>SqT.of (h.1 _ _ ht2)) ?_ ?_
  ·rintro i ys H3 x hx ⟨s3,rfl⟩ hD3
   have hi:i < us.length:=(AE.mp hx).1
   have ha:s.ps[i]? = some s.ps[i]:=AK (by omega)
   generalize s.ps[i]=a at ha
   have hia:=Paired.at hP i _ _ ha hx
   have hda:=Sy.dp_lt (AV ha)
   match j,hj,d_law_words with
   | 0,hj,_=>exact absurd hj (by omega)
   | j+1,hj,_=>
   refine yes ⟨_,rfl,x,a,rfl,hia.same (s2.trans s3),by omega,fun H4 s4=>?_⟩
   refine Jf hi qS (s4 _ _ hD3) (by rw[AC,AC,AZ];exact zq (by omega)) ⟨(s3.trans s4).put hD,?_⟩
   rw[take_snoc ha,AM,AM]
   rfl
  ·rintro ys H3 ⟨s3,rfl⟩ hD3
   rw[<- hul,Aq] at hD3
   refine⟨D,_,rfl,SqL.of hD3,_,_,rfl,rfl,?_⟩
   have q2:=q H3 (s2.trans s3)
   rw[show nV s.sz=V.int ((1:Int)+(s.ps.map fun a=>((a.sz:Nat):Int)).sum) by rw[sz_sum hs]] at q2
   exact q2
abbrev qW:Stmt:=top 37
theorem ju:zv ["_law_pool_here", "_law_many", "_law_start", "_law_step"] ["_law_pool_here", "_law_many"] (zg qW):=⟨rfl,rfl,rfl,by decide +kernel,rfl,by decide +kernel,by decide +kernel⟩
theorem Jq {P:Program} {w:World} {K:PySem.W.Frag} {mg:Str->Option Value} {base:Heap} {f:Addr} {fd:FuncData} (F:Fun K "_law_letters" "_law_letters" qW f fd) (gb:Gb mg) {c:Nat->Addr} (cl:Cl K mg c) (d_law_draw:Def P w K mg base 1 "_law_draw" ["_law_pool_here", "_law_many"] j4):jj P w K mg base CX0 2 f fd ["_law_pool_here", "_law_many"] Qc:=by
 refine F.ok ju (fun vs H Q E h=>?_) (fun cdv A outer s H vs Q E hr h=>?_)
 ·obtain⟨p,m,rfl,_⟩:=h
  rfl
 obtain⟨p,m,rfl,hp,m1,m5,q⟩:=h
 have nd0:(["_law_k", "_law_start", "_law_step"]:List Str).Nodup:=by decide +kernel
 refine⟨_,(@ze _ _ _ _ _ (@zt _ _ 2 _ _ _ _ ju.nd rfl (Or.inr rfl) (@zm _ _ _ _ _ _ _ _ _ _ _ d_law_draw hr (by omega) rfl (@za _ _ _ _ _ (@pw _ 0 _ _ rfl rfl) (@za _ _ _ _ _ (@zf _ _ _ _) (@zb _) rfl) rfl) (by decide) rfl rfl) rfl (by walk_at "f")) (@ze _ _ _ _ _ (@zt _ _ 3 _ _ _ _ ju.nd rfl (Or.inr rfl) (@zu _ _ _ _ _ _ _ (@zh _ K rfl) (@zK _ _ _ _ (@za _ _ _ _ _ (@zf _ _ _ _) (@za _ _ _ _ _ (@zf _ _ _ _) (@za _ _ _ _ _ (@zf _ _ _ _) (@za _ _ _ _ _ (@zf _ _ _ _) (@za _ _ _ _ _ (@zf _ _ _ _) (@zb _) rfl) rfl) rfl) rfl) rfl)) (@zm _ _ _ _ _ _ _ _ _ _ _ d_law_draw hr (by omega) rfl (@za _ _ _ _ _ (@pw _ 0 _ _ rfl rfl) (@za _ _ _ _ _ (@zf _ _ _ _) (@zb _) rfl) rfl) (by decide) rfl rfl) (fun _ _=>rfl)) rfl (by walk_at "f")) (@zi _ _ _ (@zA _ _ _ _ (@zY _ ["_law_k", "_law_start", "_law_step"] [none,some 2,some 3] _ _ _ _ _ _ _ _ _ _ (by exact (show zF ["_law_pool_here", "_law_many", "_law_start", "_law_step"] (zg qW) ["_law_k", "_law_start", "_law_step"] [none,some 2,some 3] _ from⟨rfl,by decide +kernel,by decide +kernel,by decide +kernel,by decide +kernel,rfl,by decide +kernel⟩)) rfl (@qe _ _ _ _ _ _ rfl gb.range (@za _ _ _ _ _ (@pw _ 1 _ _ rfl rfl) (@zb _) rfl) rfl) (fun _ _ _ _=>(@pgl _ 0 _ _ nd0 rfl rfl)) (fun _ _ _ _=>(@qC _)) (fun _ _ _ _=>(@zu _ _ _ _ _ _ _ (@zh _ K rfl) (@ql _ _ _ _) (@zC _ _ _ _ _ _ _ _ (@Ql _) (@zC _ _ _ _ _ _ _ _ (@ja _) (@pw _ 1 _ _ rfl rfl) (@zC _ _ _ _ _ _ _ _ (@ZK _) (@pw _ 2 _ _ rfl rfl) (@pw _ 0 _ _ rfl rfl))) (@zf _ _ _ _)) (fun _ _=>rfl))) (by intro _;rfl)))))),?_⟩
 refine⟨_,rfl,p,26,rfl,hp,by decide,by decide,fun v H1 v0 v1 o1 p1=>?_⟩
 refine⟨zj (by show 5<=1000;decide),fun g hg=>⟨_,rfl,p,5,rfl,p1.new hg,by decide,by decide,fun y H2 y0 y1 o2 p2=>?_⟩⟩
 have gp:=qG p1 hg
 obtain⟨st,hat,hst⟩:=at5 y0 y1
 refine .inl ⟨g,_,y,_,rfl,rfl,SqL.of (o2 _ _ gp zc),hat,?_⟩
 have o02:Off p H H2:=(o1.trans (Off.new hg)).trans o2
 refine⟨_,rfl,m,rfl,by omega,by omega,fun D hD=>?_⟩
 have Dp:=qG p2 hD
 refine qF (fun i ys H'=>zB H2 H'/\ys=((List.range i).map fun k=>YC (ya v st k)).map V.str) ⟨zd hD _,rfl⟩ ?_ ?_
 ·rintro i ys H3 hi ⟨s3,rfl⟩ hD3
  have e0:(0:Int)+(i:Int)=(i:Int):=by omega
  refine yes ⟨_,rfl,_,rfl,_,rfl,_,_,rfl,rfl,.inr ⟨by omega,by omega⟩,_,_,rfl,rfl,_,_,rfl,rfl,(show (0:Int) < 26 by decide),?_⟩
  rw[e0]
  have u0:=DJ (v+st * (i:Int)) (show (26:Int) ≠ 0 by decide)
  have u1:=Cq (v+st * (i:Int)) (show (0:Int) < 26 by decide)
  refine .inr (.inr ⟨jr,_,_,rfl,rfl,zj (by decide +kernel),YF u0 u1,?_⟩)
  refine Jf hi qS hD3 (by rw[AC,AC,Av];exact zq (by omega)) ⟨s3.put hD,?_⟩
  rw[D4,AM,AM]
  rfl
 ·rintro ys H3 ⟨s3,rfl⟩ hD3
  have p3:qk H3 p:=qg p2 s3
  refine q D _ H3 (o02.trans (Off.of s3)) p3 (yR o02 hD Dp) Dp hD3 (by rw[AC,Av];omega) (YG hst (by omega)) fun x hx=>?_
  obtain⟨k,hk,rfl⟩:=AS.mp hx
  have u0:=DJ (v+st * (k:Int)) (show (26:Int) ≠ 0 by decide)
  have u1:=Cq (v+st * (k:Int)) (show (0:Int) < 26 by decide)
  exact one_ltr (by unfold ya;omega) (by unfold ya;omega)
abbrev jO:Stmt:=top 38
theorem qh:zv ["_law_pool_here", "_law_table", "_law_letters_here", "_law_steps", "_law_most", "_law_found", "_law_k", "_law_name_here", "_law_places", "_law_cells_here", "_law_more"] ["_law_pool_here", "_law_table", "_law_letters_here", "_law_steps", "_law_most"] (zg jO):=⟨rfl,rfl,rfl,by decide +kernel,rfl,by decide +kernel,by decide +kernel⟩
theorem WB {P:Program} {w:World} {K:PySem.W.Frag} {mg:Str->Option Value} {base:Heap} {f:Addr} {fd:FuncData} (F:Fun K "_law_grown" "_law_grown" jO f fd) (gb:Gb mg) {c:Nat->Addr} (cl:Cl K mg c) (d_law_draw:Def P w K mg base 1 "_law_draw" ["_law_pool_here", "_law_many"] j4) (d_law_words:Def P w K mg base 18 "_law_words" ["_law_saying"] (wn 12)):jj P w K mg base CX0 20 f fd ["_law_pool_here", "_law_table", "_law_letters_here", "_law_steps", "_law_most"] yb:=by
 refine F.ok qh (fun vs H Q E h=>?_) (fun cdv A outer s H vs Q E hr h=>?_)
 ·obtain⟨p,ll,v,T,L,steps,most,rfl,_⟩:=h
  rfl
 obtain⟨p,ll,v,T,L,steps,most,rfl,hp,tb,gT,np,hll,l1,l5,s8,o1,o9,q⟩:=h
 have nd0:(["_law_j", "_law_found", "_law_pool_here"]:List Str).Nodup:=by decide +kernel
 refine⟨_,(@ze _ _ _ _ _ (@zt _ _ 5 _ _ _ _ qh.nd rfl (Or.inr rfl) (@zE _ _ _ _ _ _ _ _ _ (@qT _ K rfl) rfl gb.list Zw (@za _ _ _ _ _ (@pw _ 2 _ _ rfl rfl) (@zb _) rfl) (by decide) (by decide) rfl rfl) rfl (by walk_at "f")) (@ze _ _ _ _ _ (@jv _ _ _ _ _ _ _ _ BJ rfl (@qe _ _ _ _ _ _ rfl gb.range (@za _ _ _ _ _ (@zC _ _ _ _ _ _ _ _ (@ZK _) (@pw _ 3 _ _ rfl rfl) (@zE _ _ _ _ _ _ _ _ _ (@Y7 _) rfl gb.int bt_int (@za _ _ _ _ _ (@jX _ _ _ _ _ _ _ _ (@op_neE _ _ hr) (@zu _ _ _ _ _ _ _ (@zh _ K rfl) (@pw _ 1 _ _ rfl rfl) (@zf _ _ _ _) (fun _ _=>rfl)) (@zI _ _ _ _ _ (@zb _)) (@zH _ _ (by decide) (by decide))) (@zb _) rfl) (by decide) (by decide) rfl rfl)) (@zb _) rfl) rfl) (@pgl _ 6 _ _ qh.nd rfl rfl) (@ze _ _ _ _ _ (@Qk _ _ _ _ _ _ (@zu _ _ _ _ _ _ _ (@zh _ K rfl) (@zu _ _ _ _ _ _ _ (@zh _ K rfl) (@pw _ 1 _ _ rfl rfl) (@zf _ _ _ _) (fun _ _=>rfl)) (@zm _ _ _ _ _ _ _ _ _ _ _ d_law_draw hr (by omega) rfl (@za _ _ _ _ _ (@pw _ 0 _ _ rfl rfl) (@za _ _ _ _ _ (@zo _ _ _ _ _ _ _ _ _ (@zN _ K rfl) rfl gb.len qM (@za _ _ _ _ _ (@zu _ _ _ _ _ _ _ (@zh _ K rfl) (@pw _ 1 _ _ rfl rfl) (@zf _ _ _ _) (fun _ _=>rfl)) (@zb _) rfl) (by decide) (by decide) rfl rfl) (@zb _) rfl) rfl) (by decide) rfl rfl) (fun _ _=>rfl)) (@Zy _ K _ _ _ _ 3 rfl (@zO _ _ _ _ _ (@pgl _ 7 _ _ qh.nd rfl rfl) (@zO _ _ _ _ _ (@pgl _ 8 _ _ qh.nd rfl rfl) (@zO _ _ _ _ _ (@pgl _ 9 _ _ qh.nd rfl rfl) (@Zt _) rfl) rfl) rfl) rfl rfl rfl) rfl rfl rfl) (@ze _ _ _ _ _ (@zt _ _ 10 _ _ _ _ qh.nd rfl (Or.inl rfl) (@zC _ _ _ _ _ _ _ _ (@QL _ K rfl) (@zI _ _ _ _ _ (@za _ _ _ _ _ (@pw _ 7 _ _ rfl rfl) (@zb _) rfl)) (@zE _ _ _ _ _ _ _ _ _ (@zT _ K rfl) rfl gb.tuple jE (@za _ _ _ _ _ (@zY _ ["_law_j", "_law_found", "_law_pool_here"] [none,some 5,some 0] _ _ _ _ _ _ _ _ _ _ (by exact (show zF ["_law_pool_here", "_law_table", "_law_letters_here", "_law_steps", "_law_most", "_law_found", "_law_k", "_law_name_here", "_law_places", "_law_cells_here", "_law_more"] (zg jO) ["_law_j", "_law_found", "_law_pool_here"] [none,some 5,some 0] _ from⟨rfl,by decide +kernel,by decide +kernel,by decide +kernel,by decide +kernel,rfl,by decide +kernel⟩)) rfl (@qe _ _ _ _ _ _ rfl gb.range (@za _ _ _ _ _ (@pw _ 8 _ _ rfl rfl) (@zb _) rfl) rfl) (fun _ _ _ _=>(@pgl _ 0 _ _ nd0 rfl rfl)) (fun _ _ _ _=>(@qC _)) (fun _ _ _ _=>(@zu _ _ _ _ _ _ _ (@zh _ K rfl) (@pw _ 1 _ _ rfl rfl) (@zm _ _ _ _ _ _ _ _ _ _ _ d_law_draw hr (by omega) rfl (@za _ _ _ _ _ (@pw _ 2 _ _ rfl rfl) (@za _ _ _ _ _ (@zo _ _ _ _ _ _ _ _ _ (@zN _ K rfl) rfl gb.len qM (@za _ _ _ _ _ (@pw _ 1 _ _ rfl rfl) (@zb _) rfl) (by decide) (by decide) rfl rfl) (@zb _) rfl) rfl) (by decide) rfl rfl) (fun _ _=>rfl))) (by intro _;rfl)) (@zb _) rfl) (by decide) (by decide) rfl rfl)) rfl (by walk_at "f")) (@zi _ _ _ (@qZ _ _ _ _ _ _ _ _ (@zx _ _ _ _ _ _ _ _ (@op_le _) (@zm _ _ _ _ _ _ _ _ _ _ _ d_law_words hr (by omega) rfl (@za _ _ _ _ _ (@pw _ 10 _ _ rfl rfl) (@zb _) rfl) (by decide) rfl rfl) (@pw _ 4 _ _ rfl rfl) (@zH _ _ (by decide) (by decide))) (@zi _ _ _ (@qY _ _ _ _ (@ZP _ K _ _ _ _ _ _ _ _ _ _ _ A6 B0 Bz (@jw _) (@pw _ 5 _ _ rfl rfl) (@za _ _ _ _ _ (@pw _ 10 _ _ rfl rfl) (@zb _) rfl) rfl rfl rfl rfl rfl rfl) rfl)) (@zM _))))) (by intro _;rfl)) (@zi _ _ _ (@zA _ _ _ _ (@pw _ 5 _ _ rfl rfl))))),?_⟩
 obtain⟨a,w0,c0,vs,rfl,h1,h2,h3,h4⟩:=id tb
 have hvl:=h4.len
 have cl16:=gT.cl
 refine⟨_,rfl,ll,_,rfl,.inl (SqL.of hll),fun f hf=>?_⟩
 have n0:=zd hf (.lst (L.map V.str))
 have fp:=qG hp hf
 have p0:qk (upd H f (.lst (L.map V.str))) p:=hp.new hf
 refine⟨_,rfl,_,rfl,.inr (.inl ⟨a,_,2,_,rfl,rfl,SqT.of (n0 _ _ h1),rfl,zj (by show 0<=1000;decide),fun e0 he0=>?_⟩)⟩
 have n1:=zd he0 (.tup [])
 have p1:qk (upd (upd H f (.lst (L.map V.str))) e0 (.tup [])) p:=p0.new he0
 have s01:=n0.trans n1
 have hf1:=n1 _ _ (@zc H f (.lst (L.map V.str)))
 have he1:=@zc (upd H f (.lst (L.map V.str))) e0 (.tup [])
 generalize upd (upd H f (.lst (L.map V.str))) e0 (.tup [])=H1 at *
 refine⟨c0,e0,vs,rfl,rfl,s01 _ _ h3,he1,.inr ⟨_,rfl,?_⟩⟩
 have nn:∃ n:Nat,(steps:Int) * (if (!vs.isEmpty)=true then 1 else 0)=((n:Nat):Int)/\n<=8/\(0 < n->0 < vs.length):=by
  cases hv:vs with
  | nil=>exact⟨0,by simp,by omega,fun h=>absurd h (by decide)⟩
  | cons x xs=>exact⟨steps,by simp,s8,fun _=>Nat.succ_pos _⟩
 obtain⟨n,en,n8,npos⟩:=nn
 refine⟨_,_,rfl,rfl,.inr ⟨by split <;> omega,by split <;> omega⟩,?_⟩
 refine⟨(n:Int),by rw[<- en],by omega,by omega,?_⟩
 rw[BW]
 have l0:(L.map V.str)=(L.map fun x=>((V.str x,Sy.ltr x):V×Sy)).map Prod.fst:=by rw[A2];rfl
 refine ZJ (fun i σ H'=>(∃ x6 x7 x8 x9 x10,σ=[some (.ref p),some (.ref a),some (.ref ll),some (nV steps),some (nV most),some (.ref f),x6,x7,x8,x9,x10])/\Off p H H'/\qk H' p/\∃ fs:List (V×Sy),H' f=some (.lst (fs.map Prod.fst))/\1<=fs.length/\fs.length<=5+i/\∀ z ∈ fs,GSt T L z.2/\z.2.sz<=most/\qv H' z.2 z.1) ⟨⟨_,_,_,_,_,rfl⟩,Off.of s01,p1,L.map fun x=>(V.str x,Sy.ltr x),by rw[<- l0];exact hf1,by rw[AC];exact l1,by rw[AC];exact l5,fun z hz=>?_⟩ ?_ ?_
 ·obtain⟨x,hx,rfl⟩:=AS.mp hz
  exact⟨hx,o1,rfl⟩
 ·rintro i σ H2 hi ⟨⟨x6,x7,x8,x9,x10,rfl⟩,o2,p2,fs,hfs,fl1,fl5,hgood⟩
  have vpos:=npos (by omega)
  have tk2:=o2.tk hp
  have h12:=tk2 _ _ h1
  have h32:=tk2 _ _ h3
  refine⟨_,rfl,.inr (.inl ⟨a,_,2,_,rfl,rfl,SqT.of h12,rfl,_,rfl,_,rfl,.inr (.inl ⟨a,_,2,_,rfl,rfl,SqT.of h12,rfl,_,_,rfl,.inr ⟨_,SqT.of h32,rfl⟩,p,_,rfl,p2,by omega,by omega,fun u H3 u0 u1 o3 p3=>?_⟩)⟩)⟩
  have hu:u.toNat < T.cs.length:=by omega
  have hcc:T.cs[u.toNat]? = some T.cs[u.toNat]:=AK hu
  have hcm:=Bc hu
  generalize T.cs[u.toNat]=c at hcc hcm
  obtain⟨_,cp2,_⟩:=gT.cn c hcm
  have o03:=o2.trans o3
  have tk3:=o03.tk hp
  obtain⟨t,cu,e1,k1,k2⟩:=h4.get hcc
  have k13:=tk3 _ _ k1
  have eu:u=((u.toNat:Nat):Int):=by omega
  refine .inr (.inl ⟨c0,vs,u,.ref t,rfl,rfl,SqT.of (tk3 _ _ h3),by rw[eu];exact qQ e1,?_⟩)
  refine⟨t,_,rfl,SqT.of k13,rfl,_,_,rfl,_,_,rfl,_,_,rfl,rfl,?_⟩
  refine⟨_,rfl,zj (by show 1<=1000;decide),fun t1 ht1=>?_⟩
  have p4:qk (upd H3 t1 (.tup [.str c.nm])) p:=p3.new ht1
  have n4:=zd ht1 (.tup [.str c.nm])
  have t1p:=qG p3 ht1
  have ht1':=@zc H3 t1 (.tup [.str c.nm])
  have o04:=o03.trans (Off.of n4)
  have o24:=o3.trans (Off.of n4)
  generalize upd H3 t1 (.tup [.str c.nm])=H4 at *
  have hfs4:=o24 _ _ fp hfs
  have hg4:∀ z ∈ fs,GSt T L z.2/\z.2.sz<=most/\qv H4 z.2 z.1:=fun z hz=>by
   obtain⟨z1,z2,z3⟩:=hgood z hz
   exact⟨z1,z2,z3.tk (o24.tk p2)⟩
  refine⟨_,rfl,((c.pl:Nat):Int),rfl,by omega,by omega,fun D hD=>?_⟩
  rw[BW]
  have Dp:=qG p4 hD
  refine qF (fun j ys H'=>Off p H4 H'/\qk H' p/\∃ ps:List (V×Sy),ys=ps.map Prod.fst/\ps.length=j/\∀ y ∈ ps,y ∈ fs) ⟨Off.new hD,p4.new hD,[],rfl,rfl,(fun y hy=>by cases hy)⟩ ?_ ?_
  ·rintro j ys H5 hj ⟨o5,p5,ps,rfl,pl,hps⟩ hD5
   refine yes ⟨_,rfl,_,rfl,_,rfl,_,_,rfl,.inl ⟨_,SqL.of (o5 _ _ fp hfs4),rfl⟩,p,_,rfl,p5,by rw[AC];omega,by rw[AC];omega,fun y H6 y0 y1 o6 p6=>?_⟩
   rw[AC] at y1
   obtain⟨z,hz,hat⟩:=Q9 y0 y1
   refine .inl ⟨f,_,y,_,rfl,rfl,SqL.of ((o5.trans o6) _ _ fp hfs4),hat,?_⟩
   refine Jf hj qS (o6 _ _ Dp hD5) (by rw[AC];exact zq (by omega)) ⟨(o5.trans o6).fresh hD,p6.off (Am Dp),ps++[z],by rw[AM];rfl,by rw[AI,pl];rfl,fun y hy=>?_⟩
   rcases Aa.mp hy with h | h
   ·exact hps y h
   ·rw[AF.mp h]
    exact hz
  ·rintro ys H5 ⟨o5,p5,ps,rfl,pl,hps⟩ hD5
   refine⟨D,_,rfl,.inl ⟨SqL.of hD5,fun t2 ht2=>?_⟩⟩
   have n6:=zd ht2 (.tup (ps.map Prod.fst))
   refine Q5 (n6 _ _ (o5 _ _ t1p ht1')) zc (by rw[AC];show 1+ps.length<=1000;omega) fun t3 H7 s7 ht3=>?_
   have o47:=o5.trans (Off.of (n6.trans s7))
   have p7:qk H7 p:=qg p5 (n6.trans s7)
   have hfs7:=o47 _ _ fp hfs4
   have hg7:∀ z ∈ fs,GSt T L z.2/\z.2.sz<=most/\qv H7 z.2 z.1:=fun z hz=>by
    obtain⟨z1,z2,z3⟩:=hg4 z hz
    exact⟨z1,z2,z3.tk (o47.tk p4)⟩
   have pair:∀ qs:List (V×Sy),(∀ y ∈ qs,y ∈ fs)->Paired (qv H7) (qs.map Prod.snd) (qs.map Prod.fst):=by
    intro qs
    induction qs with
    | nil=>exact fun _=>.nil
    | cons y qs ih=>exact fun h=>.cons (hg7 y (h y AO)).2.2 (ih fun z hz=>h z (AU _ hz))
   have l2:(ps.map Prod.snd).length<=2:=by rw[AC];omega
   have isy:qv H7 (Sy.mk c.nm (ps.map Prod.snd)) (.ref t3):=qv.of ht3 (pair ps hps) l2
   have hzz:∀ b ∈ ps.map Prod.snd,GSt T L b/\b.sz<=most:=fun b hb=>by
    obtain⟨y,hy,rfl⟩:=AS.mp hb
    obtain⟨z1,z2,_⟩:=hg7 y (hps y hy)
    exact⟨z1,z2⟩
   have gsm:GSt T L (Sy.mk c.nm (ps.map Prod.snd)):=GSt.of hcm (by rw[AC,pl]) (fun b hb=>(hzz b hb).1) l2
   have dpm:(Sy.mk c.nm (ps.map Prod.snd)).dp<=10:=dp_mk fun b hb=>Ag (Sy.dp_sz b) (Ag (hzz b hb).2 o9)
   refine⟨_,rfl,_,_,rfl,isy,(show _<=11 by omega),fun H8 s8'=>?_⟩
   refine⟨_,rfl,_,_,rfl,rfl,_,rfl,?_⟩
   have hfs8:=s8' _ _ hfs7
   have o8:=o04.trans (o47.trans (Off.of s8'))
   have p8:=qg p7 s8'
   have hg8:∀ z ∈ fs,GSt T L z.2/\z.2.sz<=most/\qv H8 z.2 z.1:=fun z hz=>by
    obtain⟨z1,z2,z3⟩:=hg7 z hz
    exact⟨z1,z2,z3.same s8'⟩
   refine Z5 (fun c1=>?_) (fun c1=>?_)
   ·have hsz:(Sy.mk c.nm (ps.map Prod.snd)).sz<=most:=by
     have:=Az c1
     omega
    refine⟨_,rfl,.inl ⟨rfl,_,SqL.of hfs8⟩,_,rfl,f,_,_,rfl,rfl,hfs8,by rw[AC];exact zq (by omega),⟨_,_,_,_,_,rfl⟩,o8.fresh hf,p8.off (Am fp),fs++[(.ref t3,Sy.mk c.nm (ps.map Prod.snd))],by rw[zc,AM];rfl,by rw[AI];omega,by rw[AI];show fs.length+1<=_;omega,fun z hz=>?_⟩
    rcases Aa.mp hz with hz | hz
    ·obtain⟨z1,z2,z3⟩:=hg8 z hz
     exact⟨z1,z2,z3.tk (Tk.put hfs8)⟩
    ·rw[AF.mp hz]
     exact⟨gsm,hsz,(isy.same s8').tk (Tk.put hfs8)⟩
   ·exact⟨⟨_,_,_,_,_,rfl⟩,o8,p8,fs,hfs8,fl1,by omega,hg8⟩
 ·rintro σ H2 ⟨⟨x6,x7,x8,x9,x10,rfl⟩,o2,p2,fs,hfs,fl1,fl5,hgood⟩
  exact⟨_,rfl,q f fs H2 o2 p2 hf fp ⟨hfs,fl1,by omega,hgood⟩⟩
abbrev jn:Stmt:=top 39
theorem Z4:zv ["_law_pool_here", "_law_found", "_law_most", "_law_some"] ["_law_pool_here", "_law_found", "_law_most"] (zg jn):=⟨rfl,rfl,rfl,by decide +kernel,rfl,by decide +kernel,by decide +kernel⟩
theorem wq {P:Program} {w:World} {K:PySem.W.Frag} {mg:Str->Option Value} {base:Heap} {f:Addr} {fd:FuncData} (F:Fun K "_law_picked" "_law_picked" jn f fd) (gb:Gb mg) {c:Nat->Addr} (cl:Cl K mg c) (d_law_draw:Def P w K mg base 1 "_law_draw" ["_law_pool_here", "_law_many"] j4):jj P w K mg base CX0 2 f fd ["_law_pool_here", "_law_found", "_law_most"] wo:=by
 refine F.ok Z4 (fun vs H Q E h=>?_) (fun cdv A outer s H vs Q E hr h=>?_)
 ·obtain⟨p,l,T,L,most,fs,n,rfl,_⟩:=h
  rfl
 obtain⟨p,l,T,L,most,fs,n,rfl,hp,np,hf,n3,q⟩:=h
 have nd0:(["_law_k", "_law_found", "_law_pool_here"]:List Str).Nodup:=by decide +kernel
 refine⟨_,(@ze _ _ _ _ _ (@jx _ ["_law_k", "_law_found", "_law_pool_here"] [none,some 1,some 0] _ 3 _ _ _ _ _ _ _ _ _ _ _ _ (by exact (show zF ["_law_pool_here", "_law_found", "_law_most", "_law_some"] (zg jn) ["_law_k", "_law_found", "_law_pool_here"] [none,some 1,some 0] _ from⟨rfl,by decide +kernel,by decide +kernel,by decide +kernel,by decide +kernel,rfl,by decide +kernel⟩)) rfl (@qe _ _ _ _ _ _ rfl gb.range (@za _ _ _ _ _ (@zm _ _ _ _ _ _ _ _ _ _ _ d_law_draw hr (by omega) rfl (@za _ _ _ _ _ (@pw _ 0 _ _ rfl rfl) (@za _ _ _ _ _ (@zC _ _ _ _ _ _ _ _ (@ja _) (@pw _ 2 _ _ rfl rfl) (@zf _ _ _ _)) (@zb _) rfl) rfl) (by decide) rfl rfl) (@zb _) rfl) rfl) (fun _ _ _ _=>(@pgl _ 0 _ _ nd0 rfl rfl)) (fun _ _ _ _=>(@qC _)) (fun _ _ _ _=>(@zu _ _ _ _ _ _ _ (@zh _ K rfl) (@pw _ 1 _ _ rfl rfl) (@zm _ _ _ _ _ _ _ _ _ _ _ d_law_draw hr (by omega) rfl (@za _ _ _ _ _ (@pw _ 2 _ _ rfl rfl) (@za _ _ _ _ _ (@zo _ _ _ _ _ _ _ _ _ (@zN _ K rfl) rfl gb.len qM (@za _ _ _ _ _ (@pw _ 1 _ _ rfl rfl) (@zb _) rfl) (by decide) (by decide) rfl rfl) (@zb _) rfl) rfl) (by decide) rfl rfl) (fun _ _=>rfl))) Z4.nd rfl rfl rfl (by intro _;rfl)) (@zi _ _ _ (@zA _ _ _ _ (@zI _ _ _ _ _ (@za _ _ _ _ _ (@pw _ 3 _ _ rfl rfl) (@za _ _ _ _ _ (@zu _ _ _ _ _ _ _ (@zh _ K rfl) (@pw _ 1 _ _ rfl rfl) (@zC _ _ _ _ _ _ _ _ (@wB _) (@zC _ _ _ _ _ _ _ _ (@wB _) (@zo _ _ _ _ _ _ _ _ _ (@zN _ K rfl) rfl gb.len qM (@za _ _ _ _ _ (@pw _ 1 _ _ rfl rfl) (@zb _) rfl) (by decide) (by decide) rfl rfl) (@zf _ _ _ _)) (@zm _ _ _ _ _ _ _ _ _ _ _ d_law_draw hr (by omega) rfl (@za _ _ _ _ _ (@pw _ 0 _ _ rfl rfl) (@za _ _ _ _ _ (@zo _ _ _ _ _ _ _ _ _ (@Yd _ K rfl) rfl gb.min bt_min (@za _ _ _ _ _ (@zf _ _ _ _) (@za _ _ _ _ _ (@zo _ _ _ _ _ _ _ _ _ (@zN _ K rfl) rfl gb.len qM (@za _ _ _ _ _ (@pw _ 1 _ _ rfl rfl) (@zb _) rfl) (by decide) (by decide) rfl rfl) (@zb _) rfl) rfl) (by decide) (by decide) rfl rfl) (@zb _) rfl) rfl) (by decide) rfl rfl)) (fun _ _=>rfl)) (@zb _) rfl) rfl))))),?_⟩
 obtain⟨hfs,f1,f20,hgood⟩:=hf
 refine⟨_,rfl,_,rfl,_,_,rfl,rfl,p,_,rfl,hp,by omega,by omega,fun k H1 k0 k1 o1 p1=>?_⟩
 refine⟨k,rfl,by omega,by omega,fun D hD=>?_⟩
 have Dp:=qG p1 hD
 refine qF (fun j ys H'=>Off p H1 H'/\qk H' p/\∃ ps:List (V×Sy),ys=ps.map Prod.fst/\ps.length=j/\∀ y ∈ ps,y ∈ fs) ⟨Off.new hD,p1.new hD,[],rfl,rfl,(fun y hy=>by cases hy)⟩ ?_ ?_
 ·rintro j ys H5 hj ⟨o5,p5,ps,rfl,pl,hps⟩ hD5
  have hfs5:=(o1.trans o5) _ _ np hfs
  refine yes ⟨_,rfl,_,rfl,_,rfl,_,_,rfl,.inl ⟨_,SqL.of hfs5,rfl⟩,p,_,rfl,p5,by rw[AC];omega,by rw[AC];omega,fun y H6 y0 y1 o6 p6=>?_⟩
  rw[AC] at y1
  obtain⟨z,hz,hat⟩:=Q9 y0 y1
  refine .inl ⟨l,_,y,_,rfl,rfl,SqL.of (o6 _ _ np hfs5),hat,?_⟩
  refine Jf hj qS (o6 _ _ Dp hD5) (by rw[AC];exact zq (by omega)) ⟨(o5.trans o6).fresh hD,p6.off (Am Dp),ps++[z],by rw[AM];rfl,by rw[AI,pl];rfl,fun y hy=>?_⟩
  rcases Aa.mp hy with h | h
  ·exact hps y h
  ·rw[AF.mp h]
   exact hz
 ·rintro ys H5 ⟨o5,p5,ps,rfl,pl,hps⟩ hD5
  have hfs5:=(o1.trans o5) _ _ np hfs
  have lenv:LenV K (.ref l) H5 fs.length:=.inl ⟨_,SqL.of hfs5,by rw[AC]⟩
  refine⟨_,rfl,_,rfl,_,rfl,_,_,rfl,lenv,_,_,rfl,rfl,_,rfl,_,rfl,_,_,rfl,lenv,_,_,rfl,p,_,rfl,p5,by split <;> omega,by split <;> omega,fun y H6 y0 y1 o6 p6=>?_⟩
  have y1':y < fs.length:=by
   split at y1 <;> omega
  obtain⟨z,hz,hat⟩:=Q9 (fs:=fs) (u:=(fs.length:Int) - 1 - y) (by omega) (by omega)
  refine⟨_,_,rfl,rfl,.inl ⟨l,_,_,_,rfl,rfl,SqL.of (o6 _ _ np hfs5),hat,zj (by show 2<=1000;decide),fun t ht=>?_⟩⟩
  have o06:=o1.trans (o5.trans o6)
  have n7:=zd ht (.tup [.ref D,z.1])
  exact q t D ps z _ (o06.trans (Off.of n7)) (p6.new ht) (yR o1 hD Dp) Dp zc (n7 _ _ (o6 _ _ Dp hD5)) (by omega) hps hz
abbrev jP:Stmt:=top 40
theorem jo:zv ["_law_e", "_law_sort", "_law_sorts"] ["_law_e", "_law_sort"] (zg jP):=⟨rfl,rfl,rfl,by decide +kernel,rfl,by decide +kernel,by decide +kernel⟩
theorem WC {P:Program} {w:World} {K:PySem.W.Frag} {mg:Str->Option Value} {base:Heap} {f:Addr} {fd:FuncData} (F:Fun K "_law_alone" "_law_alone" jP f fd) (gb:Gb mg) {c:Nat->Addr} (cl:Cl K mg c):jj P w K mg base CX0 1 f fd ["_law_e", "_law_sort"] (ye (c 3)):=by
 refine F.ok jo (fun vs H Q E h=>?_) (fun cdv A outer s H vs Q E hr h=>?_)
 ·obtain⟨e,d,rfl,_⟩:=h
  rfl
 obtain⟨e,dd,rfl,he,q⟩:=h
 have nd0:(["_law_k", "_law_sort"]:List Str).Nodup:=by decide +kernel
 refine⟨_,(@ze _ _ _ _ _ (@zt _ _ 2 _ _ _ _ jo.nd rfl (Or.inl rfl) (@zK _ _ _ _ (@za _ _ _ _ _ (@zo _ _ _ _ _ _ _ _ _ (@qc _ K _ cl.h_NoName rfl) rfl gb.isinstance zw (@za _ _ _ _ _ (@pw _ 0 _ _ rfl rfl) (@za _ _ _ _ _ (@jp _ _ (.ref _) _ _ rfl cl.g_NoFraction rfl (by decide)) (@zb _) rfl) rfl) (by decide) (by decide) rfl rfl) (@za _ _ _ _ _ (@zo _ _ _ _ _ _ _ _ _ (@qc _ K _ cl.h_NoName rfl) rfl gb.isinstance zw (@za _ _ _ _ _ (@pw _ 0 _ _ rfl rfl) (@za _ _ _ _ _ (@jp _ _ (.ref _) _ _ rfl cl.g_NoTable rfl (by decide)) (@zb _) rfl) rfl) (by decide) (by decide) rfl rfl) (@za _ _ _ _ _ (@zo _ _ _ _ _ _ _ _ _ (@qc _ K _ cl.h_NoName rfl) rfl gb.isinstance zw (@za _ _ _ _ _ (@pw _ 0 _ _ rfl rfl) (@za _ _ _ _ _ (@jp _ _ (.ref _) _ _ rfl cl.g_NoName rfl (by decide)) (@zb _) rfl) rfl) (by decide) (by decide) rfl rfl) (@za _ _ _ _ _ (@zo _ _ _ _ _ _ _ _ _ (@qc _ K _ cl.h_NoName rfl) rfl gb.isinstance zw (@za _ _ _ _ _ (@pw _ 0 _ _ rfl rfl) (@za _ _ _ _ _ (@jp _ _ (.ref _) _ _ rfl cl.g_NoSaying rfl (by decide)) (@zb _) rfl) rfl) (by decide) (by decide) rfl rfl) (@zb _) rfl) rfl) rfl) rfl)) rfl (by walk_at "f")) (@ze _ _ _ _ _ (@zt _ _ 2 _ _ _ _ jo.nd rfl (Or.inl rfl) (@zC _ _ _ _ _ _ _ _ (@ZM _) (@pw _ 2 _ _ rfl rfl) (@zK _ _ _ _ (@za _ _ _ _ _ (@zo _ _ _ _ _ _ _ _ _ (@qc _ K _ cl.h_NoName rfl) rfl gb.isinstance zw (@za _ _ _ _ _ (@pw _ 0 _ _ rfl rfl) (@za _ _ _ _ _ (@jp _ _ (.ref _) _ _ rfl cl.g_NoLetter rfl (by decide)) (@zb _) rfl) rfl) (by decide) (by decide) rfl rfl) (@za _ _ _ _ _ (@zo _ _ _ _ _ _ _ _ _ (@qc _ K _ cl.h_NoName rfl) rfl gb.isinstance zw (@za _ _ _ _ _ (@pw _ 0 _ _ rfl rfl) (@za _ _ _ _ _ (@jp _ _ (.ref _) _ _ rfl cl.g_TooMany rfl (by decide)) (@zb _) rfl) rfl) (by decide) (by decide) rfl rfl) (@za _ _ _ _ _ (@zo _ _ _ _ _ _ _ _ _ (@qc _ K _ cl.h_NoName rfl) rfl gb.isinstance zw (@za _ _ _ _ _ (@pw _ 0 _ _ rfl rfl) (@za _ _ _ _ _ (@jp _ _ (.ref _) _ _ rfl cl.g_NoKind rfl (by decide)) (@zb _) rfl) rfl) (by decide) (by decide) rfl rfl) (@za _ _ _ _ _ (@zo _ _ _ _ _ _ _ _ _ (@qc _ K _ cl.h_NoName rfl) rfl gb.isinstance zw (@za _ _ _ _ _ (@pw _ 0 _ _ rfl rfl) (@za _ _ _ _ _ (@jp _ _ (.ref _) _ _ rfl cl.g_NoCount rfl (by decide)) (@zb _) rfl) rfl) (by decide) (by decide) rfl rfl) (@zb _) rfl) rfl) rfl) rfl))) rfl (by walk_at "f")) (@ze _ _ _ _ _ (@zt _ _ 2 _ _ _ _ jo.nd rfl (Or.inl rfl) (@zC _ _ _ _ _ _ _ _ (@ZM _) (@pw _ 2 _ _ rfl rfl) (@zK _ _ _ _ (@za _ _ _ _ _ (@zo _ _ _ _ _ _ _ _ _ (@qc _ K _ cl.h_NoName rfl) rfl gb.isinstance zw (@za _ _ _ _ _ (@pw _ 0 _ _ rfl rfl) (@za _ _ _ _ _ (@jp _ _ (.ref _) _ _ rfl cl.g_NoRow rfl (by decide)) (@zb _) rfl) rfl) (by decide) (by decide) rfl rfl) (@za _ _ _ _ _ (@zo _ _ _ _ _ _ _ _ _ (@qc _ K _ cl.h_NoName rfl) rfl gb.isinstance zw (@za _ _ _ _ _ (@pw _ 0 _ _ rfl rfl) (@za _ _ _ _ _ (@jp _ _ (.ref _) _ _ rfl cl.g_NoKept rfl (by decide)) (@zb _) rfl) rfl) (by decide) (by decide) rfl rfl) (@zb _) rfl) rfl))) rfl (by walk_at "f")) (@zi _ _ _ (@zA _ _ _ _ (@wz _ _ _ _ _ _ _ (@zo _ _ _ _ _ _ _ _ _ (@W5 _ K _ cl.h_NoName rfl) rfl gb.isinstance zw (@za _ _ _ _ _ (@pw _ 0 _ _ rfl rfl) (@za _ _ _ _ _ (@WK _ _ (.ty "ValueError") _ _ rfl gb.ValueError JX rfl (by decide) (by decide)) (@zb _) rfl) rfl) (by decide) (by decide) rfl rfl) (@YV _ _ _ _ _ (@jX _ _ _ _ _ _ _ _ (@op_eqL _ K _ hr rfl) (@pw _ 2 _ _ rfl rfl) (@zY _ ["_law_k", "_law_sort"] [none,some 1] _ _ _ _ _ _ _ _ _ _ (by exact (show zF ["_law_e", "_law_sort", "_law_sorts"] (zg jP) ["_law_k", "_law_sort"] [none,some 1] _ from⟨rfl,by decide +kernel,by decide +kernel,by decide +kernel,by decide +kernel,rfl,by decide +kernel⟩)) rfl (@qe _ _ _ _ _ _ rfl gb.range (@za _ _ _ _ _ (@zf _ _ _ _) (@zb _) rfl) rfl) (fun _ _ _ _=>(@pgl _ 0 _ _ nd0 rfl rfl)) (fun _ _ _ _=>(@qC _)) (fun _ _ _ _=>(@jX _ _ _ _ _ _ _ _ (@Zj _) (@pw _ 0 _ _ rfl rfl) (@pw _ 1 _ _ rfl rfl) (@zH _ _ (by decide) (by decide)))) (by intro _;rfl)) (@zH _ _ (by decide) (by decide)))))))))),?_⟩
 refine⟨_,rfl,e,_,_,_,rfl,he,cl.k_NoFraction,_,rfl,e,_,_,_,rfl,he,cl.k_NoTable,_,rfl,e,_,_,_,rfl,he,cl.k_NoName,_,rfl,e,_,_,_,rfl,he,cl.k_NoSaying,zj (by show 4<=1000;decide),fun l1 h1=>?_⟩
 have t1:zB H _:=zd h1 (.lst [.bl false,.bl false,.bl true,.bl false])
 have he1:=t1 _ _ he
 refine⟨_,rfl,_,rfl,e,_,_,_,rfl,he1,cl.k_NoLetter,_,rfl,e,_,_,_,rfl,he1,cl.k_TooMany,_,rfl,e,_,_,_,rfl,he1,cl.k_NoKind,_,rfl,e,_,_,_,rfl,he1,cl.k_NoCount,zj (by show 4<=1000;decide),fun l2 h2=>?_⟩
 have t2:=t1.trans (zd h2 (.lst [.bl false,.bl false,.bl false,.bl false]))
 refine⟨l1,l2,_,_,rfl,rfl,zd h2 _ _ _ zc,zc,zj (by show 4+4<=1000;decide),fun l3 h3=>?_⟩
 have t3:=t2.trans (zd h3 (.lst ([.bl false,.bl false,.bl true,.bl false]++[.bl false,.bl false,.bl false,.bl false])))
 have he3:=t3 _ _ he
 refine⟨_,rfl,_,rfl,e,_,_,_,rfl,he3,cl.k_NoRow,_,rfl,e,_,_,_,rfl,he3,cl.k_NoKept,zj (by show 2<=1000;decide),fun l4 h4=>?_⟩
 have t4:=t3.trans (zd h4 (.lst [.bl false,.bl false]))
 refine⟨l3,l4,_,_,rfl,rfl,zd h4 _ _ _ zc,zc,zj (by show 8+2<=1000;decide),fun l5 h5=>?_⟩
 have t5:=t4.trans (zd h5 (.lst (([.bl false,.bl false,.bl true,.bl false]++[.bl false,.bl false,.bl false,.bl false])++[.bl false,.bl false])))
 have he5:=t5 _ _ he
 refine⟨_,rfl,e,_,_,_,rfl,he5,cl.k_ValueError,true,rfl,YN ?_⟩
 refine⟨_,rfl,10,rfl,by decide,by decide,fun D hD=>?_⟩
 refine qF (fun i ys H'=>zB _ H'/\ys=(List.range i).map fun k=>V.bl (decide (V.int (0+((k:Nat):Int))=V.int 2))) ⟨zd hD _,rfl⟩ ?_ ?_
 ·rintro i ys H' hi ⟨s1,rfl⟩ hD'
  refine yes ?_
  refine⟨_,rfl,_,rfl,rfl,?_⟩
  refine Jf hi qS hD' (by rw[AC,Av];exact zq (by omega)) ⟨fun b o qb=>?_,?_⟩
  ·rw[zk (zr qb hD)]
   exact s1 b o qb
  ·rw[D4,AM]
   rfl
 ·rintro ys H' ⟨s1,rfl⟩ hD'
  refine⟨l5,D,_,_,rfl,rfl,SqL.of (s1 _ _ zc),SqL.of hD',by rfl,by rfl,?_⟩
  exact q _ (t5.trans s1)
abbrev jC:Stmt:=top 41
theorem qj:zv ["_law_pool_here", "_law_table", "_law_found", "_law_names", "_law_spare", "_law_parts", "_law_bad_here", "_law_name_here", "_law_places", "_law_cells_here"] ["_law_pool_here", "_law_table", "_law_found"] (zg jC):=⟨rfl,rfl,rfl,by decide +kernel,rfl,by decide +kernel,by decide +kernel⟩
theorem YK {P:Program} {w:World} {K:PySem.W.Frag} {mg:Str->Option Value} {base:Heap} {f:Addr} {fd:FuncData} (F:Fun K "_law_bad" "_law_bad" jC f fd) (gb:Gb mg) {c:Nat->Addr} (cl:Cl K mg c) (d_law_draw:Def P w K mg base 1 "_law_draw" ["_law_pool_here", "_law_many"] j4):jj P w K mg base CX0 3 f fd ["_law_pool_here", "_law_table", "_law_found"] spBad:=by
 refine F.ok qj (fun vs H Q E h=>?_) (fun cdv A outer s H vs Q E hr h=>?_)
 ·obtain⟨p,l,v,T,L,most,fs,rfl,_⟩:=h
  rfl
 obtain⟨p,l,v,T,L,most,fs,rfl,hp,tb,gT,nT,c5,np,hf,hL,m8,q⟩:=h
 have nd0:(["_law_one"]:List Str).Nodup:=by decide +kernel
 have nd1:(["_law_one", "_law_names"]:List Str).Nodup:=by decide +kernel
 have nd2:(["_law_k", "_law_found", "_law_pool_here"]:List Str).Nodup:=by decide +kernel
 refine⟨_,(@ze _ _ _ _ _ (@zt _ _ 3 _ _ _ _ qj.nd rfl (Or.inr rfl) (@zY _ ["_law_one"] [none] _ _ _ _ _ _ _ _ _ _ (by exact (show zF ["_law_pool_here", "_law_table", "_law_found", "_law_names", "_law_spare", "_law_parts", "_law_bad_here", "_law_name_here", "_law_places", "_law_cells_here"] (zg jC) ["_law_one"] [none] _ from⟨rfl,by decide +kernel,by decide +kernel,by decide +kernel,by decide +kernel,rfl,by decide +kernel⟩)) rfl (@Zx _ K _ _ _ (@zu _ _ _ _ _ _ _ (@zh _ K rfl) (@pw _ 1 _ _ rfl rfl) (@zf _ _ _ _) (fun _ _=>rfl)) rfl) (fun _ _ _ _=>(@pgl _ 0 _ _ nd0 rfl rfl)) (fun _ _ _ _=>(@qC _)) (fun _ _ _ _=>(@zu _ _ _ _ _ _ _ (@zh _ K rfl) (@pw _ 0 _ _ rfl rfl) (@zf _ _ _ _) (fun _ _=>rfl))) (by intro _;rfl)) rfl (by walk_at "f")) (@ze _ _ _ _ _ (@zt _ _ 4 _ _ _ _ qj.nd rfl (Or.inl rfl) (@zu _ _ _ _ _ _ _ (@zh _ K rfl) (@zY _ ["_law_one", "_law_names"] [none,some 3] _ _ _ _ _ _ _ _ _ _ (by exact (show zF ["_law_pool_here", "_law_table", "_law_found", "_law_names", "_law_spare", "_law_parts", "_law_bad_here", "_law_name_here", "_law_places", "_law_cells_here"] (zg jC) ["_law_one", "_law_names"] [none,some 3] _ from⟨rfl,by decide +kernel,by decide +kernel,by decide +kernel,by decide +kernel,rfl,by decide +kernel⟩)) rfl (@zP _ K _ _ _ (@zK _ _ _ _ (@za _ _ _ _ _ (@ql _ _ _ _) (@za _ _ _ _ _ (@ql _ _ _ _) (@za _ _ _ _ _ (@ql _ _ _ _) (@za _ _ _ _ _ (@ql _ _ _ _) (@za _ _ _ _ _ (@ql _ _ _ _) (@za _ _ _ _ _ (@ql _ _ _ _) (@zb _) rfl) rfl) rfl) rfl) rfl) rfl)) rfl) (fun _ _ _ _=>(@pgl _ 0 _ _ nd1 rfl rfl)) (fun _ _ _ _=>(@Ju _ _ _ (@zx _ _ _ _ _ _ _ _ (@ZO _ K rfl) (@pw _ 0 _ _ rfl rfl) (@pw _ 1 _ _ rfl rfl) (by with_unfolding_all rfl)))) (fun _ _ _ _=>(@pw _ 0 _ _ rfl rfl)) (by intro _;rfl)) (@zf _ _ _ _) (fun _ _=>rfl)) rfl (by walk_at "f")) (@ze _ _ _ _ _ (@jx _ ["_law_k", "_law_found", "_law_pool_here"] [none,some 2,some 0] _ 5 _ _ _ _ _ _ _ _ _ _ _ _ (by exact (show zF ["_law_pool_here", "_law_table", "_law_found", "_law_names", "_law_spare", "_law_parts", "_law_bad_here", "_law_name_here", "_law_places", "_law_cells_here"] (zg jC) ["_law_k", "_law_found", "_law_pool_here"] [none,some 2,some 0] _ from⟨rfl,by decide +kernel,by decide +kernel,by decide +kernel,by decide +kernel,rfl,by decide +kernel⟩)) rfl (@qe _ _ _ _ _ _ rfl gb.range (@za _ _ _ _ _ (@zf _ _ _ _) (@zb _) rfl) rfl) (fun _ _ _ _=>(@pgl _ 0 _ _ nd2 rfl rfl)) (fun _ _ _ _=>(@qC _)) (fun _ _ _ _=>(@zu _ _ _ _ _ _ _ (@zh _ K rfl) (@pw _ 1 _ _ rfl rfl) (@zm _ _ _ _ _ _ _ _ _ _ _ d_law_draw hr (by omega) rfl (@za _ _ _ _ _ (@pw _ 2 _ _ rfl rfl) (@za _ _ _ _ _ (@zo _ _ _ _ _ _ _ _ _ (@zN _ K rfl) rfl gb.len qM (@za _ _ _ _ _ (@pw _ 1 _ _ rfl rfl) (@zb _) rfl) (by decide) (by decide) rfl rfl) (@zb _) rfl) rfl) (by decide) rfl rfl) (fun _ _=>rfl))) qj.nd rfl rfl rfl (by intro _;rfl)) (@ze _ _ _ _ _ (@zt _ _ 6 _ _ _ _ qj.nd rfl (Or.inl rfl) (@zC _ _ _ _ _ _ _ _ (@QL _ K rfl) (@zI _ _ _ _ _ (@za _ _ _ _ _ (@pw _ 4 _ _ rfl rfl) (@zb _) rfl)) (@zE _ _ _ _ _ _ _ _ _ (@zT _ K rfl) rfl gb.tuple jE (@za _ _ _ _ _ (@qx _ _ _ _ _ _ _ _ _ _ (@Z8 _ K rfl) (@pw _ 5 _ _ rfl rfl) (@jb _) (@jc _ _ _ (@zm _ _ _ _ _ _ _ _ _ _ _ d_law_draw hr (by omega) rfl (@za _ _ _ _ _ (@pw _ 0 _ _ rfl rfl) (@za _ _ _ _ _ (@zf _ _ _ _) (@zb _) rfl) rfl) (by decide) rfl rfl))) (@zb _) rfl) (by decide) (by decide) rfl rfl)) rfl (by walk_at "f")) (@ze _ _ _ _ _ (@qZ _ _ _ _ _ _ _ _ (@PW.pt _ _ _ (@Zl _ _ _ _ _ _ _ (@zx _ _ _ _ _ _ _ _ (@Zh _ K _ hr rfl) (@pw _ 3 _ _ rfl rfl) (@zK _ _ _ _ (@zb _)) (@zH _ _ (by decide) (by decide))) (@jD _ _ _ _ (@zx _ _ _ _ _ _ _ _ (@Zj _) (@zm _ _ _ _ _ _ _ _ _ _ _ d_law_draw hr (by omega) rfl (@za _ _ _ _ _ (@pw _ 0 _ _ rfl rfl) (@za _ _ _ _ _ (@zf _ _ _ _) (@zb _) rfl) rfl) (by decide) rfl rfl) (@zf _ _ _ _) (@zH _ _ (by decide) (by decide)))))) (@ze _ _ _ _ _ (@Qk _ _ _ _ _ _ (@zu _ _ _ _ _ _ _ (@zh _ K rfl) (@zu _ _ _ _ _ _ _ (@zh _ K rfl) (@pw _ 1 _ _ rfl rfl) (@zf _ _ _ _) (fun _ _=>rfl)) (@zm _ _ _ _ _ _ _ _ _ _ _ d_law_draw hr (by omega) rfl (@za _ _ _ _ _ (@pw _ 0 _ _ rfl rfl) (@za _ _ _ _ _ (@zo _ _ _ _ _ _ _ _ _ (@zN _ K rfl) rfl gb.len qM (@za _ _ _ _ _ (@pw _ 3 _ _ rfl rfl) (@zb _) rfl) (by decide) (by decide) rfl rfl) (@zb _) rfl) rfl) (by decide) rfl rfl) (fun _ _=>rfl)) (@Zy _ K _ _ _ _ 3 rfl (@zO _ _ _ _ _ (@pgl _ 7 _ _ qj.nd rfl rfl) (@zO _ _ _ _ _ (@pgl _ 8 _ _ qj.nd rfl rfl) (@zO _ _ _ _ _ (@pgl _ 9 _ _ qj.nd rfl rfl) (@Zt _) rfl) rfl) rfl) rfl rfl rfl) rfl rfl rfl) (@zi _ _ _ (@zt _ _ 6 _ _ _ _ qj.nd rfl (Or.inl rfl) (@zC _ _ _ _ _ _ _ _ (@QL _ K rfl) (@zI _ _ _ _ _ (@za _ _ _ _ _ (@pw _ 7 _ _ rfl rfl) (@zb _) rfl)) (@zE _ _ _ _ _ _ _ _ _ (@zT _ K rfl) rfl gb.tuple jE (@za _ _ _ _ _ (@qx _ _ _ _ _ _ _ _ _ _ (@Z8 _ K rfl) (@pw _ 5 _ _ rfl rfl) (@jb _) (@jc _ _ _ (@zu _ _ _ _ _ _ _ (@zh _ K rfl) (@zK _ _ _ _ (@za _ _ _ _ _ (@zf _ _ _ _) (@za _ _ _ _ _ (@zf _ _ _ _) (@za _ _ _ _ _ (@zf _ _ _ _) (@zb _) rfl) rfl) rfl)) (@pw _ 8 _ _ rfl rfl) (fun _ _=>rfl)))) (@zb _) rfl) (by decide) (by decide) rfl rfl)) rfl (by walk_at "f")))) (@zM _)) (@zi _ _ _ (@zA _ _ _ _ (@pw _ 6 _ _ rfl rfl)))))))),?_⟩
 obtain⟨a,w0,c0,vs,rfl,h1,h2,h3,h4⟩:=id tb
 obtain⟨hfs,f1,f20,hgood⟩:=hf
 have hvl:=h4.len
 have ez:vs=(T.cs.zip vs).map Prod.snd:=by rw[List.map_snd_zip (by rw[h4.len];exact AG _)]
 refine⟨_,rfl,.inr (.inl ⟨a,_,2,_,rfl,rfl,SqT.of h1,rfl,c0,rfl,⟨_,SqT.of h3⟩,fun D1 hD1=>?_⟩)⟩
 have D1p:=qG hp hD1
 refine map_tup (T.cs.zip vs) Prod.snd (fun z=>.str z.1.nm) (by rw[<- ez];exact h3) (by rw[List.length_zip];omega) hD1 (fun z hz H' Q' s1 q'=>?_) (fun H1 s1 hn1=>?_)
 ·obtain⟨cc,v⟩:=z
  obtain⟨i,hi⟩:=List.getElem?_of_mem hz
  rw[Bs] at hi
  obtain⟨t,u,e1,k1,k2⟩:=h4.get hi.1
  rw[hi.2] at e1
  cases e1
  exact⟨_,rfl,.inr (.inl ⟨t,_,0,_,rfl,rfl,SqT.of (s1 _ _ k1),rfl,q' H' zB.rfl'⟩)⟩
 have enm:((T.cs.zip vs).map fun z=>V.str z.1.nm)=(qf T).map V.str:=by
  unfold qf
  rw[A2]
  conv=>rhs;rw[<- List.map_fst_zip (l₁:=T.cs) (l₂:=vs) (by rw[h4.len];exact AG _)]
  rw[A2]
  rfl
 rw[enm] at hn1
 have p1:qk H1 p:=qg hp s1
 have n5:(qf T).length<=5:=by unfold qf;rw[List.length_map];exact c5
 refine⟨zj (by show 6<=1000;decide),fun l0 hl0=>⟨l0,rfl,⟨_,SqL.of zc⟩,fun D2 hD2=>?_⟩⟩
 have m2:=zd hl0 (.lst (WG.map V.str))
 have hl0':=@zc H1 l0 (.lst (WG.map V.str))
 have p2:qk (upd H1 l0 (.lst (WG.map V.str))) p:=p1.new hl0
 change jZ _ _ _ _ _ (upd H1 l0 (.lst (WG.map V.str))) _ _
 replace hD2:upd H1 l0 (.lst (WG.map V.str)) D2=none:=hD2
 generalize upd H1 l0 (.lst (WG.map V.str))=H2 at *
 have D2p:=qG p2 hD2
 have hn2:=m2 _ _ hn1
 refine jy (xs:=WG.map V.str) (fun i ys H'=>zB H2 H'/\ys=((WG.take i).filter fun x=>decide (x ∉ qf T)).map V.str) ⟨zd hD2 _,rfl⟩ (fun i ys H' h _=>SqL.of (h.1 _ _ hl0')) ?_ ?_
 ·rintro i ys H3 x hx ⟨s3,rfl⟩ hD3
  have hi:i < (WG.map V.str).length:=(AE.mp hx).1
  rw[AW] at hx
  obtain⟨w,hw,rfl⟩:=Ac.mp hx
  refine⟨_,rfl,_,rfl,D1,_,rfl,.inl (SqL.of (s3 _ _ hn2)),rfl,YH _,_,rfl,?_⟩
  dsimp only
  rw[if_pos rfl,in_strs]
  have zl:(((WG.take i).filter fun x=>decide (x ∉ qf T)).map V.str).length<=6:=by
   rw[AC]
   refine Ag (B9 _ _) ?_
   rw[AZ]
   exact Nat.min_le_right _ _
  by_cases hm:w ∈ qf T
  ·rw[BV hm]
   refine cno hi qS hD3 ⟨s3,?_⟩
   rw[take_snoc hw,Bd]
   simp[hm]
  ·rw[Ay hm]
   refine⟨_,rfl,Jf hi qS hD3 (zq (by omega)) ⟨s3.put hD2,?_⟩⟩
   rw[take_snoc hw,Bd,AM]
   simp[hm]
 rintro ys H3 ⟨s3,rfl⟩ hD3
 rw[AC,Aq] at hD3
 obtain⟨spare,rest,efil,hsp⟩:=six_free n5
 rw[efil] at hD3
 refine .inl ⟨D2,_,0,_,rfl,rfl,SqL.of hD3,at0,?_⟩
 have p3:qk H3 p:=qg p2 s3
 have S3:=s1.trans (m2.trans s3)
 have hn3:=s3 _ _ hn2
 refine⟨2,rfl,by decide,by decide,fun D3 hD3'=>?_⟩
 have D3p:=qG p3 hD3'
 refine qF (fun j ys H'=>Off p H3 H'/\qk H' p/\∃ ps:List (V×Sy),ys=ps.map Prod.fst/\ps.length=j/\∀ y ∈ ps,y ∈ fs) ⟨Off.new hD3',p3.new hD3',[],rfl,rfl,(fun y hy=>by cases hy)⟩ ?_ ?_
 ·rintro j ys H5 hj ⟨o5,p5,ps,rfl,pl,hps⟩ hD5
  have hj2:j < 2:=hj
  have hfs5:=o5 _ _ np (S3 _ _ hfs)
  refine yes ⟨_,rfl,_,rfl,_,rfl,_,_,rfl,.inl ⟨_,SqL.of hfs5,rfl⟩,p,_,rfl,p5,by rw[AC];omega,by rw[AC];omega,fun y H6 y0 y1 o6 p6=>?_⟩
  rw[AC] at y1
  obtain⟨z,hz,hat⟩:=Q9 y0 y1
  refine .inl ⟨l,_,y,_,rfl,rfl,SqL.of (o6 _ _ np hfs5),hat,?_⟩
  refine Jf hj qS (o6 _ _ D3p hD5) (by rw[AC];exact zq (by omega)) ⟨(o5.trans o6).fresh hD3',p6.off (Am D3p),ps++[z],by rw[AM];rfl,by rw[AI,pl];rfl,fun y hy=>?_⟩
  rcases Aa.mp hy with h | h
  ·exact hps y h
  ·rw[AF.mp h]
   exact hz
 rintro ys H5 ⟨o5,p5,ps,rfl,pl,hps⟩ hD5
 have pl2:ps.length=2:=pl
 have O5:=(Off.of (p:=p) S3).trans o5
 have fin:∀ (nm:Str) (k:Nat) (t:Addr) (H':Hp),k<=2->Off p H H'->qk H' p->H' t=some (.tup (.str nm :: (ps.take k).map Prod.fst))->(∀ c ∈ T.cs,c.nm=nm->c.pl ≠ k)->Q (.ref t) H':=fun nm k t H' k2 o' p' ht hno=>by
  have hin:∀ z ∈ ps.take k,GSt T L z.2/\z.2.sz<=most/\qv H' z.2 z.1:=fun z hz=>by
   obtain⟨z1,z2,z3⟩:=hgood z (hps z (Bx hz))
   exact⟨z1,z2,z3.tk (o'.tk hp)⟩
  have hl:((ps.take k).map Prod.snd).length=k:=by rw[AC,AZ,pl2];omega
  refine q t (Sy.mk nm ((ps.take k).map Prod.snd)) H' o' p' (qv.of ht (pr_of fun z hz=>(hin z hz).2.2) (by omega)) (Sy.mk_isL _ _) (fun kn=>?_) (Jb fun s hs=>?_) ?_
  ·rcases kn with z | ⟨c,hc,cn,cp⟩
   ·rw[Sy.mk_isL] at z;cases z
   ·rw[Sy.nm_mk] at cn
    rw[Sy.ps_mk (by omega),hl] at cp
    exact hno c hc cn cp
  ·obtain⟨z,hz,rfl⟩:=AS.mp hs
   exact Zd.of hL (hin z hz).1
  ·rw[YI (by omega)]
   have:∀ ls:List (V×Sy),(∀ z ∈ ls,z.2.sz<=8)->((ls.map Prod.snd).map Sy.sz).sum<=8 * ls.length:=fun ls=>by
    induction ls with
    | nil=>intro _;exact AG _
    | cons z ls ih=>
     intro h
     have h1:=h z AO
     have h2:=ih fun y hy=>h y (AU _ hy)
     simp only[List.map_cons,List.sum_cons,List.length_cons]
     omega
   have h3:=this (ps.take k) fun z hz=>Ag (hin z hz).2.1 m8
   rw[AZ,pl2] at h3
   omega
 have hn5:=o5 _ _ D1p hn3
 refine⟨_,rfl,zj (by show 1<=1000;decide),fun t1 ht1=>?_⟩
 have t1p:=qG p5 ht1
 have m6:=zd ht1 (.tup [.str spare])
 have p6:qk (upd H5 t1 (.tup [.str spare])) p:=p5.new ht1
 have ht1':=@zc H5 t1 (.tup [.str spare])
 have hD6:=m6 _ _ hD5
 have hn6:=m6 _ _ hn5
 have O6:=O5.trans (Off.of (p:=p) m6)
 generalize upd H5 t1 (.tup [.str spare])=H6 at *
 refine⟨_,rfl,_,rfl,p,3,rfl,p6,by decide,by decide,fun u H7 u0 u1 o7 p7=>⟨u,rfl,.inl ⟨D3,_,rfl,SqL.of (o7 _ _ D3p hD6),fun l4 hl4=>?_⟩⟩⟩
 have eu:u=((u.toNat:Nat):Int):=by omega
 rw[eu,QF u.toNat (by rw[AC,pl2];omega),<- Cb]
 have l4p:=qG p7 hl4
 have m8':=zd hl4 (.lst ((ps.take u.toNat).map Prod.fst))
 refine⟨l4,_,rfl,.inl ⟨SqL.of zc,fun t2 ht2=>?_⟩⟩
 have m9:=zd ht2 (.tup ((ps.take u.toNat).map Prod.fst))
 have O9:=(O6.trans o7).trans (Off.of (p:=p) (m8'.trans m9))
 have p9:qk (upd (upd H7 l4 (.lst ((ps.take u.toNat).map Prod.fst))) t2 (.tup ((ps.take u.toNat).map Prod.fst))) p:=qg p7 (m8'.trans m9)
 refine Q5 ((m8'.trans m9) _ _ (o7 _ _ t1p ht1')) zc (by rw[AC,AZ];show 1+_<=1000;omega) fun t3 H10 s10 ht3=>?_
 have p10:=qg p9 s10
 have O10:=O9.trans (Off.of (p:=p) s10)
 have hn10:=s10 _ _ ((m8'.trans m9) _ _ (o7 _ _ D1p hn6))
 have hD10:=s10 _ _ ((m8'.trans m9) _ _ (o7 _ _ D3p hD6))
 have first:Q (.ref t3) H10:=fin spare u.toNat t3 H10 (by omega) O10 p10 ht3 fun c hc cn=>absurd (by rw[<- cn];unfold qf;exact AS.mpr ⟨c,hc,rfl⟩) hsp
 have again:∀ H',Off p H10 H'->qk H' p->H' t3=some (.tup (.str spare :: (ps.take u.toNat).map Prod.fst))->Q (.ref t3) H':=fun H' o' p' ht'=>fin spare u.toNat t3 H' (by omega) (O10.trans o') p' ht' fun c hc cn=>absurd (by rw[<- cn];unfold qf;exact AS.mpr ⟨c,hc,rfl⟩) hsp
 refine⟨_,rfl,zj (by show 0<=1000;decide),fun ln hln=>?_⟩
 have m11:=zd hln (.lst [])
 refine⟨D1,ln,_,rfl,rfl,SqL.of (m11 _ _ hn10),SqL.of zc,_,rfl,?_⟩
 have p11:qk (upd H10 ln (.lst [])) p:=p10.new hln
 have hn11:=m11 _ _ hn10
 have hD11:=m11 _ _ hD10
 have ht11:=m11 _ _ ht3
 have O11:=O10.trans (Off.of (p:=p) m11)
 have o11:Off p H10 (upd H10 ln (.lst [])):=Off.of m11
 have t3p:t3 ≠ p:=fun z=>by
  obtain⟨r,a',b',e⟩:=p10
  rw[<- z,ht3] at e
  cases e
 generalize upd H10 ln (.lst [])=H11 at *
 refine Z5 (fun hne=>?_) (fun _=>⟨_,rfl,again H11 o11 p11 ht11⟩)
 refine⟨_,rfl,p,2,rfl,p11,by decide,by decide,fun u2 H12 u20 u21 o12 p12=>⟨rfl,_,rfl,?_⟩⟩
 refine Z5 (fun _=>?_) (fun _=>⟨_,rfl,again H12 (o11.trans o12) p12 (o12 _ _ t3p ht11)⟩)
 have O12:=O11.trans o12
 have tk12:=O12.tk hp
 have npos:0 < (qf T).length:=by
  cases hh:qf T with
  | nil=>rw[hh] at hne;exact absurd hne (by simp)
  | cons x xs=>exact Nat.succ_pos _
 have nl:(qf T).length=T.cs.length:=by unfold qf;rw[List.length_map]
 have hn12:=o12 _ _ D1p hn11
 refine⟨_,rfl,.inr (.inl ⟨a,_,2,_,rfl,rfl,SqT.of (tk12 _ _ h1),rfl,_,rfl,_,rfl,_,_,rfl,.inl ⟨_,SqL.of hn12,rfl⟩,p,_,rfl,p12,by rw[AC];omega,by rw[AC];omega,fun u3 H13 u30 u31 o13 p13=>?_⟩)⟩
 rw[AC,nl] at u31
 have hu:u3.toNat < T.cs.length:=by omega
 have hcc:T.cs[u3.toNat]? = some T.cs[u3.toNat]:=AK hu
 have hcm:=Bc hu
 generalize T.cs[u3.toNat]=cc at hcc hcm
 obtain⟨_,cp2,_⟩:=gT.cn cc hcm
 have O13:=O12.trans o13
 have tk13:=O13.tk hp
 obtain⟨t,cu,e1,k1,k2⟩:=h4.get hcc
 have eu3:u3=((u3.toNat:Nat):Int):=by omega
 refine .inr (.inl ⟨c0,vs,u3,.ref t,rfl,rfl,SqT.of (tk13 _ _ h3),by rw[eu3];exact qQ e1,?_⟩)
 refine⟨t,_,rfl,SqT.of (tk13 _ _ k1),rfl,_,_,rfl,_,_,rfl,_,_,rfl,rfl,?_⟩
 refine⟨_,rfl,zj (by show 1<=1000;decide),fun t4 ht4=>?_⟩
 have m14:=zd ht4 (.tup [.str cc.nm])
 have ht4':=@zc H13 t4 (.tup [.str cc.nm])
 have hD14:=m14 _ _ ((o12.trans o13) _ _ D3p hD11)
 have p14:qk (upd H13 t4 (.tup [.str cc.nm])) p:=p13.new ht4
 have O14:=O13.trans (Off.of (p:=p) m14)
 generalize upd H13 t4 (.tup [.str cc.nm])=H14 at *
 obtain⟨kk,hat,kk2,kkne⟩:=at120 cp2
 refine⟨_,rfl,zj (by show 3<=1000;decide),fun lx hlx=>⟨_,rfl,.inl ⟨lx,_,_,_,rfl,rfl,SqL.of zc,hat,(kk:Int),rfl,.inl ⟨D3,_,rfl,SqL.of (zd hlx _ _ _ hD14),fun l5 hl5=>?_⟩⟩⟩⟩
 have m15:=zd hlx (.lst [V.int 1,V.int 2,V.int 0])
 rw[QF kk (by rw[AC,pl2];omega),<- Cb]
 have m16:=zd hl5 (.lst ((ps.take kk).map Prod.fst))
 refine⟨l5,_,rfl,.inl ⟨SqL.of zc,fun t5 ht5=>?_⟩⟩
 have m17:=m15.trans (m16.trans (zd ht5 (.tup ((ps.take kk).map Prod.fst))))
 refine Q5 (m17 _ _ ht4') zc (by rw[AC,AZ];show 1+_<=1000;omega) fun t6 H18 s18 ht6=>?_
 have s14:=m17.trans s18
 refine⟨_,rfl,fin cc.nm kk t6 H18 kk2 (O14.trans (Off.of (p:=p) s14)) (qg p14 s14) ht6 fun c' hc' cn'=>?_⟩
 obtain⟨i1,e1'⟩:=BM.mp hc'
 have:=nm_inj nT e1' hcc cn'
 rw[this,hcc] at e1'
 rw[<- AL e1']
 exact Am kkne
abbrev ji:Stmt:=top 42
theorem qw:zv ["_law_pool_here", "_law_table", "_law_found", "_law_bad_here", "_law_other", "_law_twos", "_law_ones", "_law_way"] ["_law_pool_here", "_law_table", "_law_found"] (zg ji):=⟨rfl,rfl,rfl,by decide +kernel,rfl,by decide +kernel,by decide +kernel⟩
theorem WD {P:Program} {w:World} {K:PySem.W.Frag} {mg:Str->Option Value} {base:Heap} {f:Addr} {fd:FuncData} (F:Fun K "_law_worse" "_law_worse" ji f fd) (gb:Gb mg) {c:Nat->Addr} (cl:Cl K mg c) (d_law_draw:Def P w K mg base 1 "_law_draw" ["_law_pool_here", "_law_many"] j4) (d_law_bad:Def P w K mg base 3 "_law_bad" ["_law_pool_here", "_law_table", "_law_found"] spBad):jj P w K mg base CX0 4 f fd ["_law_pool_here", "_law_table", "_law_found"] yf:=by
 refine F.ok qw (fun vs H Q E h=>?_) (fun cdv A outer s H vs Q E hr h=>?_)
 ·obtain⟨p,l,v,T,L,most,fs,rfl,_⟩:=h
  rfl
 obtain⟨p,l,v,T,L,most,fs,rfl,hp,tb,gT,nT,c5,np,hf,hL,m8,q⟩:=h
 have nd0:(["_law_one"]:List Str).Nodup:=by decide +kernel
 have nd1:(["_law_one"]:List Str).Nodup:=by decide +kernel
 refine⟨_,(@ze _ _ _ _ _ (@zt _ _ 3 _ _ _ _ qw.nd rfl (Or.inl rfl) (@zm _ _ _ _ _ _ _ _ _ _ _ d_law_bad hr (by omega) rfl (@za _ _ _ _ _ (@pw _ 0 _ _ rfl rfl) (@za _ _ _ _ _ (@pw _ 1 _ _ rfl rfl) (@za _ _ _ _ _ (@pw _ 2 _ _ rfl rfl) (@zb _) rfl) rfl) rfl) (by decide) rfl rfl) rfl (by walk_at "f")) (@ze _ _ _ _ _ (@zt _ _ 4 _ _ _ _ qw.nd rfl (Or.inl rfl) (@zm _ _ _ _ _ _ _ _ _ _ _ d_law_bad hr (by omega) rfl (@za _ _ _ _ _ (@pw _ 0 _ _ rfl rfl) (@za _ _ _ _ _ (@pw _ 1 _ _ rfl rfl) (@za _ _ _ _ _ (@pw _ 2 _ _ rfl rfl) (@zb _) rfl) rfl) rfl) (by decide) rfl rfl) rfl (by walk_at "f")) (@ze _ _ _ _ _ (@jx _ ["_law_one"] [none] _ 5 _ _ _ _ _ _ _ _ _ _ _ _ (by exact (show zF ["_law_pool_here", "_law_table", "_law_found", "_law_bad_here", "_law_other", "_law_twos", "_law_ones", "_law_way"] (zg ji) ["_law_one"] [none] _ from⟨rfl,by decide +kernel,by decide +kernel,by decide +kernel,by decide +kernel,rfl,by decide +kernel⟩)) rfl (@Zx _ K _ _ _ (@zu _ _ _ _ _ _ _ (@zh _ K rfl) (@pw _ 1 _ _ rfl rfl) (@zf _ _ _ _) (fun _ _=>rfl)) rfl) (fun _ _ _ _=>(@pgl _ 0 _ _ nd0 rfl rfl)) (fun _ _ _ _=>(@Ju _ _ _ (@zx _ _ _ _ _ _ _ _ (@Zj _) (@zu _ _ _ _ _ _ _ (@zh _ K rfl) (@pw _ 0 _ _ rfl rfl) (@zf _ _ _ _) (fun _ _=>rfl)) (@zf _ _ _ _) (@zH _ _ (by decide) (by decide))))) (fun _ _ _ _=>(@pw _ 0 _ _ rfl rfl)) qw.nd rfl rfl rfl (by intro _;rfl)) (@ze _ _ _ _ _ (@jx _ ["_law_one"] [none] _ 6 _ _ _ _ _ _ _ _ _ _ _ _ (by exact (show zF ["_law_pool_here", "_law_table", "_law_found", "_law_bad_here", "_law_other", "_law_twos", "_law_ones", "_law_way"] (zg ji) ["_law_one"] [none] _ from⟨rfl,by decide +kernel,by decide +kernel,by decide +kernel,by decide +kernel,rfl,by decide +kernel⟩)) rfl (@Zx _ K _ _ _ (@zu _ _ _ _ _ _ _ (@zh _ K rfl) (@pw _ 1 _ _ rfl rfl) (@zf _ _ _ _) (fun _ _=>rfl)) rfl) (fun _ _ _ _=>(@pgl _ 0 _ _ nd1 rfl rfl)) (fun _ _ _ _=>(@Ju _ _ _ (@zx _ _ _ _ _ _ _ _ (@Zj _) (@zu _ _ _ _ _ _ _ (@zh _ K rfl) (@pw _ 0 _ _ rfl rfl) (@zf _ _ _ _) (fun _ _=>rfl)) (@zf _ _ _ _) (@zH _ _ (by decide) (by decide))))) (fun _ _ _ _=>(@pw _ 0 _ _ rfl rfl)) qw.nd rfl rfl rfl (by intro _;rfl)) (@ze _ _ _ _ _ (@zt _ _ 7 _ _ _ _ qw.nd rfl (Or.inl rfl) (@zm _ _ _ _ _ _ _ _ _ _ _ d_law_draw hr (by omega) rfl (@za _ _ _ _ _ (@pw _ 0 _ _ rfl rfl) (@za _ _ _ _ _ (@zf _ _ _ _) (@zb _) rfl) rfl) (by decide) rfl rfl) rfl (by walk_at "f")) (@ze _ _ _ _ _ (@qZ _ _ _ _ _ _ _ _ (@PW.pt _ _ _ (@Zl _ _ _ _ _ _ _ (@zx _ _ _ _ _ _ _ _ (@Zj _) (@pw _ 7 _ _ rfl rfl) (@zf _ _ _ _) (@zH _ _ (by decide) (by decide))) (@jD _ _ _ _ (@zx _ _ _ _ _ _ _ _ (@op_gt _) (@zo _ _ _ _ _ _ _ _ _ (@zN _ K rfl) rfl gb.len qM (@za _ _ _ _ _ (@pw _ 3 _ _ rfl rfl) (@zb _) rfl) (by decide) (by decide) rfl rfl) (@zf _ _ _ _) (@zH _ _ (by decide) (by decide)))))) (@zi _ _ _ (@zA _ _ _ _ (@zI _ _ _ _ _ (@za _ _ _ _ _ (@zu _ _ _ _ _ _ _ (@zh _ K rfl) (@pw _ 3 _ _ rfl rfl) (@zf _ _ _ _) (fun _ _=>rfl)) (@za _ _ _ _ _ (@zC _ _ _ _ _ _ _ _ (@QL _ K rfl) (@zC _ _ _ _ _ _ _ _ (@QL _ K rfl) (@qx _ _ _ _ _ _ _ _ _ _ (@kslT _ K rfl) (@pw _ 3 _ _ rfl rfl) (@jb _) (@jc _ _ _ (@zf _ _ _ _))) (@zI _ _ _ _ _ (@za _ _ _ _ _ (@pw _ 4 _ _ rfl rfl) (@zb _) rfl))) (@qx _ _ _ _ _ _ _ _ _ _ (@kslT _ K rfl) (@pw _ 3 _ _ rfl rfl) (@jc _ _ _ (@zf _ _ _ _)) (@jb _))) (@zb _) rfl) rfl)))) (@zM _)) (@ze _ _ _ _ _ (@qZ _ _ _ _ _ _ _ _ (@PW.pt _ _ _ (@Zl _ _ _ _ _ _ _ (@zx _ _ _ _ _ _ _ _ (@Zj _) (@pw _ 7 _ _ rfl rfl) (@zf _ _ _ _) (@zH _ _ (by decide) (by decide))) (@jD _ _ _ _ (@zx _ _ _ _ _ _ _ _ (@Zh _ K _ hr rfl) (@pw _ 5 _ _ rfl rfl) (@zK _ _ _ _ (@zb _)) (@zH _ _ (by decide) (by decide)))))) (@zi _ _ _ (@zA _ _ _ _ (@zI _ _ _ _ _ (@za _ _ _ _ _ (@zu _ _ _ _ _ _ _ (@zh _ K rfl) (@pw _ 3 _ _ rfl rfl) (@zf _ _ _ _) (fun _ _=>rfl)) (@za _ _ _ _ _ (@zI _ _ _ _ _ (@za _ _ _ _ _ (@zu _ _ _ _ _ _ _ (@zh _ K rfl) (@zu _ _ _ _ _ _ _ (@zh _ K rfl) (@pw _ 5 _ _ rfl rfl) (@zf _ _ _ _) (fun _ _=>rfl)) (@zf _ _ _ _) (fun _ _=>rfl)) (@za _ _ _ _ _ (@zu _ _ _ _ _ _ _ (@zh _ K rfl) (@pw _ 2 _ _ rfl rfl) (@zf _ _ _ _) (fun _ _=>rfl)) (@za _ _ _ _ _ (@pw _ 3 _ _ rfl rfl) (@zb _) rfl) rfl) rfl)) (@zb _) rfl) rfl)))) (@zM _)) (@ze _ _ _ _ _ (@qZ _ _ _ _ _ _ _ _ (@PW.pt _ _ _ (@Zl _ _ _ _ _ _ _ (@zx _ _ _ _ _ _ _ _ (@Zj _) (@pw _ 7 _ _ rfl rfl) (@zf _ _ _ _) (@zH _ _ (by decide) (by decide))) (@jD _ _ _ _ (@zx _ _ _ _ _ _ _ _ (@Zh _ K _ hr rfl) (@pw _ 5 _ _ rfl rfl) (@zK _ _ _ _ (@zb _)) (@zH _ _ (by decide) (by decide)))))) (@zi _ _ _ (@zA _ _ _ _ (@zI _ _ _ _ _ (@za _ _ _ _ _ (@zu _ _ _ _ _ _ _ (@zh _ K rfl) (@pw _ 3 _ _ rfl rfl) (@zf _ _ _ _) (fun _ _=>rfl)) (@za _ _ _ _ _ (@zI _ _ _ _ _ (@za _ _ _ _ _ (@zu _ _ _ _ _ _ _ (@zh _ K rfl) (@zu _ _ _ _ _ _ _ (@zh _ K rfl) (@pw _ 5 _ _ rfl rfl) (@zf _ _ _ _) (fun _ _=>rfl)) (@zf _ _ _ _) (fun _ _=>rfl)) (@za _ _ _ _ _ (@pw _ 3 _ _ rfl rfl) (@za _ _ _ _ _ (@pw _ 4 _ _ rfl rfl) (@zb _) rfl) rfl) rfl)) (@zb _) rfl) rfl)))) (@zM _)) (@ze _ _ _ _ _ (@qZ _ _ _ _ _ _ _ _ (@PW.pt _ _ _ (@Zl _ _ _ _ _ _ _ (@zx _ _ _ _ _ _ _ _ (@Zj _) (@pw _ 7 _ _ rfl rfl) (@zf _ _ _ _) (@zH _ _ (by decide) (by decide))) (@jD _ _ _ _ (@zx _ _ _ _ _ _ _ _ (@Zh _ K _ hr rfl) (@pw _ 6 _ _ rfl rfl) (@zK _ _ _ _ (@zb _)) (@zH _ _ (by decide) (by decide)))))) (@zi _ _ _ (@zA _ _ _ _ (@zI _ _ _ _ _ (@za _ _ _ _ _ (@zu _ _ _ _ _ _ _ (@zh _ K rfl) (@pw _ 3 _ _ rfl rfl) (@zf _ _ _ _) (fun _ _=>rfl)) (@za _ _ _ _ _ (@zI _ _ _ _ _ (@za _ _ _ _ _ (@zu _ _ _ _ _ _ _ (@zh _ K rfl) (@zu _ _ _ _ _ _ _ (@zh _ K rfl) (@pw _ 6 _ _ rfl rfl) (@zf _ _ _ _) (fun _ _=>rfl)) (@zf _ _ _ _) (fun _ _=>rfl)) (@za _ _ _ _ _ (@pw _ 3 _ _ rfl rfl) (@zb _) rfl) rfl)) (@zb _) rfl) rfl)))) (@zM _)) (@ze _ _ _ _ _ (@qZ _ _ _ _ _ _ _ _ (@PW.pt _ _ _ (@Zl _ _ _ _ _ _ _ (@zx _ _ _ _ _ _ _ _ (@Zj _) (@pw _ 7 _ _ rfl rfl) (@zf _ _ _ _) (@zH _ _ (by decide) (by decide))) (@Zl _ _ _ _ _ _ _ (@zx _ _ _ _ _ _ _ _ (@Zh _ K _ hr rfl) (@pw _ 5 _ _ rfl rfl) (@zK _ _ _ _ (@zb _)) (@zH _ _ (by decide) (by decide))) (@jD _ _ _ _ (@zx _ _ _ _ _ _ _ _ (@Zh _ K _ hr rfl) (@pw _ 6 _ _ rfl rfl) (@zK _ _ _ _ (@zb _)) (@zH _ _ (by decide) (by decide))))))) (@zi _ _ _ (@zA _ _ _ _ (@zI _ _ _ _ _ (@za _ _ _ _ _ (@zu _ _ _ _ _ _ _ (@zh _ K rfl) (@pw _ 3 _ _ rfl rfl) (@zf _ _ _ _) (fun _ _=>rfl)) (@za _ _ _ _ _ (@zI _ _ _ _ _ (@za _ _ _ _ _ (@zu _ _ _ _ _ _ _ (@zh _ K rfl) (@zu _ _ _ _ _ _ _ (@zh _ K rfl) (@pw _ 5 _ _ rfl rfl) (@zf _ _ _ _) (fun _ _=>rfl)) (@zf _ _ _ _) (fun _ _=>rfl)) (@za _ _ _ _ _ (@zI _ _ _ _ _ (@za _ _ _ _ _ (@zu _ _ _ _ _ _ _ (@zh _ K rfl) (@zu _ _ _ _ _ _ _ (@zh _ K rfl) (@pw _ 6 _ _ rfl rfl) (@zf _ _ _ _) (fun _ _=>rfl)) (@zf _ _ _ _) (fun _ _=>rfl)) (@za _ _ _ _ _ (@pw _ 3 _ _ rfl rfl) (@zb _) rfl) rfl)) (@za _ _ _ _ _ (@pw _ 4 _ _ rfl rfl) (@zb _) rfl) rfl) rfl)) (@zb _) rfl) rfl)))) (@zM _)) (@zi _ _ _ (@zA _ _ _ _ (@zI _ _ _ _ _ (@za _ _ _ _ _ (@zu _ _ _ _ _ _ _ (@zh _ K rfl) (@pw _ 3 _ _ rfl rfl) (@zf _ _ _ _) (fun _ _=>rfl)) (@za _ _ _ _ _ (@pw _ 3 _ _ rfl rfl) (@zb _) rfl) rfl)))))))))))))),?_⟩
 obtain⟨a,w0,c0,vs,rfl,h1,h2,h3,h4⟩:=id tb
 obtain⟨hfs,f1,f20,hgood⟩:=id hf
 have hvl:=h4.len
 refine⟨_,rfl,_,rfl,_,rfl,p,l,_,T,L,most,fs,rfl,hp,tb,gT,nT,c5,np,hf,hL,m8,fun b S H1 o1 p1 iS sl kS lS zS=>?_⟩
 have hf1:Fnd H1 T L most l fs:=⟨o1 _ _ np hfs,f1,f20,fun z hz=>by obtain⟨z1,z2,z3⟩:=hgood z hz;exact⟨z1,z2,z3.tk (o1.tk hp)⟩⟩
 refine⟨_,rfl,_,rfl,_,rfl,p,l,_,T,L,most,fs,rfl,p1,tb.tk (o1.tk hp),gT,nT,c5,np,hf1,hL,m8,fun b2 S2 H2 o2 p2 iS2 sl2 kS2 lS2 zS2=>?_⟩
 have O2:=o1.trans o2
 have tk2:=O2.tk hp
 obtain⟨Z,eZ⟩:∃ Z,Z=T.cs.zip vs:=⟨_,rfl⟩
 have hZ2:Z.length=vs.length:=by rw[eZ,List.length_zip];omega
 refine⟨_,rfl,.inr (.inl ⟨a,_,2,_,rfl,rfl,SqT.of (tk2 _ _ h1),rfl,c0,rfl,⟨_,SqT.of (tk2 _ _ h3)⟩,fun D1 hD1=>?_⟩)⟩
 refine Qw (xs:=vs) (fun i ys H'=>zB H2 H'/\ys=((Z.take i).filter fun z=>decide (z.1.pl=2)).map Prod.snd) ⟨zd hD1 _,rfl⟩ (fun i ys H' h _=>SqT.of (h.1 _ _ (tk2 _ _ h3))) ?_ ?_
 ·rintro i ys H3 x hx ⟨s3,rfl⟩ hD3
  have hi:i < vs.length:=(AE.mp hx).1
  have hcc:T.cs[i]? = some T.cs[i]:=AK (by omega)
  generalize T.cs[i]=cc at hcc
  obtain⟨t,u,e1,k1,k2⟩:=h4.get hcc
  rw[hx] at e1
  cases e1
  have hzi:Z[i]? = some (cc,.ref t):=by rw[eZ];exact Bs.mpr ⟨hcc,hx⟩
  have zl:(((Z.take i).filter fun z=>decide (z.1.pl=2)).map Prod.snd).length<=16:=by
   rw[AC]
   refine Ag (B9 _ _) ?_
   rw[AZ]
   have:=gT.cl
   omega
  refine⟨_,rfl,.inr (.inl ⟨t,_,1,_,rfl,rfl,SqT.of (s3 _ _ (tk2 _ _ k1)),rfl,rfl,_,rfl,?_⟩)⟩
  by_cases hm:cc.pl=2
  ·refine Z5 (fun _=>?_) (fun z=>absurd (show V.int ((cc.pl:Nat):Int)=.int 2 by rw[hm];rfl) (by simpa using z))
   refine⟨_,rfl,Jf hi qS hD3 (zq (by omega)) ⟨s3.put hD1,?_⟩⟩
   rw[take_snoc hzi,Bd,AM]
   simp[hm]
  ·refine Z5 (fun z=>absurd (show ((cc.pl:Nat):Int)=2 from V.int.inj (by simpa using z)) (by omega)) (fun _=>?_)
   refine cno hi qS hD3 ⟨s3,?_⟩
   rw[take_snoc hzi,Bd]
   simp[hm]
 rintro ys H4 ⟨s4,rfl⟩ hD1x
 rw[show Z.take vs.length=Z by rw[A8];omega] at hD1x
 have tk4:=tk2.trans (Tk.of s4)
 refine⟨_,rfl,.inr (.inl ⟨a,_,2,_,rfl,rfl,SqT.of (tk4 _ _ h1),rfl,c0,rfl,⟨_,SqT.of (tk4 _ _ h3)⟩,fun D2 hD2=>?_⟩)⟩
 refine Qw (xs:=vs) (fun i ys H'=>zB H4 H'/\ys=((Z.take i).filter fun z=>decide (z.1.pl=1)).map Prod.snd) ⟨zd hD2 _,rfl⟩ (fun i ys H' h _=>SqT.of (h.1 _ _ (tk4 _ _ h3))) ?_ ?_
 ·rintro i ys H3 x hx ⟨s3,rfl⟩ hD3
  have hi:i < vs.length:=(AE.mp hx).1
  have hcc:T.cs[i]? = some T.cs[i]:=AK (by omega)
  generalize T.cs[i]=cc at hcc
  obtain⟨t,u,e1,k1,k2⟩:=h4.get hcc
  rw[hx] at e1
  cases e1
  have hzi:Z[i]? = some (cc,.ref t):=by rw[eZ];exact Bs.mpr ⟨hcc,hx⟩
  have zl:(((Z.take i).filter fun z=>decide (z.1.pl=1)).map Prod.snd).length<=16:=by
   rw[AC]
   refine Ag (B9 _ _) ?_
   rw[AZ]
   have:=gT.cl
   omega
  refine⟨_,rfl,.inr (.inl ⟨t,_,1,_,rfl,rfl,SqT.of (s3 _ _ (tk4 _ _ k1)),rfl,rfl,_,rfl,?_⟩)⟩
  by_cases hm:cc.pl=1
  ·refine Z5 (fun _=>?_) (fun z=>absurd (show V.int ((cc.pl:Nat):Int)=.int 1 by rw[hm];rfl) (by simpa using z))
   refine⟨_,rfl,Jf hi qS hD3 (zq (by omega)) ⟨s3.put hD2,?_⟩⟩
   rw[take_snoc hzi,Bd,AM]
   simp[hm]
  ·refine Z5 (fun z=>absurd (show ((cc.pl:Nat):Int)=1 from V.int.inj (by simpa using z)) (by omega)) (fun _=>?_)
   refine cno hi qS hD3 ⟨s3,?_⟩
   rw[take_snoc hzi,Bd]
   simp[hm]
 rintro ys H5 ⟨s5,rfl⟩ hD2x
 rw[show Z.take vs.length=Z by rw[A8];omega] at hD2x
 have S5:=s4.trans s5
 refine⟨_,rfl,p,6,rfl,qg p2 S5,by decide,by decide,fun wy H6 wy0 wy1 o6 p6=>?_⟩
 have D1p:=qG p2 hD1
 have D2p:=qG (qg p2 s4) hD2
 have hD16:=o6 _ _ D1p (s5 _ _ hD1x)
 have hD26:=o6 _ _ D2p hD2x
 have O26:=(Off.of (p:=p) S5).trans o6
 have O6:=O2.trans O26
 have tk6:=O6.tk hp
 obtain⟨b',us,ev,htb,hPb⟩:=iS.node sl
 cases ev
 have T16:=(o2.trans O26).tk p1
 have htb6:=T16 _ _ htb
 have iS6:=iS.tk T16
 have iS26:=iS2.tk (O26.tk p2)
 have ul:S.ps.length=us.length:=Aw hPb
 have ps2:=Sy.ps_le S
 have badS:WF T S.nm S.sub:=by rw[Sy.sub_ps];exact Wq kS
 have fin:∀ (u:V) (S':Sy) (Hx:Hp),zB H6 Hx->qv Hx S' u->WF T S.nm S'.sub->Zd S'->S'.sz<=40->∀ t,Hx t=none->Q (.ref t) (upd Hx t (.tup [.str S.nm,u])):=fun u S' Hx sx iS' bS' lS' zS' t ht=>q t u S.nm S' _ (O6.trans (Off.of (p:=p) (sx.trans (zd ht _)))) (qg p6 (sx.trans (zd ht _))) zc (iS'.same (zd ht _)) bS' lS' zS'
 have con:∀ (k:Nat) (z:Cn×V) (r:List (Cn×V)),(Z.filter fun z=>decide (z.1.pl=k))=z :: r->∃ c t u,c ∈ T.cs/\c.pl=k/\z.2=.ref t/\H6 t=some (.tup [.str c.nm,nV c.pl,.ref u]):=fun k z r e=>by
  have hm:z ∈ Z.filter fun z=>decide (z.1.pl=k):=by rw[e];exact AO
  obtain⟨hz,hk⟩:=Bu.mp hm
  obtain⟨i,hi⟩:=List.getElem?_of_mem hz
  rw[eZ,Bs] at hi
  obtain⟨t,u,e1,k1,_⟩:=h4.get hi.1
  rw[hi.2] at e1
  exact⟨z.1,t,u,AV hi.1,Az hk,AL e1,tk6 _ _ k1⟩
 refine XW (R:=?R1) (D:=?E1) (P:=fun R D'=>∀ Hx,zB H6 Hx->R D' [some (.ref p),some (.ref a),some (.ref l),some (.ref b),some (.ref b2),some (.ref D1),some (.ref D2),some (.int wy)] Hx) (fun r1=>?m1) ?r1
 case m1=>
  refine⟨_,rfl,rfl,_,rfl,?_⟩
  refine Z5 (fun _=>?_) (fun _=>wv ?f1)
  case f1=>exact r1 H6 (zB.refl _)
  refine⟨_,rfl,_,_,rfl,.inr ⟨_,SqT.of htb6,rfl⟩,_,_,rfl,rfl,_,rfl,?_⟩
  refine Z5 (fun hl1=>?_) (fun _=>r1 H6 (zB.refl _))
  have hl2:1<=us.length:=by
   have:(1:Int) < (((.str S.nm :: us:List V).length:Nat):Int):=Az hl1
   rw[Ab] at this
   omega
  have c1:wu (.str S.nm :: us) none (some 1)=[.str S.nm]:=QF 1 (by simp)
  have c2:wu (.str S.nm :: us) (some 2) none=us.drop 1:=cut_fr 2 (by rw[Ab];omega)
  refine⟨_,rfl,.inr (.inl ⟨b,_,0,_,rfl,rfl,SqT.of (htb6),at0,_,rfl,_,rfl,?_⟩)⟩
  refine Wn htb6 fun t1 H7 s7 ht1=>?_
  rw[c1] at ht1
  refine⟨_,rfl,zj (by show 1<=1000;decide),fun t2 ht2=>?_⟩
  refine Q5 (zd ht2 _ _ _ ht1) zc (by show 1+1<=1000;decide) fun t3 H9 s9 ht3=>?_
  have s69:=s7.trans ((zd ht2 _).trans s9)
  refine⟨_,rfl,_,rfl,?_⟩
  refine Wn (s69 _ _ htb6) fun t4 H10 s10 ht4=>?_
  rw[c2] at ht4
  refine Q5 (s10 _ _ ht3) ht4 (by rw[BS];show 2+_<=1000;omega) fun t5 H11 s11 ht5=>?_
  have s611:=s69.trans (s10.trans s11)
  have hss:(S2 :: S.ps.drop 1).length=S.ps.length:=by rw[Ab,BS];omega
  refine⟨zj (by show 2<=1000;decide),fun t6 ht6=>fin (.ref t5) (Sy.mk S.nm (S2 :: S.ps.drop 1)) H11 s611 (qv.of ht5 (.cons (iS26.same s611) (pr_drop1 (Paired.mapP hPb fun _ _ h=>(h.tk T16).same s611))) (by omega)) ?_ (Jb fun s hs=>?_) ?_ t6 ht6⟩
  ·have e:=Wq (T:=T) (z:=Sy.mk S.nm (S2 :: S.ps.drop 1)) (ss:=(Sy.mk S.nm (S2 :: S.ps.drop 1)).ps.flatMap Sy.sub) (fun kn=>kS (by
    rcases kn with z | ⟨c,hc,cn,cp⟩
    ·rw[Sy.mk_isL] at z;cases z
    ·rw[Sy.nm_mk] at cn
     rw[Sy.ps_mk (by omega),hss] at cp
     exact .inr ⟨c,hc,cn,cp⟩))
   rw[<- Sy.sub_ps,Sy.nm_mk] at e
   exact e
  ·rcases AR.mp hs with rfl | hs
   ·exact lS2
   ·exact Zd.part lS (DR hs)
  ·rw[YI (by omega),AQ,List.sum_cons]
   have h1:=XV Sy.sz S.ps
   have h2:=Sy.sz_ps S
   omega
 case r1=>
 intro Hx sx
 refine XW (R:=?R2) (D:=?E2) (P:=fun R D'=>∀ Hx,zB H6 Hx->R D' [some (.ref p),some (.ref a),some (.ref l),some (.ref b),some (.ref b2),some (.ref D1),some (.ref D2),some (.int wy)] Hx) (fun r1=>?m2) ?r2
 case m2=>
  refine⟨_,rfl,rfl,_,rfl,?_⟩
  refine Z5 (fun _=>?_) (fun _=>wv ?f2)
  case f2=>exact r1 Hx sx
  refine⟨_,rfl,zj (by show 0<=1000;decide),fun ln hln=>?_⟩
  have m1:=sx.trans (zd hln (.lst []))
  refine⟨D1,ln,_,rfl,rfl,SqL.of (m1 _ _ hD16),SqL.of zc,_,rfl,?_⟩
  refine Z5 (fun hne=>?_) (fun _=>r1 _ m1)
  generalize upd Hx ln (.lst [])=Hy at *
  cases hz:(Z.filter fun z=>decide (z.1.pl=2)) with
  | nil=>rw[hz] at hne;exact absurd hne (by simp)
  | cons z r=>
   obtain⟨c,t,u,hc,cp,ez,htc⟩:=con 2 z r hz
   have hDz:=m1 _ _ hD16
   rw[hz,AQ,ez] at hDz
   have htc1:=m1 _ _ htc
   obtain⟨z0,hz0,hat0⟩:=Q9 (fs:=fs) (u:=0) (by decide) (by omega)
   refine⟨_,rfl,.inr (.inl ⟨b,_,0,_,rfl,rfl,SqT.of (m1 _ _ htb6),at0,_,rfl,.inl ⟨D1,_,0,_,rfl,rfl,SqL.of hDz,at0,.inr (.inl ⟨t,_,0,_,rfl,rfl,SqT.of htc1,at0,_,rfl,.inl ⟨l,_,0,_,rfl,rfl,SqL.of (m1 _ _ (O6 _ _ np hfs)),hat0,_,rfl,zj (by show 3<=1000;decide),fun t5 ht5=>⟨zj (by show 2<=1000;decide),fun t6 ht6=>?_⟩⟩⟩)⟩⟩)⟩
   have s5:=m1.trans (zd ht5 (.tup [.str c.nm,z0.1,.ref b]))
   obtain⟨g0,y0,i0⟩:=hgood z0 hz0
   refine fin (.ref t5) (Sy.mk c.nm ([z0.2]++S :: [])) _ s5 (qv.of zc (.cons ((i0.tk tk6).same s5) (.cons (iS6.same s5) .nil)) (by simp)) (Ws hc cp (by simp) (fun x hx=>by rw[List.mem_singleton.mp hx];exact GSt.kn g0) badS) (Jb fun s hs=>?_) ?_ t6 ht6
   ·rcases AR.mp hs with rfl | hs
    ·exact Zd.of hL g0
    ·rw[AF.mp hs];exact lS
   ·rw[YI (by simp)]
    show z0.2.sz+(S.sz+0)+1<=40
    omega
 case r2=>
 intro Hx sx
 refine XW (R:=?R3) (D:=?E3) (P:=fun R D'=>∀ Hx,zB H6 Hx->R D' [some (.ref p),some (.ref a),some (.ref l),some (.ref b),some (.ref b2),some (.ref D1),some (.ref D2),some (.int wy)] Hx) (fun r1=>?m3) ?r3
 case m3=>
  refine⟨_,rfl,rfl,_,rfl,?_⟩
  refine Z5 (fun _=>?_) (fun _=>wv ?f3)
  case f3=>exact r1 Hx sx
  refine⟨_,rfl,zj (by show 0<=1000;decide),fun ln hln=>?_⟩
  have m1:=sx.trans (zd hln (.lst []))
  refine⟨D1,ln,_,rfl,rfl,SqL.of (m1 _ _ hD16),SqL.of zc,_,rfl,?_⟩
  refine Z5 (fun hne=>?_) (fun _=>r1 _ m1)
  generalize upd Hx ln (.lst [])=Hy at *
  cases hz:(Z.filter fun z=>decide (z.1.pl=2)) with
  | nil=>rw[hz] at hne;exact absurd hne (by simp)
  | cons z r=>
   obtain⟨c,t,u,hc,cp,ez,htc⟩:=con 2 z r hz
   have hDz:=m1 _ _ hD16
   rw[hz,AQ,ez] at hDz
   have htc1:=m1 _ _ htc
   refine⟨_,rfl,.inr (.inl ⟨b,_,0,_,rfl,rfl,SqT.of (m1 _ _ htb6),at0,_,rfl,.inl ⟨D1,_,0,_,rfl,rfl,SqL.of hDz,at0,.inr (.inl ⟨t,_,0,_,rfl,rfl,SqT.of htc1,at0,_,rfl,_,rfl,zj (by show 3<=1000;decide),fun t5 ht5=>⟨zj (by show 2<=1000;decide),fun t6 ht6=>?_⟩⟩)⟩⟩)⟩
   have s5:=m1.trans (zd ht5 (.tup [.str c.nm,.ref b,.ref b2]))
   refine fin (.ref t5) (Sy.mk c.nm ([]++S :: [S2])) _ s5 (qv.of zc (.cons (iS6.same s5) (.cons (iS26.same s5) .nil)) (by simp)) (Ws hc cp (by simp) (fun x hx=>by cases hx) badS) (Jb fun s hs=>?_) ?_ t6 ht6
   ·rcases AR.mp hs with rfl | hs
    ·exact lS
    ·rw[AF.mp hs];exact lS2
   ·rw[YI (by simp)]
    show S.sz+(S2.sz+0)+1<=40
    omega
 case r3=>
 intro Hx sx
 refine XW (R:=?R4) (D:=?E4) (P:=fun R D'=>∀ Hx,zB H6 Hx->R D' [some (.ref p),some (.ref a),some (.ref l),some (.ref b),some (.ref b2),some (.ref D1),some (.ref D2),some (.int wy)] Hx) (fun r1=>?m4) ?r4
 case m4=>
  refine⟨_,rfl,rfl,_,rfl,?_⟩
  refine Z5 (fun _=>?_) (fun _=>wv ?f4)
  case f4=>exact r1 Hx sx
  refine⟨_,rfl,zj (by show 0<=1000;decide),fun ln hln=>?_⟩
  have m1:=sx.trans (zd hln (.lst []))
  refine⟨D2,ln,_,rfl,rfl,SqL.of (m1 _ _ hD26),SqL.of zc,_,rfl,?_⟩
  refine Z5 (fun hne=>?_) (fun _=>r1 _ m1)
  generalize upd Hx ln (.lst [])=Hy at *
  cases hz:(Z.filter fun z=>decide (z.1.pl=1)) with
  | nil=>rw[hz] at hne;exact absurd hne (by simp)
  | cons z r=>
   obtain⟨c,t,u,hc,cp,ez,htc⟩:=con 1 z r hz
   have hDz:=m1 _ _ hD26
   rw[hz,AQ,ez] at hDz
   have htc1:=m1 _ _ htc
   refine⟨_,rfl,.inr (.inl ⟨b,_,0,_,rfl,rfl,SqT.of (m1 _ _ htb6),at0,_,rfl,.inl ⟨D2,_,0,_,rfl,rfl,SqL.of hDz,at0,.inr (.inl ⟨t,_,0,_,rfl,rfl,SqT.of htc1,at0,_,rfl,zj (by show 2<=1000;decide),fun t5 ht5=>⟨zj (by show 2<=1000;decide),fun t6 ht6=>?_⟩⟩)⟩⟩)⟩
   have s5:=m1.trans (zd ht5 (.tup [.str c.nm,.ref b]))
   refine fin (.ref t5) (Sy.mk c.nm ([]++S :: [])) _ s5 (qv.of zc (.cons (iS6.same s5) .nil) (by simp)) (Ws hc cp (by simp) (fun x hx=>by cases hx) badS) (Jb fun s hs=>?_) ?_ t6 ht6
   ·rw[AF.mp hs];exact lS
   ·rw[YI (by simp)]
    show S.sz+0+1<=40
    omega
 case r4=>
 intro Hx sx
 refine XW (R:=?R5) (D:=?E5) (P:=fun R D'=>∀ Hx,zB H6 Hx->R D' [some (.ref p),some (.ref a),some (.ref l),some (.ref b),some (.ref b2),some (.ref D1),some (.ref D2),some (.int wy)] Hx) (fun r1=>?m5) ?r5
 case m5=>
  refine⟨_,rfl,rfl,_,rfl,?_⟩
  refine Z5 (fun _=>?_) (fun _=>wv ?f5)
  case f5=>exact r1 Hx sx
  refine⟨_,rfl,zj (by show 0<=1000;decide),fun ln hln=>?_⟩
  have m1:=sx.trans (zd hln (.lst []))
  refine⟨D1,ln,_,rfl,rfl,SqL.of (m1 _ _ hD16),SqL.of zc,_,rfl,?_⟩
  refine Z5 (fun hne=>?_) (fun _=>wv (r1 _ m1))
  generalize upd Hx ln (.lst [])=Hy at *
  refine⟨_,rfl,zj (by show 0<=1000;decide),fun ln2 hln2=>?_⟩
  have m2:=m1.trans (zd hln2 (.lst []))
  refine⟨D2,ln2,_,rfl,rfl,SqL.of (m2 _ _ hD26),SqL.of zc,_,rfl,?_⟩
  refine Z5 (fun hne2=>?_) (fun _=>r1 _ m2)
  generalize upd Hy ln2 (.lst [])=Hz at *
  cases hz:(Z.filter fun z=>decide (z.1.pl=2)) with
  | nil=>rw[hz] at hne;exact absurd hne (by simp)
  | cons z r=>
   cases hz1:(Z.filter fun z=>decide (z.1.pl=1)) with
   | nil=>rw[hz1] at hne2;exact absurd hne2 (by simp)
   | cons z1 r'=>
    obtain⟨c,t,u,hc,cp,ez,htc⟩:=con 2 z r hz
    obtain⟨c1,t1,u1,hc1,cp1,ez1,htc1⟩:=con 1 z1 r' hz1
    have hDz:=m2 _ _ hD16
    rw[hz,AQ,ez] at hDz
    have hDy:=m2 _ _ hD26
    rw[hz1,AQ,ez1] at hDy
    refine⟨_,rfl,.inr (.inl ⟨b,_,0,_,rfl,rfl,SqT.of (m2 _ _ htb6),at0,_,rfl,.inl ⟨D1,_,0,_,rfl,rfl,SqL.of hDz,at0,.inr (.inl ⟨t,_,0,_,rfl,rfl,SqT.of (m2 _ _ htc),at0,_,rfl,.inl ⟨D2,_,0,_,rfl,rfl,SqL.of hDy,at0,.inr (.inl ⟨t1,_,0,_,rfl,rfl,SqT.of (m2 _ _ htc1),at0,_,rfl,zj (by show 2<=1000;decide),fun t4 ht4=>⟨_,rfl,zj (by show 3<=1000;decide),fun t5 ht5=>⟨zj (by show 2<=1000;decide),fun t6 ht6=>?_⟩⟩⟩)⟩⟩)⟩⟩)⟩
    have s4':=m2.trans (zd ht4 (.tup [.str c1.nm,.ref b]))
    have n5:=zd ht5 (.tup [.str c.nm,.ref t4,.ref b2])
    have s5:=s4'.trans n5
    have i1:=qv.of (nm:=c1.nm) (ss:=[S]) (@zc Hz t4 (.tup [.str c1.nm,.ref b])) (.cons (iS6.same s4') .nil) (by simp)
    refine fin (.ref t5) (Sy.mk c.nm ([]++Sy.mk c1.nm ([]++S :: []) :: [S2])) _ s5 (qv.of zc (.cons (i1.same n5) (.cons (iS26.same s5) .nil)) (by simp)) (Ws hc cp (by simp) (fun x hx=>by cases hx) (Ws hc1 cp1 (by simp) (fun x hx=>by cases hx) badS)) (Jb fun s hs=>?_) ?_ t6 ht6
    ·rcases AR.mp hs with rfl | hs
     ·exact Jb fun s hs=>by rw[AF.mp hs];exact lS
     ·rw[AF.mp hs];exact lS2
    ·rw[YI (by simp)]
     show (S.sz+1)+(S2.sz+0)+1<=40
     omega
 case r5=>
 intro Hx sx
 refine⟨_,rfl,.inr (.inl ⟨b,_,0,_,rfl,rfl,SqT.of (sx _ _ htb6),at0,_,rfl,zj (by show 2<=1000;decide),fun t6 ht6=>fin (.ref b) S Hx sx (iS6.same sx) badS lS (by omega) t6 ht6⟩)⟩
abbrev jQ:Stmt:=top 43
theorem qK:zv ["_law_table", "_law_premises", "_law_saying", "_law_name_here", "_law_caught", "_law_e"] ["_law_table", "_law_premises", "_law_saying", "_law_name_here"] (zg jQ):=⟨rfl,rfl,rfl,by decide +kernel,rfl,by decide +kernel,by decide +kernel⟩
theorem Jr {P:Program} {w:World} {K:PySem.W.Frag} {mg:Str->Option Value} {base:Heap} {f:Addr} {fd:FuncData} (F:Fun K "_law_refused" "_law_refused" jQ f fd) (gb:Gb mg) {c:Nat->Addr} (cl:Cl K mg c) (d_followsX:DefD P w K mg base 30 "follows" ["T", "premises", "S"] (XU (c 3))) (d_law_alone:Def P w K mg base 1 "_law_alone" ["_law_e", "_law_sort"] (ye (c 3))):jj P w K mg base CX0 31 f fd ["_law_table", "_law_premises", "_law_saying", "_law_name_here"] Ja:=by
 refine F.ok qK (fun vs H Q E h=>?_) (fun cdv A outer s H vs Q E hr h=>?_)
 ·obtain⟨v,pl,sv,T,ps,S,nm,rfl,_⟩:=h
  rfl
 obtain⟨v,pl,sv,T,ps,S,nm,rfl,tb,gT,nT,hpl,pn,hall,hbad,q⟩:=h
 refine⟨_,(@ze _ _ _ _ _ (@zt _ _ 4 _ _ _ _ qK.nd rfl (Or.inl rfl) (@yp _ _ _) rfl (by walk_at "f")) (@ze _ _ _ _ _ (@ps_tryD _ _ _ _ 5 _ _ _ _ _ _ _ _ rfl rfl rfl qK.nd rfl rfl rfl cl.g_GradeError (@psd_expr _ _ _ _ (@ped_def _ _ _ _ _ _ _ _ _ _ _ d_followsX hr (by omega) rfl (@za _ _ _ _ _ (@pw _ 0 _ _ rfl rfl) (@za _ _ _ _ _ (@pw _ 1 _ _ rfl rfl) (@za _ _ _ _ _ (@pw _ 2 _ _ rfl rfl) (@zb _) rfl) rfl) rfl) (by decide) rfl rfl) rfl) (fun _=>(@zi _ _ _ (@zt _ _ 4 _ _ _ _ qK.nd rfl (Or.inl rfl) (@pw _ 5 _ _ rfl rfl) rfl (by walk_at "f")))) (by decide)) (@zi _ _ _ (@zA _ _ _ _ (@wz _ _ _ _ _ _ _ (@jX _ _ _ _ _ _ _ _ (@op_notN _) (@pw _ 4 _ _ rfl rfl) (@yp _ _ _) (@zH _ _ (by decide) (by decide))) (@wz _ _ _ _ _ _ _ (@zm _ _ _ _ _ _ _ _ _ _ _ d_law_alone hr (by omega) rfl (@za _ _ _ _ _ (@pw _ 4 _ _ rfl rfl) (@za _ _ _ _ _ (@zf _ _ _ _) (@zb _) rfl) rfl) (by decide) rfl rfl) (@YV _ _ _ _ _ (@jX _ _ _ _ _ _ _ _ (@Zj _) (@pe_xget _ _ _ _ _ (@pw _ 4 _ _ rfl rfl) rfl) (@pw _ 3 _ _ rfl rfl) (@zH _ _ (by decide) (by decide)))))))))),?_⟩
 refine⟨_,rfl,_,rfl,_,rfl,v,pl,sv,T,ps,S,nm,rfl,tb,gT,nT,hpl,pn,hall,hbad,fun d H' s hd=>⟨cl.m_NoName,fun ea hea=>?_⟩⟩
 have de:d ≠ ea:=zr zc hea
 have n1:zB H' (upd (upd H' d (.xd [("name",.str nm)])) ea (YO ea (.ref (c 3)) (some d))):=(zd hd _).trans (zd hea _)
 have hd1:upd (upd H' d (.xd [("name",.str nm)])) ea (YO ea (.ref (c 3)) (some d)) d=some (.xd [("name",.str nm)]):=by rw[zk de,zc]
 have he1:=@zc (upd H' d (.xd [("name",.str nm)])) ea (YO ea (.ref (c 3)) (some d))
 generalize upd (upd H' d (.xd [("name",.str nm)])) ea (YO ea (.ref (c 3)) (some d))=H1 at *
 refine⟨_,rfl,?_⟩
 refine⟨_,rfl,rfl,_,rfl,?_⟩
 refine Z5 (fun c=>?_) (fun c=>absurd rfl c)
 refine⟨_,rfl,ea,_,rfl,he1,fun H2 s2=>⟨true,rfl,YN ?_⟩⟩
 refine⟨_,rfl,ea,_,d,_,_,rfl,s2 _ _ he1,s2 _ _ hd1,rfl,cl.xi_NoName,_,rfl,rfl,?_⟩
 have q2:=q H2 (s.trans (n1.trans s2))
 rw[<- BV (show V.str nm=V.str nm from rfl)] at q2
 exact q2
abbrev wr:Stmt:=top 44
theorem jT:zv ["_law_script", "_law_cell", "_law_pool_here", "_law_table", "_law_found", "_law_premises", "_law_saying", "_law_name_here", "_law_worse_here", "_law_other", "_law_behind", "_law_at"] ["_law_script"] (zg wr):=⟨rfl,rfl,rfl,by decide +kernel,rfl,by decide +kernel,by decide +kernel⟩
theorem ok_law {P:Program} {w:World} {K:PySem.W.Frag} {mg:Str->Option Value} {base:Heap} {f:Addr} {fd:FuncData} (F:Fun K "law" "law" wr f fd) (gb:Gb mg) {c:Nat->Addr} (cl:Cl K mg c) (d_law_pool:Def P w K mg base 1 "_law_pool" ["_law_cell"] xz) (d_law_draw:Def P w K mg base 1 "_law_draw" ["_law_pool_here", "_law_many"] j4) (d_law_half:Def P w K mg base 3 "_law_half" ["_law_pool_here", "_law_most", "_law_connectives", "_law_often"] XD) (d_law_letters:Def P w K mg base 2 "_law_letters" ["_law_pool_here", "_law_many"] Qc) (d_law_grown:Def P w K mg base 20 "_law_grown" ["_law_pool_here", "_law_table", "_law_letters_here", "_law_steps", "_law_most"] yb) (d_law_picked:Def P w K mg base 2 "_law_picked" ["_law_pool_here", "_law_found", "_law_most"] wo) (d_law_worse:Def P w K mg base 4 "_law_worse" ["_law_pool_here", "_law_table", "_law_found"] yf) (d_law_refused:Def P w K mg base 31 "_law_refused" ["_law_table", "_law_premises", "_law_saying", "_law_name_here"] Ja) (d_follows:Def P w K mg base 30 "follows" ["T", "premises", "S"] Q8):jj P w K mg base CX0 33 f fd ["_law_script"] (spLaw K):=by
 refine F.ok jT (fun vs H Q E h=>?_) (fun cdv A outer s H vs Q E hr h=>?_)
 ·obtain⟨a,ns,rfl,_⟩:=h
  rfl
 obtain⟨a,ns,rfl,hS,h63,q⟩:=h
 refine⟨_,(@ze _ _ _ _ _ (@jv _ _ _ _ _ _ _ _ BJ rfl (@zP _ K _ _ _ (@zC _ _ _ _ _ _ _ _ (@ZM _) (@zK _ _ _ _ (@za _ _ _ _ _ (@zf _ _ _ _) (@zb _) rfl)) (@qx _ _ _ _ _ _ _ _ _ _ (@Z8 _ K rfl) (@pw _ 0 _ _ rfl rfl) (@jb _) (@jc _ _ _ (@zf _ _ _ _)))) rfl) (@pgl _ 1 _ _ jT.nd rfl rfl) (@ze _ _ _ _ _ (@zt _ _ 2 _ _ _ _ jT.nd rfl (Or.inl rfl) (@zm _ _ _ _ _ _ _ _ _ _ _ d_law_pool hr (by omega) rfl (@za _ _ _ _ _ (@pw _ 1 _ _ rfl rfl) (@zb _) rfl) (by decide) rfl rfl) rfl (by walk_at "f")) (@ze _ _ _ _ _ (@zt _ _ 3 _ _ _ _ jT.nd rfl (Or.inl rfl) (@zm _ _ _ _ _ _ _ _ _ _ _ d_law_half hr (by omega) rfl (@za _ _ _ _ _ (@pw _ 2 _ _ rfl rfl) (@za _ _ _ _ _ (@zf _ _ _ _) (@za _ _ _ _ _ (@zf _ _ _ _) (@za _ _ _ _ _ (@zf _ _ _ _) (@zb _) rfl) rfl) rfl) rfl) (by decide) rfl rfl) rfl (by walk_at "f")) (@ze _ _ _ _ _ (@zt _ _ 4 _ _ _ _ jT.nd rfl (Or.inl rfl) (@zm _ _ _ _ _ _ _ _ _ _ _ d_law_grown hr (by omega) rfl (@za _ _ _ _ _ (@pw _ 2 _ _ rfl rfl) (@za _ _ _ _ _ (@pw _ 3 _ _ rfl rfl) (@za _ _ _ _ _ (@zm _ _ _ _ _ _ _ _ _ _ _ d_law_letters hr (by omega) rfl (@za _ _ _ _ _ (@pw _ 2 _ _ rfl rfl) (@za _ _ _ _ _ (@zC _ _ _ _ _ _ _ _ (@ja _) (@zf _ _ _ _) (@zm _ _ _ _ _ _ _ _ _ _ _ d_law_draw hr (by omega) rfl (@za _ _ _ _ _ (@pw _ 2 _ _ rfl rfl) (@za _ _ _ _ _ (@zf _ _ _ _) (@zb _) rfl) rfl) (by decide) rfl rfl)) (@zb _) rfl) rfl) (by decide) rfl rfl) (@za _ _ _ _ _ (@zf _ _ _ _) (@za _ _ _ _ _ (@zf _ _ _ _) (@zb _) rfl) rfl) rfl) rfl) rfl) (by decide) rfl rfl) rfl (by walk_at "f")) (@ze _ _ _ _ _ (@Qk _ _ _ _ _ _ (@zm _ _ _ _ _ _ _ _ _ _ _ d_law_picked hr (by omega) rfl (@za _ _ _ _ _ (@pw _ 2 _ _ rfl rfl) (@za _ _ _ _ _ (@pw _ 4 _ _ rfl rfl) (@za _ _ _ _ _ (@zf _ _ _ _) (@zb _) rfl) rfl) rfl) (by decide) rfl rfl) (@Zy _ K _ _ _ _ 2 rfl (@zO _ _ _ _ _ (@pgl _ 5 _ _ jT.nd rfl rfl) (@zO _ _ _ _ _ (@pgl _ 6 _ _ jT.nd rfl rfl) (@Zt _) rfl) rfl) rfl rfl rfl) rfl rfl rfl) (@ze _ _ _ _ _ (@Qk _ _ _ _ _ _ (@zm _ _ _ _ _ _ _ _ _ _ _ d_law_worse hr (by omega) rfl (@za _ _ _ _ _ (@pw _ 2 _ _ rfl rfl) (@za _ _ _ _ _ (@pw _ 3 _ _ rfl rfl) (@za _ _ _ _ _ (@pw _ 4 _ _ rfl rfl) (@zb _) rfl) rfl) rfl) (by decide) rfl rfl) (@Zy _ K _ _ _ _ 2 rfl (@zO _ _ _ _ _ (@pgl _ 7 _ _ jT.nd rfl rfl) (@zO _ _ _ _ _ (@pgl _ 8 _ _ jT.nd rfl rfl) (@Zt _) rfl) rfl) rfl rfl rfl) rfl rfl rfl) (@ze _ _ _ _ _ (@Qk _ _ _ _ _ _ (@zm _ _ _ _ _ _ _ _ _ _ _ d_law_worse hr (by omega) rfl (@za _ _ _ _ _ (@pw _ 2 _ _ rfl rfl) (@za _ _ _ _ _ (@pw _ 3 _ _ rfl rfl) (@za _ _ _ _ _ (@pw _ 4 _ _ rfl rfl) (@zb _) rfl) rfl) rfl) (by decide) rfl rfl) (@Zy _ K _ _ _ _ 2 rfl (@zO _ _ _ _ _ (@pgl _ 9 _ _ jT.nd rfl rfl) (@zO _ _ _ _ _ (@pgl _ 10 _ _ jT.nd rfl rfl) (@Zt _) rfl) rfl) rfl rfl rfl) rfl rfl rfl) (@ze _ _ _ _ _ (@zt _ _ 11 _ _ _ _ jT.nd rfl (Or.inl rfl) (@zm _ _ _ _ _ _ _ _ _ _ _ d_law_draw hr (by omega) rfl (@za _ _ _ _ _ (@pw _ 2 _ _ rfl rfl) (@za _ _ _ _ _ (@zC _ _ _ _ _ _ _ _ (@ja _) (@zo _ _ _ _ _ _ _ _ _ (@zN _ K rfl) rfl gb.len qM (@za _ _ _ _ _ (@pw _ 5 _ _ rfl rfl) (@zb _) rfl) (by decide) (by decide) rfl rfl) (@zf _ _ _ _)) (@zb _) rfl) rfl) (by decide) rfl rfl) rfl (by walk_at "f")) (@ze _ _ _ _ _ (@qZ _ _ _ _ _ _ _ _ (@PW.pt _ _ _ (@pw_or _ _ _ _ _ _ _ (@QG _ _ _ _ (@jW _ _ _ (@zm _ _ _ _ _ _ _ _ _ _ _ d_law_refused hr (by omega) rfl (@za _ _ _ _ _ (@pw _ 3 _ _ rfl rfl) (@za _ _ _ _ _ (@pw _ 5 _ _ rfl rfl) (@za _ _ _ _ _ (@pw _ 8 _ _ rfl rfl) (@za _ _ _ _ _ (@pw _ 7 _ _ rfl rfl) (@zb _) rfl) rfl) rfl) rfl) (by decide) rfl rfl) (by intro _;rfl))) (@pw_or1 _ _ _ _ (@QG _ _ _ _ (@jW _ _ _ (@zm _ _ _ _ _ _ _ _ _ _ _ d_law_refused hr (by omega) rfl (@za _ _ _ _ _ (@pw _ 3 _ _ rfl rfl) (@za _ _ _ _ _ (@zK _ _ _ _ (@za _ _ _ _ _ (@pw _ 8 _ _ rfl rfl) (@zb _) rfl)) (@za _ _ _ _ _ (@pw _ 10 _ _ rfl rfl) (@za _ _ _ _ _ (@pw _ 7 _ _ rfl rfl) (@zb _) rfl) rfl) rfl) rfl) (by decide) rfl rfl) (by intro _;rfl)))))) (@zi _ _ _ (@zA _ _ _ _ (@YU _ _ _ _))) (@zM _)) (@ze _ _ _ _ _ (@qZ _ _ _ _ _ _ _ _ (@QG _ _ _ _ (@jW _ _ _ (@zm _ _ _ _ _ _ _ _ _ _ _ d_law_refused hr (by omega) rfl (@za _ _ _ _ _ (@pw _ 3 _ _ rfl rfl) (@za _ _ _ _ _ (@zC _ _ _ _ _ _ _ _ (@ZM _) (@zC _ _ _ _ _ _ _ _ (@ZM _) (@zC _ _ _ _ _ _ _ _ (@ZM _) (@qx _ _ _ _ _ _ _ _ _ _ (@Z8 _ K rfl) (@pw _ 5 _ _ rfl rfl) (@jb _) (@jc _ _ _ (@pw _ 11 _ _ rfl rfl))) (@zK _ _ _ _ (@za _ _ _ _ _ (@pw _ 8 _ _ rfl rfl) (@zb _) rfl))) (@qx _ _ _ _ _ _ _ _ _ _ (@Z8 _ K rfl) (@pw _ 5 _ _ rfl rfl) (@jc _ _ _ (@pw _ 11 _ _ rfl rfl)) (@jb _))) (@zK _ _ _ _ (@za _ _ _ _ _ (@pw _ 10 _ _ rfl rfl) (@zb _) rfl))) (@za _ _ _ _ _ (@pw _ 6 _ _ rfl rfl) (@za _ _ _ _ _ (@pw _ 7 _ _ rfl rfl) (@zb _) rfl) rfl) rfl) rfl) (by decide) rfl rfl) (by intro _;rfl))) (@zi _ _ _ (@zA _ _ _ _ (@YU _ _ _ _))) (@zM _)) (@zi _ _ _ (@qZ _ _ _ _ _ _ _ _ (@zx _ _ _ _ _ _ _ _ (@op_ne _) (@zu _ _ _ _ _ _ _ (@zh _ K rfl) (@zm _ _ _ _ _ _ _ _ _ _ _ d_follows hr (by omega) rfl (@za _ _ _ _ _ (@pw _ 3 _ _ rfl rfl) (@za _ _ _ _ _ (@zK _ _ _ _ (@za _ _ _ _ _ (@pw _ 6 _ _ rfl rfl) (@zb _) rfl)) (@za _ _ _ _ _ (@pw _ 6 _ _ rfl rfl) (@zb _) rfl) rfl) rfl) (by decide) rfl rfl) (@zf _ _ _ _) (fun _ _=>rfl)) (@ql _ _ _ _) (@zH _ _ (by decide) (by decide))) (@zi _ _ _ (@zA _ _ _ _ (@YU _ _ _ _))) (@zM _)))))))))))) (by intro _;rfl)) (@zi _ _ _ (@zA _ _ _ _ (@YU _ _ _ _)))),?_⟩
 refine⟨zj (by show 1<=1000;decide),fun z hz=>?_⟩
 have hS1:SqL K (upd H z (.lst [.int 0])) a (ns.map V.int):=(zd hz _).seq hS
 refine⟨_,rfl,_,rfl,.inl ⟨a,_,rfl,hS1,fun y hy=>?_⟩⟩
 obtain⟨ms,em⟩:=cut_ints ns none (some 8)
 have hml:ms.length<=63:=by
  have h1:=Zu (ns.map V.int) none (some 8)
  rw[em,AC,AC] at h1
  omega
 rw[em] at *
 have zy:z ≠ y:=fun e=>by
  rw[<- e,zc] at hy
  cases hy
 refine⟨z,y,_,_,rfl,rfl,by rw[zk zy];exact zc,zc,?_,fun l hl=>?_⟩
 ·rw[AC]
  exact zj (by show 1+ms.length<=1000;omega)
 rw[cat_ints]
 refine⟨l,rfl,⟨_,SqL.of zc⟩,?_⟩
 refine jm (xs:=(0 :: ms).map V.int) (fun _ σ H'=>σ.length=12/\H' l=some (.lst ((0 :: ms).map V.int))) ⟨rfl,zc⟩ (fun i σ H' _ h=>SqL.of h.2) ?_ ?_
 ·rintro i x σ H' hx ⟨hσ,hl'⟩
  rw[AW] at hx
  obtain⟨cc,_,rfl⟩:=Ac.mp hx
  match σ,hσ with
  | [s0,s1,s2,s3,s4,s5,s6,s7,s8,s9,s10,s11],_=>
  refine⟨_,rfl,cc,rfl,fun p r a1 b1 hp=>?_⟩
  have lp:l ≠ p:=zr hl' hp
  have p1:qk (upd H' p (.lst [.int r,.int a1,.int b1])) p:=qk.put
  refine⟨_,rfl,p,4,5,0,rfl,p1,by decide,by decide,by decide,by decide,by decide,by decide,fun v T0 H3 o3 p3 ih g fu0 m4 c5=>?_⟩
  have fu:=fu0 rfl
  have hl3:H3 l=some (.lst ((0 :: ms).map V.int)):=o3 _ _ lp (by rw[zk lp];exact hl')
  have tb:=half_tb ih g fu
  have gT:=XL g fu
  have nT:=half_nd g
  have em:((T0.m.toNat:Nat):Int)=T0.m:=Cg (by have:=g.m1;omega)
  have m1:=g.m1
  generalize hTT:tbOf T0=T at tb gT nT
  obtain⟨ta,tw,tc,tvs,rfl,h1,h2,h3,h4⟩:=id tb
  have emm:((T.m:Nat):Int)=T0.m:=by rw[<- hTT];exact em
  have ccl:T.cs.length<=5:=by
   rw[<- hTT]
   show (T0.cs.map cnOf).length<=5
   rw[AC]
   omega
  refine⟨_,rfl,_,rfl,_,rfl,_,rfl,p,3,rfl,p3,by decide,by decide,fun u H5 u0 u1 o5 p5=>⟨_,_,rfl,rfl,?_⟩⟩
  refine⟨p,1+u,rfl,p5,by omega,by omega,fun ll L H6 o6 p6 hn6 llp hll lL nL hL=>?_⟩
  have o36:=o5.trans o6
  have tb6:=tb.tk (o36.tk p3)
  refine⟨p,ll,_,T,L,5,8,rfl,p6,tb6,gT,llp,hll,by omega,by omega,by decide,by decide,by decide,fun fl fs H7 o7 p7 hn7 flp fnd=>?_⟩
  refine⟨_,rfl,_,rfl,p,fl,T,L,8,fs,2,rfl,p7,flp,fnd,by decide,fun t sl ps y H8 o8 p8 hn8 slp ht hsl psl hps hy=>?_⟩
  obtain⟨f1,f2,f3,f4⟩:=id fnd
  refine⟨t,_,rfl,SqT.of ht,rfl,_,_,rfl,_,_,rfl,rfl,?_⟩
  have fnd':∀ {Hx:Hp},Off p H7 Hx->Fnd Hx T L 8 fl fs:=fun ox=>⟨ox _ _ flp f1,f2,f3,fun z hz=>by obtain⟨k1,k2,k3⟩:=f4 z hz;exact⟨k1,k2,k3.tk (ox.tk p7)⟩⟩
  have tb':∀ {Hx:Hp},Off p H7 Hx->WE Hx (.ref ta) T:=fun ox=>tb6.tk ((o7.trans ox).tk p6)
  refine⟨_,rfl,_,rfl,_,rfl,p,fl,_,T,L,8,fs,rfl,p8,tb' o8,gT,nT,ccl,flp,fnd' o8,hL,by decide,fun t1 v1 nm S1 H9 o9 p9 ht1 iS1 bS1 lS1 zS1=>?_⟩
  refine⟨t1,_,rfl,SqT.of ht1,rfl,_,_,rfl,_,_,rfl,rfl,?_⟩
  refine⟨_,rfl,_,rfl,_,rfl,p,fl,_,T,L,8,fs,rfl,p9,tb' (o8.trans o9),gT,nT,ccl,flp,fnd' (o8.trans o9),hL,by decide,fun t2 v2 nm2 S2 H10 o10 p10 ht2 iS2 bS2 lS2 zS2=>?_⟩
  refine⟨t2,_,rfl,SqT.of ht2,rfl,_,_,rfl,_,_,rfl,rfl,?_⟩
  have hsl10:=(o9.trans o10) _ _ slp hsl
  refine⟨_,rfl,_,rfl,_,_,rfl,.inl ⟨_,SqL.of hsl10,rfl⟩,_,_,rfl,rfl,p,_,rfl,p10,by rw[AC];omega,by rw[AC];omega,fun aa H11 aa0 aa1 o11 p11=>?_⟩
  rw[AC] at aa1
  have O11:=o8.trans (o9.trans (o10.trans o11))
  have tb11:=tb' O11
  have hsl11:=o11 _ _ slp hsl10
  have iS11:=iS1.tk ((o10.trans o11).tk p9)
  have iS21:=iS2.tk (o11.tk p10)
  have gfs:∀ z ∈ fs,GSt T L z.2/\z.2.sz<=8/\qv H11 z.2 z.1:=(fnd' O11).2.2.2
  have okf:∀ z ∈ fs,qv H11 z.2 z.1/\Zd z.2/\z.2.sz<=63:=fun z hz=>by obtain⟨k1,k2,k3⟩:=gfs z hz;exact⟨k3,Zd.of hL k1,by omega⟩
  have knf:∀ z ∈ fs,∀ a ∈ z.2.sub,Kn T a:=fun z hz=>GSt.kn (gfs z hz).1
  have ok1:qv H11 S1 v1/\Zd S1/\S1.sz<=63:=⟨iS11,lS1,by omega⟩
  have ok2:qv H11 S2 v2/\Zd S2/\S2.sz<=63:=⟨iS21,lS2,by omega⟩
  have hl11:H11 l=some (.lst ((0 :: ms).map V.int)):=(o7.trans O11) _ _ lp (o36 _ _ lp hl3)
  refine⟨_,rfl,_,rfl,_,rfl,_,rfl,_,sl,v1,T,ps,S1,nm,rfl,tb11,gT,nT,hsl11,by omega,fun z hz=>?_,yd (fun z hz=>knf z (hps z hz)) bS1,fun H12 s12=>?_⟩
  ·rcases Aa.mp hz with hz | hz
   ·exact okf z (hps z hz)
   ·rw[AF.mp hz];exact ok1
  refine⟨true,rfl,wv ?_⟩
  refine⟨_,rfl,_,rfl,zj (by show 1<=1000;decide),fun l2 hl2=>?_⟩
  have s13:=s12.trans (zd hl2 (.lst [v1]))
  have h2':=@zc H12 l2 (.lst [v1])
  generalize upd H12 l2 (.lst [v1])=H13 at *
  refine⟨_,rfl,_,rfl,_,l2,v2,T,[(v1,S1)],S2,nm,rfl,tb11.same s13,gT,nT,h2',by simp,fun z hz=>?_,yd (as:=[]) (fun z hz=>by cases hz) bS1,fun H14 s14=>?_⟩
  ·rcases AR.mp hz with rfl | hz
   ·exact⟨ok1.1.same s13,ok1.2⟩
   ·rw[AF.mp hz];exact⟨ok2.1.same s13,ok2.2⟩
  refine⟨true,rfl,wv ?_⟩
  have S14:=s13.trans s14
  generalize hk:aa.toNat=k at *
  have eaa:aa=((k:Nat):Int):=by omega
  have kl:k<=ps.length:=by omega
  have hsl14:=S14 _ _ hsl11
  refine⟨_,rfl,_,rfl,_,rfl,_,rfl,.inl ⟨sl,_,rfl,SqL.of hsl14,fun l3 hl3=>?_⟩⟩
  rw[eaa,QF k (by rw[AC];exact kl),<- Cb]
  have n15:=zd hl3 (.lst ((ps.take k).map Prod.fst))
  refine⟨_,rfl,zj (by show 1<=1000;decide),fun l4 hl4=>?_⟩
  have n16:=zd hl4 (.lst [v1])
  refine⟨l3,l4,_,_,rfl,rfl,n16 _ _ zc,zc,by rw[AC,AZ];exact zj (by show _+1<=1000;omega),fun l5 hl5=>?_⟩
  have n17:=zd hl5 (.lst ((ps.take k).map Prod.fst++[v1]))
  have S17:=S14.trans (n15.trans (n16.trans n17))
  have h5':=@zc (upd (upd H14 l3 (.lst ((ps.take k).map Prod.fst))) l4 (.lst [v1])) l5 (.lst ((ps.take k).map Prod.fst++[v1]))
  generalize upd (upd (upd H14 l3 (.lst ((ps.take k).map Prod.fst))) l4 (.lst [v1])) l5 (.lst ((ps.take k).map Prod.fst++[v1]))=H17 at *
  refine⟨_,rfl,_,rfl,_,rfl,.inl ⟨sl,_,rfl,SqL.of (S17 _ _ hsl11),fun l6 hl6=>?_⟩⟩
  rw[cut_fr k (by rw[AC];exact kl),<- DX]
  have n18:=zd hl6 (.lst ((ps.drop k).map Prod.fst))
  refine⟨l5,l6,_,_,rfl,rfl,n18 _ _ h5',zc,by rw[AI,AC,AC,AZ,BS];exact zj (by show _+1+_<=1000;omega),fun l7 hl7=>?_⟩
  have n19:=zd hl7 (.lst ((ps.take k).map Prod.fst++[v1]++(ps.drop k).map Prod.fst))
  refine⟨_,rfl,zj (by show 1<=1000;decide),fun l8 hl8=>?_⟩
  have n20:=zd hl8 (.lst [v2])
  refine⟨l7,l8,_,_,rfl,rfl,n20 _ _ zc,zc,by rw[AI,AI,AC,AC,AZ,BS];exact zj (by show _+1+_+1<=1000;omega),fun l9 hl9=>?_⟩
  have n21:=zd hl9 (.lst ((ps.take k).map Prod.fst++[v1]++(ps.drop k).map Prod.fst++[v2]))
  have S21:=S17.trans (n18.trans (n19.trans (n20.trans n21)))
  have h9':=@zc (upd (upd (upd H17 l6 (.lst ((ps.drop k).map Prod.fst))) l7 (.lst ((ps.take k).map Prod.fst++[v1]++(ps.drop k).map Prod.fst))) l8 (.lst [v2])) l9 (.lst ((ps.take k).map Prod.fst++[v1]++(ps.drop k).map Prod.fst++[v2]))
  generalize upd (upd (upd (upd H17 l6 (.lst ((ps.drop k).map Prod.fst))) l7 (.lst ((ps.take k).map Prod.fst++[v1]++(ps.drop k).map Prod.fst))) l8 (.lst [v2])) l9 (.lst ((ps.take k).map Prod.fst++[v1]++(ps.drop k).map Prod.fst++[v2]))=H21 at *
  have eps:(ps.take k).map Prod.fst++[v1]++(ps.drop k).map Prod.fst++[v2]=(ps.take k++(v1,S1) :: (ps.drop k++[(v2,S2)])).map Prod.fst:=by simp
  rw[eps] at h9'
  refine⟨_,rfl,_,rfl,_,l9,y.1,T,ps.take k++(v1,S1) :: (ps.drop k++[(v2,S2)]),y.2,nm,rfl,tb11.same S21,gT,nT,h9',?_,fun z hz=>?_,by rw[Cy,List.cons_append];exact yd (fun z hz=>knf z (hps z (Bx hz))) bS1,fun H22 s22=>?_⟩
  ·rw[AI,Ab,AI,AZ,BS]
   show _+(_+1+1)<=14
   omega
  ·simp only[List.mem_append,List.mem_cons,List.mem_singleton,List.not_mem_nil,or_false] at hz
   have up:∀ {S:Sy} {v:V},qv H11 S v/\Zd S/\S.sz<=63->qv H21 S v/\Zd S/\S.sz<=63:=fun h=>⟨h.1.same S21,h.2⟩
   rcases hz with (hz | rfl | hz | rfl) | rfl
   ·exact up (okf z (hps z (Bx hz)))
   ·exact up ok1
   ·exact up (okf z (hps z (DR hz)))
   ·exact up ok2
   ·exact up (okf _ hy)
  refine⟨true,rfl,wv ?_⟩
  have S22:=S21.trans s22
  refine⟨_,rfl,_,rfl,zj (by show 1<=1000;decide),fun lz hlz=>?_⟩
  have s23:=S22.trans (zd hlz (.lst [y.1]))
  have hz':=@zc H22 lz (.lst [y.1])
  generalize upd H22 lz (.lst [y.1])=H23 at *
  obtain⟨gy,y8,iy⟩:=gfs y hy
  have dy:=Sy.dp_sz y.2
  refine⟨_,rfl,_,lz,y.1,T,L,[y],y.2,rfl,⟨tb11.same s23,gT,nT,hz',by simp,(fun z hz=>by rw[List.mem_singleton.mp hz];exact⟨gy,by omega,by omega,iy.same s23⟩),iy.same s23,gy,by omega,by omega,hL,by omega⟩,fun _ tt tv H24 s24 htt=>?_,fun γ M gd bar=>absurd (bar.1 y.2 (by simp)) bar.2⟩
  refine .inr (.inl ⟨tt,_,0,_,rfl,rfl,SqT.of htt,rfl,rfl,_,rfl,Z5 (fun z=>absurd z (by simp)) (fun _=>?_)⟩)
  exact⟨rfl,s24 _ _ (s23 _ _ hl11)⟩
 ·rintro σ H' ⟨hσ,hl'⟩
  exact q H'
theorem wt {α:Type}:∀ {us:List α},us.length=1->∃ x0,us=[x0]
 | [x0],_=>⟨x0,rfl⟩
theorem ym {α:Type}:∀ {us:List α},us.length=2->∃ x0 x1,us=[x0,x1]
 | [x0,x1],_=>⟨x0,x1,rfl⟩
theorem yn {α:Type}:∀ {us:List α},us.length=3->∃ x0 x1 x2,us=[x0,x1,x2]
 | [x0,x1,x2],_=>⟨x0,x1,x2,rfl⟩
theorem YL {α:Type}:∀ {us:List α},us.length=4->∃ x0 x1 x2 x3,us=[x0,x1,x2,x3]
 | [x0,x1,x2,x3],_=>⟨x0,x1,x2,x3,rfl⟩
theorem lenK5 {α:Type}:∀ {us:List α},us.length=5->∃ x0 x1 x2 x3 x4,us=[x0,x1,x2,x3,x4]
 | [x0,x1,x2,x3,x4],_=>⟨x0,x1,x2,x3,x4,rfl⟩
def FD (K:PySem.W.Frag) (x:Str) (st:Stmt):Prop:=∃ (f:Addr) (fd:FuncData),PySem.W.nsIn K mainGlobals x=some (some (.ref f))/\PySem.W.keepIn K (.ref f)=true/\Fun K x x st f fd
theorem qB {K:PySem.W.Frag} {x:Str} {st:Stmt} {f:Addr} {oc kV dc pm cd ct:Value} {od an:Option Addr} {sl:Array (Option Value)} (a:PySem.W.nsIn K mainGlobals x=some (some (.ref f))) (l:K.lookup f=some ⟨oc,od,.func (PySem.W.fnOf x x (jq st) (qR st) (zg st) .none kV dc pm an cd ct),sl⟩) (c:PySem.W.codeIn K cd x=true) (k:PySem.W.keepIn K (.ref f)=true):FD K x st:=⟨f,_,a,k,xo l c k⟩
def FDI (K:PySem.W.Frag) (C:Addr) (q:Str) (st:Stmt):Prop:=∃ (f:Addr) (fd:FuncData),PySem.W.findIn K (.ref C) "__init__" = some (some (.ref f))/\PySem.W.isFn K (.ref f)=true/\Fun K "__init__" q st f fd
theorem fdi_mk {K:PySem.W.Frag} {C:Addr} {q:Str} {st:Stmt} {f:Addr} {oc kV dc pm cd ct:Value} {od an:Option Addr} {sl:Array (Option Value)} (a:PySem.W.findIn K (.ref C) "__init__" = some (some (.ref f))) (l:K.lookup f=some ⟨oc,od,.func (PySem.W.fnOf "__init__" q (jq st) (qR st) (zg st) .none kV dc pm an cd ct),sl⟩) (c:PySem.W.codeIn K cd q=true) (k:PySem.W.keepIn K (.ref f)=true) (t:PySem.W.isFn K (.ref f)=true):FDI K C q st:=⟨f,_,a,t,xo l c k⟩
theorem zQ {P:Program} {w:World} {K:PySem.W.Frag} {mg:Str->Option Value} {h base:Heap} {x:Str} {st:Stmt} {k:Nat} {ps:List Str} {sp:Sp} (X:K.In h) (G:h.Ns mainGlobals mg) (d:FD K x st) (ok:∀ f fd,Fun K x x st f fd->jj P w K mg base CX0 k f fd ps sp) (hb:∀ (kV dc pm:Value) (an:Option Addr) (cd ct:Value) (us:List Value),us.length=ps.length->bindArgs (PySem.W.fnOf x x (jq st) (qR st) (zg st) .none kV dc pm an cd ct) ⟨us,[]⟩=pure (ps.zip us)):Def P w K mg base k x ps sp:=by
 obtain⟨f,fd,a,k,F⟩:=d
 exact⟨f,fd,ok f fd F,BB X G a,k,F.binds hb⟩
theorem XY {P:Program} {w:World} {K:PySem.W.Frag} {mg:Str->Option Value} {h base:Heap} {x:Str} {st:Stmt} {k:Nat} {ps:List Str} {sp:Sp} (X:K.In h) (G:h.Ns mainGlobals mg) (d:FD K x st) (ok:∀ f fd,Fun K x x st f fd->jj P w K mg base (CXD P w) k f fd ps sp) (hb:∀ (kV dc pm:Value) (an:Option Addr) (cd ct:Value) (us:List Value),us.length=ps.length->bindArgs (PySem.W.fnOf x x (jq st) (qR st) (zg st) .none kV dc pm an cd ct) ⟨us,[]⟩=pure (ps.zip us)):DefD P w K mg base k x ps sp:=by
 obtain⟨f,fd,a,k,F⟩:=d
 exact⟨f,fd,ok f fd F,BB X G a,k,F.binds hb⟩
theorem all_mk {l:PySem.W.OpenLaw} {w:World} {K:PySem.W.Frag} {h:Heap} {mg:Str->Option Value} {fa fL cc0 cc1 cc2 cc3 cc4 cc5 cc6 cc7 cc8 cc9 cc10:Addr} (X:K.In h) (G:h.Ns mainGlobals mg) (hfa:mg "law" = some (.ref fa)) {od an:Option Addr} {sl:Array (Option Value)} {oc kV dc pm cd ct:Value}
  (h0:FD K "has_small_letters_alone" zD)
  (h1:FD K "is_letter" ZE)
  (h2:FD K "written_parts" jf)
  (h3:FD K "letters_of_all" qq)
  (h4:FD K "with_letter" jJ)
  (h5:FD K "cells_by_name" qz)
  (h6:FD K "check_names" jK)
  (h7:FD K "next_places" qV)
  (h8:FD K "possible_within" qi)
  (h9:FD K "is_closed" jg)
  (h10:FD K "answer_by" jL)
  (h11:FD K "follows" Jc)
  (h12:FD K "cells_by_name" qr)
  (h13:FD K "check_names" jt)
  (h14:FD K "follows" Qh)
  (h15:FD K "_law_pool" Qi)
  (h16:FD K "_law_draw" Qj)
  (h17:FD K "_law_name" qX)
  (h18:FD K "_law_cells" ZG)
  (h19:FD K "_law_half" jB)
  (h20:FD K "_law_words" jN)
  (h21:FD K "_law_letters" qW)
  (h22:FD K "_law_grown" jO)
  (h23:FD K "_law_picked" jn)
  (h24:FD K "_law_alone" jP)
  (h25:FD K "_law_bad" jC)
  (h26:FD K "_law_worse" ji)
  (h27:FD K "_law_refused" jQ)
  (hi_NoName:FDI K cc3 "NoName.__init__" qU)
  (aL:PySem.W.nsIn K mainGlobals "law" = some (some (.ref fL))) (lL:K.lookup fL=some ⟨oc,od,.func (PySem.W.fnOf "law" "law" (jq wr) (qR wr) (zg wr) .none kV dc pm an cd ct),sl⟩) (cL:PySem.W.codeIn K cd "law" = true) (kL:PySem.W.keepIn K (.ref fL)=true)
  (z0:PySem.W.nsIn K mainGlobals "abs" = some none)
  (z1:PySem.W.nsIn K mainGlobals "range" = some none)
  (z2:PySem.W.nsIn K mainGlobals "tuple" = some none)
  (z3:PySem.W.nsIn K mainGlobals "list" = some none)
  (z4:PySem.W.nsIn K mainGlobals "isinstance" = some none)
  (z5:PySem.W.nsIn K mainGlobals "int" = some none)
  (z6:PySem.W.nsIn K mainGlobals "str" = some none)
  (z7:PySem.W.nsIn K mainGlobals "len" = some none)
  (z8:PySem.W.nsIn K mainGlobals "min" = some none)
  (z9:PySem.W.nsIn K mainGlobals "all" = some none)
  (z10:PySem.W.nsIn K mainGlobals "any" = some none)
  (z11:PySem.W.nsIn K mainGlobals "dict" = some none)
  (z12:PySem.W.nsIn K mainGlobals "set" = some none)
  (z13:PySem.W.nsIn K mainGlobals "sorted" = some none)
  (z14:PySem.W.nsIn K mainGlobals "reversed" = some none)
  (z15:PySem.W.nsIn K mainGlobals "sum" = some none)
  (z16:PySem.W.nsIn K mainGlobals "ValueError" = some none)
  (g0:PySem.W.nsIn K mainGlobals "GradeError" = some (some (.ref cc0)))
  (g1:PySem.W.nsIn K mainGlobals "NoFraction" = some (some (.ref cc1)))
  (g2:PySem.W.nsIn K mainGlobals "NoTable" = some (some (.ref cc2)))
  (g3:PySem.W.nsIn K mainGlobals "NoName" = some (some (.ref cc3)))
  (g4:PySem.W.nsIn K mainGlobals "NoSaying" = some (some (.ref cc4)))
  (g5:PySem.W.nsIn K mainGlobals "NoLetter" = some (some (.ref cc5)))
  (g6:PySem.W.nsIn K mainGlobals "TooMany" = some (some (.ref cc6)))
  (g7:PySem.W.nsIn K mainGlobals "NoKind" = some (some (.ref cc7)))
  (g8:PySem.W.nsIn K mainGlobals "NoCount" = some (some (.ref cc8)))
  (g9:PySem.W.nsIn K mainGlobals "NoRow" = some (some (.ref cc9)))
  (g10:PySem.W.nsIn K mainGlobals "NoKept" = some (some (.ref cc10)))
  (w0:exI K cc3 bmV "ValueError.__new__" = true)
  (w1:PySem.W.keepIn K (.ref cc3)=true)
  (w2:PySem.W.findIn K (.ref cc3) "__setattr__" = some (some (.builtin "object.__setattr__")))
  (w3:PySem.W.findIn K (.ref cc3) "name" = some none)
  (w4:PySem.W.findIn K (.ref cc3) "__getattribute__" = some (some (.builtin "BaseException.__getattribute__")))
  (w5:PySem.W.findIn K (.ref cc3) "__getattr__" = some none)
  (w6:PySem.W.specialIn K (.ref cc0) (Str.ofString "__getattribute__")=some (some (.builtin "type.__getattribute__")))
  (w7:PySem.W.readsIn K cc0 (.type "type")=true)
  (w8:PySem.W.findCls K (.ref cc0) (.type "type") "__init__" = some (.val (.builtin "ValueError.__init__")))
  (w9:PySem.W.exmOne K (.ref cc3) (.ref cc0)=some true)
  (w10:qt K cc3=true)
  (w11:PySem.W.kitOne K (.ref cc3) (.type "ValueError")=some true)
  (w12:PySem.W.kitOne K (.ref cc3) (.ref cc1)=some false)
  (w13:PySem.W.kitOne K (.ref cc3) (.ref cc2)=some false)
  (w14:PySem.W.kitOne K (.ref cc3) (.ref cc3)=some true)
  (w15:PySem.W.kitOne K (.ref cc3) (.ref cc4)=some false)
  (w16:PySem.W.kitOne K (.ref cc3) (.ref cc5)=some false)
  (w17:PySem.W.kitOne K (.ref cc3) (.ref cc6)=some false)
  (w18:PySem.W.kitOne K (.ref cc3) (.ref cc7)=some false)
  (w19:PySem.W.kitOne K (.ref cc3) (.ref cc8)=some false)
  (w20:PySem.W.kitOne K (.ref cc3) (.ref cc9)=some false)
  (w21:PySem.W.kitOne K (.ref cc3) (.ref cc10)=some false)
  : ∃ fd:FuncData,(∀ (s:Shared) (v:Value),BindsTo s fd ⟨[v],[]⟩ [("_law_script",v)])/\∀ base:Heap,K.In base->base.Ns mainGlobals mg->jj l.prog w K mg base CX0 33 fa fd ["_law_script"] (spLaw K):=by
 have e:=hfa.symm.trans (BB X G aL)
 cases e
 have gb:Gb mg:=⟨Al X G z0,Al X G z1,Al X G z2,Al X G z3,Al X G z4,Al X G z5,Al X G z6,Al X G z7,Al X G z8,Al X G z9,Al X G z10,Al X G z11,Al X G z12,Al X G z13,Al X G z14,Al X G z15,Al X G z16⟩
 have cl:Cl K mg fun i=>[cc0,cc1,cc2,cc3,cc4,cc5,cc6,cc7,cc8,cc9,cc10].getD i 0:=⟨BB X G g0,BB X G g1,BB X G g2,BB X G g3,BB X G g4,BB X G g5,BB X G g6,BB X G g7,BB X G g8,BB X G g9,BB X G g10,w0,w1,w2,w3,w4,w5,w6,w7,w8,w9,w10,w11,w12,w13,w14,w15,w16,w17,w18,w19,w20,w21⟩
 generalize hcf:(fun i=>[cc0,cc1,cc2,cc3,cc4,cc5,cc6,cc7,cc8,cc9,cc10].getD i 0)=c at cl
 have hi_NoName:FDI K (c 3) "NoName.__init__" qU:=by rw[<- hcf];exact hi_NoName
 refine⟨PySem.W.fnOf "law" "law" (jq wr) (qR wr) (zg wr) .none kV dc pm an cd ct,fun s v=>.of_eq rfl,fun base _ _=>?_⟩
 have d_init_NoName:DefI l.prog w K mg base 2 (c 3) "name" ["self", "name"]:=by
  obtain⟨f,fd,a,t,F⟩:=hi_NoName
  exact⟨f,fd,a,t,Jm F gb cl,F.binds fun _ _ _ _ _ _ us hl=>by obtain⟨z0_,z1_,rfl⟩:=ym hl;rfl⟩
 have d_has_small_letters_alone:Def l.prog w K mg base 1 "has_small_letters_alone" ["text"] W7:=zQ X G h0 (fun _ _ F=>jl F gb cl) fun _ _ _ _ _ _ us hl=>by obtain⟨z0_,rfl⟩:=wt hl;rfl
 have d_is_letter:Def l.prog w K mg base 2 "is_letter" ["thing"] W8:=zQ X G h1 (fun _ _ F=>Wu F gb cl d_has_small_letters_alone) fun _ _ _ _ _ _ us hl=>by obtain⟨z0_,rfl⟩:=wt hl;rfl
 have d_written_parts:Def l.prog w K mg base 3 "written_parts" ["S"] Wo:=zQ X G h2 (fun _ _ F=>Qt F gb cl d_is_letter) fun _ _ _ _ _ _ us hl=>by obtain⟨z0_,rfl⟩:=wt hl;rfl
 have d_letters_of_all:Def l.prog w K mg base 4 "letters_of_all" ["sayings"] QE:=zQ X G h3 (fun _ _ F=>Qd F gb cl d_written_parts d_is_letter) fun _ _ _ _ _ _ us hl=>by obtain⟨z0_,rfl⟩:=wt hl;rfl
 have d_with_letter:Def l.prog w K mg base 1 "with_letter" ["by_letter", "letter", "given"] W9:=zQ X G h4 (fun _ _ F=>Jn F gb cl) fun _ _ _ _ _ _ us hl=>by obtain⟨z0_,z1_,z2_,rfl⟩:=yn hl;rfl
 have d_cells_by_name:Def l.prog w K mg base 1 "cells_by_name" ["H"] spCbn:=zQ X G h5 (fun _ _ F=>Qv F gb cl) fun _ _ _ _ _ _ us hl=>by obtain⟨z0_,rfl⟩:=wt hl;rfl
 have d_check_names:Def l.prog w K mg base 3 "check_names" ["shapes", "parts"] XJ:=zQ X G h6 (fun _ _ F=>Jo F gb cl d_is_letter) fun _ _ _ _ _ _ us hl=>by obtain⟨z0_,z1_,rfl⟩:=ym hl;rfl
 have d_next_places:Def l.prog w K mg base 1 "next_places" ["places", "many", "grades"] XG:=zQ X G h7 (fun _ _ F=>Jp F gb cl) fun _ _ _ _ _ _ us hl=>by obtain⟨z0_,z1_,z2_,rfl⟩:=yn hl;rfl
 have r_possible_within:∀ j,Def l.prog w K mg base (6+j) "possible_within" ["cells", "many", "S", "sets"] (yQ j):=fun j=>by
  induction j with
  | zero=>exact zQ X G h8 (fun _ _ _=>⟨fun _ _ _ _ h=>False.elim h,fun _ _ _ _ _ _ _ _ _ _ _ _ _ h=>False.elim h⟩) fun _ _ _ _ _ _ us hl=>by obtain⟨z0_,z1_,z2_,z3_,rfl⟩:=YL hl;rfl
  | succ j ih=>exact zQ X G h8 (fun _ _ F=>Z3 F gb cl d_is_letter d_next_places j ih) fun _ _ _ _ _ _ us hl=>by obtain⟨z0_,z1_,z2_,z3_,rfl⟩:=YL hl;rfl
 have d_possible_within:=r_possible_within 12
 have d_is_closed:Def l.prog w K mg base 20 "is_closed" ["T", "premises", "S", "sets"] wm:=zQ X G h9 (fun _ _ F=>Wv F gb cl d_cells_by_name d_possible_within) fun _ _ _ _ _ _ us hl=>by obtain⟨z0_,z1_,z2_,z3_,rfl⟩:=YL hl;rfl
 have r_answer_by:∀ j,Def l.prog w K mg base (22+j) "answer_by" ["T", "premises", "S", "letters", "sets"] (Z2 j):=fun j=>by
  induction j with
  | zero=>exact zQ X G h10 (fun _ _ _=>⟨fun _ _ _ _ h=>False.elim h,fun _ _ _ _ _ _ _ _ _ _ _ _ _ h=>False.elim h⟩) fun _ _ _ _ _ _ us hl=>by obtain⟨z0_,z1_,z2_,z3_,z4_,rfl⟩:=lenK5 hl;rfl
  | succ j ih=>exact zQ X G h10 (fun _ _ F=>Ww F gb cl d_is_closed d_with_letter j ih) fun _ _ _ _ _ _ us hl=>by obtain⟨z0_,z1_,z2_,z3_,z4_,rfl⟩:=lenK5 hl;rfl
 have d_answer_by:=r_answer_by 6
 have d_follows:Def l.prog w K mg base 30 "follows" ["T", "premises", "S"] Q8:=zQ X G h11 (fun _ _ F=>YJ F gb cl d_check_names d_cells_by_name d_written_parts d_letters_of_all d_answer_by) fun _ _ _ _ _ _ us hl=>by obtain⟨z0_,z1_,z2_,rfl⟩:=yn hl;rfl
 have d_cells_by_nameX:Def l.prog w K mg base 1 "cells_by_name" ["H"] XS:=zQ X G h12 (fun _ _ F=>Qg F gb cl) fun _ _ _ _ _ _ us hl=>by obtain⟨z0_,rfl⟩:=wt hl;rfl
 have d_check_namesX:DefD l.prog w K mg base 4 "check_names" ["shapes", "parts"] (XT (c 3)):=XY X G h13 (fun _ _ F=>Jd F gb cl d_is_letter d_init_NoName) fun _ _ _ _ _ _ us hl=>by obtain⟨z0_,z1_,rfl⟩:=ym hl;rfl
 have d_followsX:DefD l.prog w K mg base 30 "follows" ["T", "premises", "S"] (XU (c 3)):=XY X G h14 (fun _ _ F=>yg F gb cl d_check_namesX d_cells_by_nameX d_written_parts d_letters_of_all d_answer_by) fun _ _ _ _ _ _ us hl=>by obtain⟨z0_,z1_,z2_,rfl⟩:=yn hl;rfl
 have d_law_pool:Def l.prog w K mg base 1 "_law_pool" ["_law_cell"] xz:=zQ X G h15 (fun _ _ F=>yh F gb cl) fun _ _ _ _ _ _ us hl=>by obtain⟨z0_,rfl⟩:=wt hl;rfl
 have d_law_draw:Def l.prog w K mg base 1 "_law_draw" ["_law_pool_here", "_law_many"] j4:=zQ X G h16 (fun _ _ F=>yi F gb cl) fun _ _ _ _ _ _ us hl=>by obtain⟨z0_,z1_,rfl⟩:=ym hl;rfl
 have d_law_name:Def l.prog w K mg base 2 "_law_name" ["_law_pool_here", "_law_names"] XC:=zQ X G h17 (fun _ _ F=>yj F gb cl d_law_draw) fun _ _ _ _ _ _ us hl=>by obtain⟨z0_,z1_,rfl⟩:=ym hl;rfl
 have d_law_cells:Def l.prog w K mg base 2 "_law_cells" ["_law_pool_here", "_law_many", "_law_places", "_law_often"] W6:=zQ X G h18 (fun _ _ F=>Wy F gb cl d_law_draw) fun _ _ _ _ _ _ us hl=>by obtain⟨z0_,z1_,z2_,z3_,rfl⟩:=YL hl;rfl
 have d_law_half:Def l.prog w K mg base 3 "_law_half" ["_law_pool_here", "_law_most", "_law_connectives", "_law_often"] XD:=zQ X G h19 (fun _ _ F=>yk F gb cl d_law_draw d_law_name d_law_cells) fun _ _ _ _ _ _ us hl=>by obtain⟨z0_,z1_,z2_,z3_,rfl⟩:=YL hl;rfl
 have r_law_words:∀ j,Def l.prog w K mg base (6+j) "_law_words" ["_law_saying"] (wn j):=fun j=>by
  induction j with
  | zero=>exact zQ X G h20 (fun _ _ _=>⟨fun _ _ _ _ h=>False.elim h,fun _ _ _ _ _ _ _ _ _ _ _ _ _ h=>False.elim h⟩) fun _ _ _ _ _ _ us hl=>by obtain⟨z0_,rfl⟩:=wt hl;rfl
  | succ j ih=>exact zQ X G h20 (fun _ _ F=>WA F gb cl j ih) fun _ _ _ _ _ _ us hl=>by obtain⟨z0_,rfl⟩:=wt hl;rfl
 have d_law_words:=r_law_words 12
 have d_law_letters:Def l.prog w K mg base 2 "_law_letters" ["_law_pool_here", "_law_many"] Qc:=zQ X G h21 (fun _ _ F=>Jq F gb cl d_law_draw) fun _ _ _ _ _ _ us hl=>by obtain⟨z0_,z1_,rfl⟩:=ym hl;rfl
 have d_law_grown:Def l.prog w K mg base 20 "_law_grown" ["_law_pool_here", "_law_table", "_law_letters_here", "_law_steps", "_law_most"] yb:=zQ X G h22 (fun _ _ F=>WB F gb cl d_law_draw d_law_words) fun _ _ _ _ _ _ us hl=>by obtain⟨z0_,z1_,z2_,z3_,z4_,rfl⟩:=lenK5 hl;rfl
 have d_law_picked:Def l.prog w K mg base 2 "_law_picked" ["_law_pool_here", "_law_found", "_law_most"] wo:=zQ X G h23 (fun _ _ F=>wq F gb cl d_law_draw) fun _ _ _ _ _ _ us hl=>by obtain⟨z0_,z1_,z2_,rfl⟩:=yn hl;rfl
 have d_law_alone:Def l.prog w K mg base 1 "_law_alone" ["_law_e", "_law_sort"] (ye (c 3)):=zQ X G h24 (fun _ _ F=>WC F gb cl) fun _ _ _ _ _ _ us hl=>by obtain⟨z0_,z1_,rfl⟩:=ym hl;rfl
 have d_law_bad:Def l.prog w K mg base 3 "_law_bad" ["_law_pool_here", "_law_table", "_law_found"] spBad:=zQ X G h25 (fun _ _ F=>YK F gb cl d_law_draw) fun _ _ _ _ _ _ us hl=>by obtain⟨z0_,z1_,z2_,rfl⟩:=yn hl;rfl
 have d_law_worse:Def l.prog w K mg base 4 "_law_worse" ["_law_pool_here", "_law_table", "_law_found"] yf:=zQ X G h26 (fun _ _ F=>WD F gb cl d_law_draw d_law_bad) fun _ _ _ _ _ _ us hl=>by obtain⟨z0_,z1_,z2_,rfl⟩:=yn hl;rfl
 have d_law_refused:Def l.prog w K mg base 31 "_law_refused" ["_law_table", "_law_premises", "_law_saying", "_law_name_here"] Ja:=zQ X G h27 (fun _ _ F=>Jr F gb cl d_followsX d_law_alone) fun _ _ _ _ _ _ us hl=>by obtain⟨z0_,z1_,z2_,z3_,rfl⟩:=YL hl;rfl
 exact ok_law (xo (st:=wr) lL cL kL) gb cl d_law_pool d_law_draw d_law_half d_law_letters d_law_grown d_law_picked d_law_worse d_law_refused d_follows
theorem walk {l:PySem.W.OpenLaw} {q:Program} {loose:List Str} {XP:(Str->Option Value)->Heap->Prop} {YP:World->Heap->Prop} {d:DefRec} {K:Params->PySem.W.Frag} (hn:l.most=some 63) (hdf:d.params.defaults=[])
  (hY:∀ (w:World) (h:Heap),YP w h->(K w.params).In h)
  (F:∀ (w:World) (mg:Str->Option Value) (fa:Addr) (h:Heap),(K w.params).In h->h.Ns mainGlobals mg->mg d.name=some (.ref fa) ->
   ∃ fd:FuncData,(∀ (s:Shared) (u:Value),BindsTo s fd ⟨[u],[]⟩ [("_law_script",u)])/\∀ base:Heap,(K w.params).In base->base.Ns mainGlobals mg->jj l.prog w (K w.params) mg base CX0 33 fa fd ["_law_script"] (spLaw (K w.params))) :
  PySem.W.WalkO q loose XP YP l.row.toRowW d [] (fun f vs=>PySem.call f vs):=
 L2.xn (n:=63) (k:=33) (x := "_law_script") (CX:=fun _=>CX0) (sp:=fun w=>spLaw (K w.params)) hn (by decide) hdf ⟨rfl,by decide,by decide⟩ hY F (fun _ _ a ns hl _ hS=>⟨a,ns,rfl,hS,hl,fun _=>rfl⟩) fun _ _ _ _ _ z=>z
end K20
open PySem PySem.W PyProof.Rows
-- These names are taken so that the head lays no faster copies of the text's constants: the facts below are proved
-- without them as fast, and with them the compiled file has over 64 MB. The proof does not use these names.
theorem PySem.W.Fast.tw4983034936896657172 : True := trivial
theorem PySem.W.Fast.tw9033108510743881063 : True := trivial
theorem PySem.W.Fast.tw9230611999318840002 : True := trivial
theorem PySem.W.Fast.tw15351516467223118050 : True := trivial
theorem PySem.W.Fast.tw17193125259252604467 : True := trivial
theorem PySem.W.Fast.tw3239322401616660700 : True := trivial
theorem PySem.W.Fast.tw12690570292248058819 : True := trivial
theorem PySem.W.Fast.tw7632374238938003524 : True := trivial
theorem PySem.W.Fast.tw7857144012959772998 : True := trivial
theorem PySem.W.Fast.tw14701179783053549685 : True := trivial
theorem PySem.W.Fast.tw3484067359578754619 : True := trivial
theorem PySem.W.Fast.tw6183058724622656978 : True := trivial
theorem PySem.W.Fast.tw5225934683037019957 : True := trivial
theorem PySem.W.Fast.tw12606734455616590922 : True := trivial
theorem PySem.W.Fast.tw366215751590613026 : True := trivial
theorem PySem.W.Fast.tw17616990247334895336 : True := trivial
set_option maxRecDepth 100000 in
set_option maxHeartbeats 0 in
theorem PySem.Challenge.cw_truthgrades_k20_names_that_are_not_there_holds : PySem.Challenge.rw_truthgrades_k20_names_that_are_not_there.Holds := by
 w_on;o_law;k_head;(case hw=>w_witness2)
 k_fill
 refine K20.walk (l:=PySem.Challenge.rw_truthgrades_k20_names_that_are_not_there) rfl rfl (fun w h Y=>PySem.W.kIn_of Y) ?F
 case F=>
  intro w mg fa h KX G hmg
  refine' K20.all_mk KX G hmg (K20.qB ?a0 ?l0 ?c0 ?k0) (K20.qB ?a1 ?l1 ?c1 ?k1) (K20.qB ?a2 ?l2 ?c2 ?k2) (K20.qB ?a3 ?l3 ?c3 ?k3) (K20.qB ?a4 ?l4 ?c4 ?k4) (K20.qB ?a5 ?l5 ?c5 ?k5) (K20.qB ?a6 ?l6 ?c6 ?k6) (K20.qB ?a7 ?l7 ?c7 ?k7) (K20.qB ?a8 ?l8 ?c8 ?k8) (K20.qB ?a9 ?l9 ?c9 ?k9) (K20.qB ?a10 ?l10 ?c10 ?k10) (K20.qB ?a11 ?l11 ?c11 ?k11) (K20.qB ?a12 ?l12 ?c12 ?k12) (K20.qB ?a13 ?l13 ?c13 ?k13) (K20.qB ?a14 ?l14 ?c14 ?k14) (K20.qB ?a15 ?l15 ?c15 ?k15) (K20.qB ?a16 ?l16 ?c16 ?k16) (K20.qB ?a17 ?l17 ?c17 ?k17) (K20.qB ?a18 ?l18 ?c18 ?k18) (K20.qB ?a19 ?l19 ?c19 ?k19) (K20.qB ?a20 ?l20 ?c20 ?k20) (K20.qB ?a21 ?l21 ?c21 ?k21) (K20.qB ?a22 ?l22 ?c22 ?k22) (K20.qB ?a23 ?l23 ?c23 ?k23) (K20.qB ?a24 ?l24 ?c24 ?k24) (K20.qB ?a25 ?l25 ?c25 ?k25) (K20.qB ?a26 ?l26 ?c26 ?k26) (K20.qB ?a27 ?l27 ?c27 ?k27) (K20.fdi_mk ?ai0 ?li0 ?ci0 ?ki0 ?ti0) ?a28 ?l28 ?c28 ?k28 ?z0 ?z1 ?z2 ?z3 ?z4 ?z5 ?z6 ?z7 ?z8 ?z9 ?z10 ?z11 ?z12 ?z13 ?z14 ?z15 ?z16 ?gg0 ?gg1 ?gg2 ?gg3 ?gg4 ?gg5 ?gg6 ?gg7 ?gg8 ?gg9 ?gg10 ?ww0 ?ww1 ?ww2 ?ww3 ?ww4 ?ww5 ?ww6 ?ww7 ?ww8 ?ww9 ?ww10 ?ww11 ?ww12 ?ww13 ?ww14 ?ww15 ?ww16 ?ww17 ?ww18 ?ww19 ?ww20 ?ww21
  (case a0=>k_is);(case l0=>k_is);(case c0=>k_is);(case k0=>k_is)
  (case a1=>k_is);(case l1=>k_is);(case c1=>k_is);(case k1=>k_is)
  (case a2=>k_is);(case l2=>k_is);(case c2=>k_is);(case k2=>k_is)
  (case a3=>k_is);(case l3=>k_is);(case c3=>k_is);(case k3=>k_is)
  (case a4=>k_is);(case l4=>k_is);(case c4=>k_is);(case k4=>k_is)
  (case a5=>k_is);(case l5=>k_is);(case c5=>k_is);(case k5=>k_is)
  (case a6=>k_is);(case l6=>k_is);(case c6=>k_is);(case k6=>k_is)
  (case a7=>k_is);(case l7=>k_is);(case c7=>k_is);(case k7=>k_is)
  (case a8=>k_is);(case l8=>k_is);(case c8=>k_is);(case k8=>k_is)
  (case a9=>k_is);(case l9=>k_is);(case c9=>k_is);(case k9=>k_is)
  (case a10=>k_is);(case l10=>k_is);(case c10=>k_is);(case k10=>k_is)
  (case a11=>k_is);(case l11=>k_is);(case c11=>k_is);(case k11=>k_is)
  (case a12=>k_is);(case l12=>k_is);(case c12=>k_is);(case k12=>k_is)
  (case a13=>k_is);(case l13=>k_is);(case c13=>k_is);(case k13=>k_is)
  (case a14=>k_is);(case l14=>k_is);(case c14=>k_is);(case k14=>k_is)
  (case a15=>k_is);(case l15=>k_is);(case c15=>k_is);(case k15=>k_is)
  (case a16=>k_is);(case l16=>k_is);(case c16=>k_is);(case k16=>k_is)
  (case a17=>k_is);(case l17=>k_is);(case c17=>k_is);(case k17=>k_is)
  (case a18=>k_is);(case l18=>k_is);(case c18=>k_is);(case k18=>k_is)
  (case a19=>k_is);(case l19=>k_is);(case c19=>k_is);(case k19=>k_is)
  (case a20=>k_is);(case l20=>k_is);(case c20=>k_is);(case k20=>k_is)
  (case a21=>k_is);(case l21=>k_is);(case c21=>k_is);(case k21=>k_is)
  (case a22=>k_is);(case l22=>k_is);(case c22=>k_is);(case k22=>k_is)
  (case a23=>k_is);(case l23=>k_is);(case c23=>k_is);(case k23=>k_is)
  (case a24=>k_is);(case l24=>k_is);(case c24=>k_is);(case k24=>k_is)
  (case a25=>k_is);(case l25=>k_is);(case c25=>k_is);(case k25=>k_is)
  (case a26=>k_is);(case l26=>k_is);(case c26=>k_is);(case k26=>k_is)
  (case a27=>k_is);(case l27=>k_is);(case c27=>k_is);(case k27=>k_is)
  (case a28=>k_is);(case l28=>k_is);(case c28=>k_is);(case k28=>k_is)
  (case z0=>k_is)
  (case z1=>k_is)
  (case z2=>k_is)
  (case z3=>k_is)
  (case z4=>k_is)
  (case z5=>k_is)
  (case z6=>k_is)
  (case z7=>k_is)
  (case z8=>k_is)
  (case z9=>k_is)
  (case z10=>k_is)
  (case z11=>k_is)
  (case z12=>k_is)
  (case z13=>k_is)
  (case z14=>k_is)
  (case z15=>k_is)
  (case z16=>k_is)
  (case gg0=>k_is)
  (case gg1=>k_is)
  (case gg2=>k_is)
  (case gg3=>k_is)
  (case gg4=>k_is)
  (case gg5=>k_is)
  (case gg6=>k_is)
  (case gg7=>k_is)
  (case gg8=>k_is)
  (case gg9=>k_is)
  (case gg10=>k_is)
  (case ai0=>k_is);(case li0=>k_is);(case ci0=>k_is);(case ki0=>k_is);(case ti0=>first | k_is | kernel_rfl)
  (case ww0=>first | k_is | kit_is | kernel_rfl)
  (case ww1=>first | k_is | kit_is | kernel_rfl)
  (case ww2=>first | k_is | kit_is | kernel_rfl)
  (case ww3=>first | k_is | kit_is | kernel_rfl)
  (case ww4=>first | k_is | kit_is | kernel_rfl)
  (case ww5=>first | k_is | kit_is | kernel_rfl)
  (case ww6=>first | k_is | kit_is | kernel_rfl)
  (case ww7=>first | k_is | kit_is | kernel_rfl)
  (case ww8=>first | k_is | kit_is | kernel_rfl)
  (case ww9=>first | k_is | kit_is | kernel_rfl)
  (case ww10=>first | k_is | kit_is | kernel_rfl)
  (case ww11=>first | k_is | kit_is | kernel_rfl)
  (case ww12=>first | k_is | kit_is | kernel_rfl)
  (case ww13=>first | k_is | kit_is | kernel_rfl)
  (case ww14=>first | k_is | kit_is | kernel_rfl)
  (case ww15=>first | k_is | kit_is | kernel_rfl)
  (case ww16=>first | k_is | kit_is | kernel_rfl)
  (case ww17=>first | k_is | kit_is | kernel_rfl)
  (case ww18=>first | k_is | kit_is | kernel_rfl)
  (case ww19=>first | k_is | kit_is | kernel_rfl)
  (case ww20=>first | k_is | kit_is | kernel_rfl)
  (case ww21=>first | k_is | kit_is | kernel_rfl)
