import PyProof.Rows.All
import Wide.All
import OpenK.AllK
import Wide.FinOn
import Lean
import PyProof.EqAt
import PyProof.EqKinds
import PyProof.TupleCall
import PySem.Challenge.RW_truthgrades_k25_said_or_unsaid
set_option bootstrap.genMatcherCode false
set_option genSizeOfSpec false
local macro_rules | `(tactic| omega) => `(tactic| lia)
set_option maxHeartbeats 4000000
set_option maxRecDepth 100000
set_option linter.all false
set_option Elab.async false
local macro_rules | `(tactic| ac_rfl) => `(tactic| decide +kernel)
abbrev Fs:=PySem.W.Frag
abbrev AA:=@PySem.wpAny_bind
abbrev AB:=@List.length_map
abbrev AC:=@PySem.Heap.get?_push_of_some
abbrev AD:=@List.getElem?_eq_getElem
abbrev AE:=@List.getElem?_eq_some_iff
abbrev AF:=@PySem.wpAny_pure
abbrev AG:=@Nat.le_refl
abbrev AH:=@Option.some.inj
abbrev AI:=@List.length_append
abbrev AJ:=@List.mem_singleton
abbrev AK:=@PySem.Heap.get?_push_size
abbrev AL:=@PySem.Heap.lt_size
abbrev AM:=@List.map_append
abbrev AN:=@List.mem_of_getElem?
abbrev AO:=@List.getD_eq_getElem?_getD
abbrev AQ:=@PySem.Paired.length
abbrev AR:=@List.getElem?_map
abbrev AS:=@Nat.lt_of_lt_of_le
abbrev AT:=@PyProof.Rows.wpS_bind
abbrev AU:=@Nat.ne_of_lt
abbrev AV:=@List.mem_append
abbrev AW:=@List.mem_map
abbrev AX:=@Bool.false_ne_true
abbrev AY:=@decide_eq_false
abbrev AZ:=@Array.getElem?_toList
abbrev Aa:=@List.size_toArray
abbrev Ab:=@PyProof.Rows.wpS_pure
abbrev Ac:=@List.mem_append_right
abbrev Ad:=@List.take_length
abbrev Ae:=@List.length_take
abbrev Af:=@Ne.symm
abbrev Ag:=@List.append_assoc
abbrev Ah:=@List.mem_append_left
abbrev Ai:=@List.map_cons
abbrev Aj:=@List.length_range
abbrev Ak:=@decide_eq_true
abbrev Al:=@List.mem_cons
abbrev Am:=@Array.length_toList
abbrev An:=@Nat.eq_or_lt_of_le
abbrev Ao:=@List.map_congr_left
abbrev Ap:=@List.append_nil
abbrev Aq:=@Nat.le_trans
abbrev Ar:=@PySem.W.mg_none_of
abbrev As:=@List.mem_cons_self
abbrev At:=@Option.map_eq_some_iff
abbrev Au:=@PySem.wpAny_newObj_type
abbrev Av:=@PySem.F.plainAttrs_list
abbrev Aw:=@List.mem_range
abbrev Ax:=@Nat.lt_irrefl
abbrev Ay:=@List.mem_cons_of_mem
abbrev Az:=@List.length_cons
abbrev A0:=@PySem.Heap.get?_update_other
abbrev A1:=@PySem.wpAny_call_entry
abbrev A2:=@Int.toNat_natCast
abbrev A3:=@List.getElem?_append_right
abbrev A4:=@PySem.wpAny_holding
abbrev A5:=@List.mem_iff_getElem?
abbrev A6:=@Nat.zero_le
abbrev A7:=@PySem.mem_of_lookup
abbrev A8:=@PySem.Heap.get?_update_self
abbrev A9:=@PySem.wpAny_field
abbrev BA:=@List.map_map
abbrev BB:=@Classical.axiomOfChoice
abbrev BC:=@Array.toList_append
abbrev BD:=@List.getElem?_append_left
abbrev BE:=@of_decide_eq_true
abbrev BF:=@PySem.PassesOwn.never
abbrev BG:=@PyProof.Rows.callWith_type1
abbrev BH:=@List.getElem?_eq_none
abbrev BI:=@PySem.W.mg_of
abbrev BJ:=@List.extract_eq_take_drop
abbrev BK:=@Array.getElem?_eq_getElem
abbrev BL:=@congrArg
abbrev BM:=@PySem.W.kia_one
abbrev BN:=@PySem.F.type_list_append
abbrev BO:=@PySem.F.slot_list_append
abbrev BP:=@List.pairwise_map
abbrev BQ:=@PySem.wpAny_attempt
abbrev BR:=@PyProof.Rows.wpS_forRange
abbrev BS:=@PySem.sizeLine_eq
abbrev BT:=@PyProof.Rows.slot_tuple_getitem
abbrev BU:=@List.mem_of_mem_take
abbrev BV:=@List.range_succ
abbrev BW:=@Nat.ne_of_gt
abbrev BX:=@Nat.le_add_right
abbrev BY:=@List.take_of_length_le
abbrev BZ:=@PySem.wpAny_seqItems
abbrev Ba:=@PySem.wpAny_rule
abbrev Bb:=@PySem.Obj.data_mapFields
abbrev Bc:=@List.pairwise_iff_getElem
abbrev Bd:=@List.ext_getElem?
abbrev Be:=@List.getElem?_take_of_lt
abbrev Bf:=@List.all_eq_true
abbrev Bg:=@Array.toList_extract
abbrev Bh:=@PySem.wpAny_of_eq
abbrev Bi:=@Array.getElem?_eq_none
abbrev Bj:=@PySem.Around.under_plainId
abbrev Bk:=@PyProof.Rows.wpS_mono
abbrev Bl:=@List.nodup_cons
abbrev Bm:=@List.drop_eq_getElem_cons
abbrev Bo:=@PySem.wpAny_typeOf
abbrev Bp:=@PySem.wpAny_mono
abbrev Bq:=@List.mem_flatMap
abbrev Br:=@PySem.wpAny_isInstance
abbrev Bs:=@PySem.call_meets
abbrev Bt:=@PySem.F.slot_dict_valueiterator_next
abbrev Bu:=@List.nodup_append
abbrev Bv:=@PySem.plainId_quiet
abbrev Bw:=@List.nil_append
abbrev Bx:=@List.foldl_cons
abbrev By:=@List.replicate_succ
abbrev Bz:=@List.getElem?_range
abbrev B1:=@PySem.wpAny_ite_split
abbrev B2:=@PySem.codeAny_builtin
abbrev B3:=@PySem.F.slot_dict_keyiterator_next
abbrev B4:=@PySem.Heap.SameBut.update
abbrev B5:=@Int.natCast_mul
abbrev B6:=@PySem.wpAny_setField
abbrev B7:=@decide_eq_true_eq
abbrev B8:=@PySem.F.slot_tuple_iterator_next
abbrev B9:=@Nat.lt_succ_of_lt
abbrev CA:=@PySem.wpAny_notOrdered_dict
abbrev CB:=@List.cons.inj
abbrev CC:=@PySem.F.slot_int_rmul
abbrev CD:=@PySem.wpAny_dictEntries
abbrev CF:=@List.lookup_cons
abbrev CG:=@Bool.and_eq_true
abbrev CH:=@Nat.le_succ
abbrev CI:=@Nat.le_of_lt
abbrev CJ:=@Nat.not_lt_zero
abbrev CK:=@PySem.Heap.size_push
abbrev CL:=@Bool.eq_iff_iff
abbrev CM:=@PySem.wpAny_typeNameOfWhole_valiter
abbrev CN:=@PySem.wpAny_typeNameOfWhole_keyiter
abbrev CO:=@List.getElem?_inj
abbrev CP:=@PySem.wpAny_setField_rec
abbrev CQ:=@PySem.wpAny_specialOf
abbrev CS:=@PySem.wpAny_passesOwn
abbrev CT:=@List.take_zero
abbrev CU:=@List.getElem?_set_ne
abbrev CV:=@PySem.Obj.isFreed_of_fields
abbrev CW:=@List.length_drop
abbrev CY:=@List.getElem_mem
abbrev CZ:=@PySem.wpAny_truthy_bool
abbrev Ca:=@PySem.F.plain_extend_loop
abbrev Cb:=@List.length_reverse
abbrev Cc:=@PySem.isSubtype_type
abbrev Cd:=@PySem.F.type_list_extend
abbrev Ce:=@PySem.F.slot_list_extend
abbrev Cf:=@List.Pairwise.imp_of_mem
abbrev Cg:=@List.getElem?_drop
abbrev Ch:=@PySem.wpAny_binaryOp_repeat_ref
abbrev Ci:=@PySem.wpAny_typeNameOf_valiter
abbrev Cj:=@PySem.wpAny_typeNameOf_keyiter
abbrev Ck:=@Nat.sub_self
abbrev Co:=@Nat.lt_trans
abbrev Cp:=@List.getElem?_set_self
abbrev Cq:=@List.drop_zero
abbrev Cr:=@List.drop_eq_nil_of_le
abbrev Ct:=@Array.toList_push
abbrev Cu:=@PySem.wpAny_updateSeq
abbrev Cv:=@PySem.wpAny_ite_false
abbrev Cw:=@PySem.wpAny_execs_nil
abbrev Cy:=@PySem.wpAny_dictEpoch
abbrev Cz:=@PySem.typeIs_int
abbrev C0:=@PySem.tupleKind_room_in1
abbrev C2:=@PySem.F.slot_tuple_getattribute
abbrev C3:=@PySem.wpAny_getItem_str_slice
abbrev C4:=@PySem.F.slot_zip_next
abbrev C5:=@List.length_replicate
abbrev C6:=@List.length_filter_le
abbrev C7:=@PySem.F.slot_list_getattribute
abbrev C8:=@List.any_cons
abbrev C9:=@List.all_cons
abbrev DA:=@PySem.wpAny_pyIter_list
abbrev DB:=@PySem.SeqAt.RcAt.tuples
abbrev DC:=@List.pairwise_append
abbrev DD:=@List.mem_of_mem_drop
abbrev DE:=@Array.toList_reverse
abbrev DF:=@Option.map_some
abbrev DG:=@List.mem_filter
abbrev DH:=@PySem.builtinLookup_eq_fast
abbrev DI:=@List.reverse_append
abbrev DJ:=@List.flatMap_append
abbrev DK:=@Nat.lt_or_ge
abbrev DL:=@PySem.F.slot_tuple_mul
abbrev DM:=@PySem.Txt.slice_le
abbrev DN:=@PySem.F.kt_typeCall_dict_1
abbrev DO:=@Nat.lt_of_le_of_lt
abbrev DP:=@List.map_singleton
abbrev DQ:=@List.filter_append
abbrev DR:=@List.Perm.refl
abbrev DS:=@List.getElem?_zip_eq_some
abbrev DT:=@List.take_sublist
abbrev DU:=@List.flatten_cons
abbrev DV:=@PySem.F.args_tuple_add_2
abbrev DW:=@PySem.F.args_dict_init_2
abbrev DX:=@Option.isSome_iff_exists
abbrev DY:=@PySem.wpAny_Call_Name_kw
abbrev DZ:=@PySem.callType_codes
abbrev Da:=@PySem.F.entry_tuple_add
abbrev Db:=@PySem.F.entry_dict_init
abbrev Dc:=@List.length_eq_zero_iff
abbrev Dd:=@PySem.F.slot_tuple_add
abbrev De:=@PySem.F.kt_called_dict
abbrev Df:=@Nat.not_lt
abbrev Dg:=@List.flatMap_singleton
abbrev Dh:=@List.Perm.append_right
abbrev Di:=@PySem.PassesOwn.leaving
abbrev Dj:=@PySem.Obj.cls_mapFields
abbrev Dk:=@List.of_mem_zip
abbrev Dm:=@Int.natCast_add
abbrev Dn:=@PySem.F.args_int_rmul_2
abbrev Do:=@PySem.wpAny_comprehension_free
abbrev Dp:=@List.take_append_drop
abbrev Dq:=@List.eq_nil_or_concat
abbrev Dr:=@List.concat_eq_append
abbrev Ds:=@List.Perm.append_left
abbrev Dt:=@Sum.inl.inj
abbrev Du:=@PySem.W.looks_findIn
abbrev Dv:=@List.replicate_succ'
abbrev Dw:=@PySem.F.slot_int_index
abbrev Dx:=@PySem.F.entry_int_rmul
abbrev Dy:=@PyProof.Rows.wpS_modify
abbrev Dz:=@PySem.wpAny_pyNext_list_item
abbrev D6:=@PySem.codeAny_mono
abbrev D7:=@PySem.Calls.callWith_builtin
abbrev D8:=@PySem.typeLookup_type
abbrev D9:=@PySem.post_val_or_str
abbrev EA:=@PySem.am_miss_of_fast
abbrev EB:=@PySem.SeqAt.EqAt.same
abbrev EC:=@Int.ofNat_inj
abbrev ED:=@PySem.Heap.DictOf.new
abbrev EE:=@PySem.F.fills_int_mul
abbrev EF:=@PySem.wpAny_pyNext_list_end
abbrev EG:=@PySem.wpAny_isOneOf_valiter
abbrev EH:=@PySem.F.args_tuple_iterator_next_1
abbrev EI:=@Nat.mod_lt
abbrev EJ:=@List.zip_cons_cons
abbrev EK:=@List.mem_filterMap
abbrev EL:=@List.getElem_idxOf
abbrev EM:=@PySem.F.entry_tuple_iterator_next
abbrev EN:=@PySem.wpAny_updateSeq_pair
abbrev EO:=@PySem.wpAny_letGo
abbrev EQ:=@PySem.wpAny_fieldsOf
abbrev ER:=@PySem.isSubtype_stop
abbrev ES:=@Option.isSome_map
abbrev ET:=@Nat.mul_comm
abbrev EU:=@Nat.min_self
abbrev EV:=@Nat.lt_of_succ_lt
abbrev EW:=@Nat.add_zero
abbrev EX:=@List.map_nil
abbrev EY:=@Int.zero_add
abbrev EZ:=@PySem.Heap.get?_none_of_le
abbrev Ea:=@Array.size_append
abbrev Eb:=@Nat.min_le_right
abbrev Ec:=@PySem.wpAny_standAt
abbrev Ed:=@PySem.wpAny_onRaise
abbrev Ee:=@PySem.wpAny_handled
abbrev Ef:=@PySem.wpAny_pyIter_tuple
abbrev Eg:=@PySem.SeqAt.EqAt.of_refs
abbrev Eh:=@PySem.F.args_tuple_mul_2
abbrev Ei:=@List.idxOf_lt_length_of_mem
abbrev Ej:=@PySem.wpAny_pyIter_slot
abbrev Ek:=@PySem.wpAny_assign_Name
abbrev El:=@PySem.F.slot_tuple_getitem
abbrev Em:=@PySem.F.excBase_ValueError
abbrev En:=@Int.fmod_eq_emod_of_nonneg
abbrev Eo:=@Int.fdiv_eq_ediv_of_nonneg
abbrev Ep:=@PySem.F.entry_tuple_mul
abbrev Er:=@PySem.F.args_dict_valueiterator_next_1
namespace L2
open PySem PySem.Spec PyProof.Rows
abbrev Key:=Sum Int Str
def Wo:Key->Value->Bool
 | .inl k,v=>Value.isInt k v
 | .inr x,v=>Value.isStrOf x v
def keyH (w:World):Key->Int
 | .inl k=>hashInt k
 | .inr x=>hashStr w x
theorem qg:∀ {k:Key} {v:Value},Wo k v=true->(∃ i t,k=Sum.inl i/\v=Value.int i t)\/(∃ x t,k=Sum.inr x/\v=Value.str x t)
 | .inl i,v,h=>by
  obtain⟨t,e⟩:=Value.isInt_shape (k:=i) (v:=v) h
  exact .inl ⟨i,t,rfl,e⟩
 | .inr x,v,h=>by
  obtain⟨t,e⟩:=Value.isStrOf_shape (x:=x) (v:=v) h
  exact .inr ⟨x,t,rfl,e⟩
theorem Yx (i:Int) (t:Tok):Wo (.inl i) (.int i t)=true:=by simp[Wo,Value.isInt]
theorem Yy (x:Str) (t:Tok):Wo (.inr x) (.str x t)=true:=by simp[Wo,Value.isStrOf]
theorem key_ll (a b:Int):decide ((Sum.inl a:Key)=Sum.inl b)=(a == b):=by
 by_cases e:a=b
 ·subst e;simp
 ·have h:¬ (Sum.inl a:Key)=Sum.inl b:=fun q=>e (Dt q)
  rw[AY h]
  exact (beq_eq_false_iff_ne.mpr e).symm
theorem key_rr (a b:Str):decide ((Sum.inr a:Key)=Sum.inr b)=decide (a=b):=by
 by_cases e:a=b
 ·subst e;simp
 ·have h:¬ (Sum.inr a:Key)=Sum.inr b:=fun q=>e (Sum.inr.inj q)
  rw[AY h,AY e]
theorem key_lr (a:Int) (b:Str):decide ((Sum.inl a:Key)=Sum.inr b)=false:=AY (fun q=>nomatch q)
theorem key_rl (a:Str) (b:Int):decide ((Sum.inr a:Key)=Sum.inl b)=false:=AY (fun q=>nomatch q)
def zB (prog:Program) (w:World):PySem.KeyKind prog w Key where
 is:=Wo
 hash:=keyH w
 inj:=fun v a b ha hb=>by
  rcases qg ha with ⟨i,t,rfl,rfl⟩ | ⟨x,t,rfl,rfl⟩
  ·rcases qg hb with ⟨j,u,rfl,e⟩ | ⟨y,u,rfl,e⟩
   ·injection e with e1 _;rw[e1]
   ·exact nomatch e
  ·rcases qg hb with ⟨j,u,rfl,e⟩ | ⟨y,u,rfl,e⟩
   ·exact nomatch e
   ·injection e with e1 _;rw[e1]
 byValue:=fun k v h=>by
  rcases qg h with ⟨i,t,rfl,rfl⟩ | ⟨x,t,rfl,rfl⟩ <;> rfl
 pyHash:=fun hv h=>by
  rcases qg hv with ⟨i,t,rfl,rfl⟩ | ⟨x,t,rfl,rfl⟩
  ·exact wpAny_pyHash_int h
  ·exact wpAny_pyHash_str h
 eqBool:=fun hu hv h=>by
  rcases qg hu with ⟨i,t,rfl,rfl⟩ | ⟨x,t,rfl,rfl⟩
  ·rcases qg hv with ⟨j,u,rfl,rfl⟩ | ⟨y,u,rfl,rfl⟩
   ·rw[key_ll] at h;exact wpAny_eqBool_int h
   ·rw[key_lr] at h;exact SeqAt.EqAt.int_str i t y u _ _ _ _ h
  ·rcases qg hv with ⟨j,u,rfl,rfl⟩ | ⟨y,u,rfl,rfl⟩
   ·rw[key_rl] at h;exact SeqAt.EqAt.str_int x t j u _ _ _ _ h
   ·rw[key_rr] at h;exact wpAny_eqBool_str h
 «strs»:=fun k x t v h=>by
  rcases qg h with ⟨i,u,rfl,e⟩ | ⟨y,u,rfl,e⟩
  ·exact nomatch e
  ·injection e with e1 _
   subst e1
   cases v <;> rfl
theorem Wp (prog:Program) (w:World) (i:Int) (t:Tok):(zB prog w).is (.inl i) (.int i t)=true:=Yx i t
theorem Wq (prog:Program) (w:World) (x:Str) (t:Tok):(zB prog w).is (.inr x) (.str x t)=true:=Yy x t
inductive V where
 | non | bl (b:Bool) | int (i:Int) | str (x:Str) | byt (b:Array UInt8) | flt (b:UInt64) | ref (a:Addr) | ty (n:String)
 deriving DecidableEq
def RelV:V->Value->Prop
 | .non,u=>u=Value.none
 | .bl b,u=>u=Value.bool b
 | .int i,u=>∃ t,u=Value.int i t
 | .str x,u=>∃ t,u=Value.str x t
 | .byt b,u=>∃ t,u=Value.bytes b t
 | .flt b,u=>∃ t,u=Value.float b t
 | .ref a,u=>u=Value.ref a
 | .ty n,u=>u=Value.type n
abbrev qi:List V->List Value->Prop:=Paired RelV
theorem qi.length {xs:List V} {us:List Value} (r:qi xs us):xs.length=us.length:=AQ r
theorem qi.get:∀ {xs:List V} {us:List Value} {i:Nat} {x:V},qi xs us->xs[i]? = some x->∃ u,us[i]? = some u/\RelV x u
 | _,_,_,_,.nil,e=>by simp at e
 | _,_,0,_,.cons r _,e=>by simp at e;subst e;exact⟨_,rfl,r⟩
 | _,_,i+1,x,.cons _ t,e=>by
  obtain⟨u,h1,h2⟩:=qi.get (i:=i) (x:=x) t (by simpa using e)
  exact⟨u,by simpa using h1,h2⟩
theorem qi.set {x:V} {u:Value} (r:RelV x u):∀ {xs:List V} {us:List Value} (i:Nat),qi xs us->qi (xs.set i x) (us.set i u)
 | _,_,_,.nil=>.nil
 | _,_,0,.cons _ t=>.cons r t
 | _,_,i+1,.cons q t=>.cons q (qi.set r i t)
theorem qi.append:∀ {xs ys:List V} {us ws:List Value},qi xs us->qi ys ws->qi (xs++ys) (us++ws)
 | _,_,_,_,.nil,s=>s
 | _,_,_,_,.cons r t,s=>.cons r (qi.append t s)
theorem qi.take:∀ {xs:List V} {us:List Value} (n:Nat),qi xs us->qi (xs.take n) (us.take n)
 | _,_,0,_=>.nil
 | _,_,_+1,.nil=>.nil
 | _,_,n+1,.cons r t=>.cons r (qi.take n t)
theorem qi.drop:∀ {xs:List V} {us:List Value} (n:Nat),qi xs us->qi (xs.drop n) (us.drop n)
 | _,_,0,r=>r
 | _,_,_+1,.nil=>.nil
 | _,_,n+1,.cons _ t=>qi.drop n t
def Yr:Option V->Option Value->Prop
 | some v,some u=>RelV v u
 | none,none=>True
 | _,_=>False
def KV {κ:Type}:List (κ×V)->List (κ×Value)->Prop:=Paired fun (p:κ×V) (q:κ×Value)=>p.1=q.1/\RelV p.2 q.2
def kV:Key->V
 | .inl i=>.int i
 | .inr x=>.str x
def Ys (h:Heap) (a:Addr) (items:Array Value):Prop:=∃ o,h.get? a=some o/\o.cls=.type "tuple" /\ (∃ n,o.data=.seq items n)/\o.dict=none
theorem Ys.lt {h:Heap} {a:Addr} {items:Array Value} (x:Ys h a items):a < h.objs.size:=let ⟨_,e,_⟩:=x;AL e
theorem Ys.isTup {h:Heap} {a:Addr} {items:Array Value} (x:Ys h a items):IsTup h a items:=let ⟨o,e,c,n,_⟩:=x;⟨o,e,c,n⟩
theorem Ys.new (h:Heap) (items:Array Value):Ys (h.push { cls:=.type "tuple",data:=.seq items }) h.objs.size items:=⟨_,AK _ rfl,rfl,⟨_,rfl⟩,rfl⟩
inductive HO where
 /-- a list -/
 | lst (xs:List V)
 /-- a tuple (never changes) -/
 | tup (xs:List V)
 /-- a dict whose keys are ints and texts;one whose keys are tuples of ints and texts (the empty one is both) -/
 | dK (kvs:List (Key×V)) | dT (kvs:List (List Key×V))
 /-- a set of ints: its members,its size -/
 | set (S:Int->Bool) (n:Nat)
 /-- an instance of the class at C,its dict at dx,its attributes -/
 | ins (C dx:Addr) (fs:List (Str×V))
 /-- the dict of the instance at x -/
 | own (x:Addr)
 /-- the dict of an exception -/
 | xd (fs:List (Str×V))
 /-- a bound method,f of x -/
 | met (f x:Addr)
 /-- a range object lo,lo+1,.. Yk hi -/
 | rng (lo hi:Int)
 /-- a thing that is known to the object (the script;a dict while a loop walks it): read,never written while it is so -/
 | frz (o:Obj) (u:HO)
 /-- a code object's table -/
 | tbl (ps:Array Value)
 /-- any other thing,by what is true of its one object (a def of one's own: SetO a S n:=HO.ext fun h=>..) -/
 | ext (φ:Heap->Prop)
abbrev Hp:=Addr->Option HO
def upd (H:Hp) (a:Addr) (o:HO):Hp:=fun b=>if b=a then some o else H b
theorem zd {H:Hp} {a:Addr} {o:HO}:upd H a o a=some o:=by unfold upd;rw[if_pos rfl]
theorem zx {H:Hp} {a b:Addr} {o:HO} (h:b ≠ a):upd H a o b=H b:=by unfold upd;rw[if_neg h]
theorem yR {H:Hp} {a b:Addr} {o u:HO} (h:H a=some o) (h':H b=some u) (d:o ≠ u):a ≠ b:=by
 intro e;subst e;rw[h] at h';exact d (AH h')
theorem zE {H:Hp} {a b:Addr} {o:HO} (h:H a=some o) (h':H b=none):a ≠ b:=by
 intro e;subst e;rw[h] at h';cases h'
section
variable (P:Program) (w:World)
def qd (H:Hp) (h:Heap) (a:Addr):HO->Prop
 | .lst xs=>xs.length<=sizeLine/\∃ (its:List Value) (n:Nat),qi xs its/\h.get? a=some { cls:=.type "list",data:=.seq its.toArray n }
 | .tup xs=>xs.length<=sizeLine/\∃ its:List Value,qi xs its/\Ys h a its.toArray
 | .dK kvs=>kvs.length<=sizeLine/\(a == sysModules)=false/\∃ vs,KV kvs vs/\h.DictOf (zB P w) a vs
 | .dT kvs=>kvs.length<=sizeLine/\(a == sysModules)=false/\∃ xs:List (List Key×Addr×Value),
   Paired (fun (p:List Key×V) (q:List Key×Addr×Value)=>p.1=q.1/\H q.2.1=some (.tup (p.1.map kV))/\RelV p.2 q.2.2) kvs xs /\
   ∃ o es ep,h.get? a=some o/\o.ExactDict/\o.data=.dict es ep/\es.toList=xs.map (entryOfKey (tupleKind (zB P w)))/\(xs.map (·.1)).Nodup
 | .set S n=>h.SetOf (intKind P w) a S n
 | .ins C dx fs=>H dx=some (.own a)/\fs.length<=1000/\dx ≠ a/\h.get? a=some (PySem.W.instObj C dx) /\
   ∃ mA,h.Ns1 dx mA/\(∀ f,Yr (fs.lookup f) (mA f))/\PySem.Within mA (fs.map (·.1))
 | .own _=>∃ o,h.get? a=some o
 | .xd fs=>∃ mA,h.Ns1 a mA/\∀ f,Yr (fs.lookup f) (mA f)
 | .rng lo hi=>∃ t u v,h.get? a=some { cls:=.type "range",data:=.fields #[.int lo t,.int hi u,.int 1 v] }
 | .frz o u=>h.get? a=some o/\qd H h a u
 | .tbl ps=>h.get? a=some { cls:=.none,data:=.fields ps }
 | .met f x=>h.get? a=some (PySem.W.methodObj (.ref f) (.ref x))
 | .ext φ=>φ h/\(∃ o,h.get? a=some o)/\∀ h1 h2:Heap,φ h1->(∀ o,h1.get? a=some o->h2.get? a=some o)->φ h2
def HOk (H:Hp) (h:Heap):Prop:=∀ a o,H a=some o->qd P w H h a o
end
section
variable {P:Program} {w:World} {H H':Hp} {h h':Heap} {a:Addr} {o:HO}
theorem qd.lt (x:qd P w H h a o):a < h.objs.size:=by
 cases o with
 | lst xs=>obtain⟨_,_,_,_,e⟩:=x;exact AL e
 | tup xs=>obtain⟨_,_,_,p⟩:=x;exact p.lt
 | dK kvs=>obtain⟨_,_,_,_,o,_,_,e,_⟩:=x;exact AL e
 | dT kvs=>obtain⟨_,_,_,_,o,_,_,e,_⟩:=x;exact AL e
 | set S n=>obtain⟨o,_,_,_,e,_⟩:=x;exact AL e
 | ins C dx fs=>obtain⟨_,_,_,e,_⟩:=x;exact AL e
 | own y=>obtain⟨_,e⟩:=x;exact AL e
 | xd fs=>obtain⟨_,⟨_,_,_,e,_⟩,_⟩:=x;exact AL e
 | rng lo hi=>obtain⟨_,_,_,e⟩:=x;exact AL e
 | frz ob u=>obtain⟨e,_⟩:=x;exact AL e
 | tbl ps=>exact AL (show h.get? a=some _ from x)
 | met f y=>exact AL (show h.get? a=some _ from x)
 | ext φ=>obtain⟨_,⟨_,e⟩,_⟩:=x;exact AL e
theorem Paired.mapP {α β:Type} {F G:α->β->Prop}:∀ {l₁:List α} {l₂:List β},Paired F l₁ l₂->(∀ a b,F a b->G a b)->Paired G l₁ l₂
 | _,_,.nil,_=>.nil
 | _,_,.cons r t,f=>.cons (f _ _ r) (Paired.mapP t f)
theorem Paired.imp' {α β:Type} {F G:α->β->Prop} (f:∀ a b,F a b->G a b) {l₁:List α} {l₂:List β} (r:Paired F l₁ l₂):Paired G l₁ l₂:=Paired.mapP r f
theorem qd.stay (x:qd P w H h a o) (k:∀ b u,(b=a\/H b=some (.own a))->h.get? b=some u->h'.get? b=some u)
  (ho:∀ b,H b=some (.own a)->H' b=some (.own a)) (ht:∀ b xs,H b=some (.tup xs)->H' b=some (.tup xs)):qd P w H' h' a o:=by
 induction o with
 | lst xs=>obtain⟨z,its,n,r,e⟩:=x;exact⟨z,its,n,r,k _ _ (.inl rfl) e⟩
 | tup xs=>obtain⟨z,its,r,ob,e,c⟩:=x;exact⟨z,its,r,ob,k _ _ (.inl rfl) e,c⟩
 | dK kvs=>obtain⟨z,y,vs,r,ob,es,ep,e,c⟩:=x;exact⟨z,y,vs,r,ob,es,ep,k _ _ (.inl rfl) e,c⟩
 | dT kvs=>
  obtain⟨z,y,xs,r,ob,es,ep,e,c⟩:=x
  exact⟨z,y,xs,Paired.mapP r fun p q z=>⟨z.1,ht _ _ z.2.1,z.2.2⟩,ob,es,ep,k _ _ (.inl rfl) e,c⟩
 | set S n=>obtain⟨ob,es,ep,t,e,c⟩:=x;exact⟨ob,es,ep,t,k _ _ (.inl rfl) e,c⟩
 | ins C dx fs=>
  obtain⟨d,z,ne,e,mA,⟨od,es,ep,e2,c⟩,r⟩:=x
  exact⟨ho _ d,z,ne,k _ _ (.inl rfl) e,mA,⟨od,es,ep,k _ _ (.inr d) e2,c⟩,r⟩
 | own y=>obtain⟨ob,e⟩:=x;exact⟨ob,k _ _ (.inl rfl) e⟩
 | xd fs=>obtain⟨mA,⟨od,es,ep,e,c⟩,r⟩:=x;exact⟨mA,⟨od,es,ep,k _ _ (.inl rfl) e,c⟩,r⟩
 | rng lo hi=>obtain⟨t,u,v,e⟩:=x;exact⟨t,u,v,k _ _ (.inl rfl) e⟩
 | frz ob u ih=>obtain⟨e,q⟩:=x;exact⟨k _ _ (.inl rfl) e,ih q⟩
 | tbl ps=>
  have e:h.get? a=some { cls:=.none,data:=.fields ps }:=x
  show h'.get? a=some { cls:=.none,data:=.fields ps }
  exact k a _ (.inl rfl) e
 | met f y=>
  have e:h.get? a=some (PySem.W.methodObj (.ref f) (.ref y)):=x
  show h'.get? a=some (PySem.W.methodObj (.ref f) (.ref y))
  exact k a _ (.inl rfl) e
 | ext φ=>obtain⟨p,⟨o,e⟩,st⟩:=x;exact⟨st _ _ p fun o q=>k _ _ (.inl rfl) q,⟨o,k _ _ (.inl rfl) e⟩,st⟩
theorem HOk.lt (x:HOk P w H h) (e:H a=some o):a < h.objs.size:=(x a o e).lt
theorem HOk.fresh (x:HOk P w H h) (e:h.objs.size<=a):H a=none:=by
 cases q:H a with
 | none=>rfl
 | some u=>exact absurd (AS (x.lt q) e) (Ax _)
theorem HOk.kept (x:HOk P w H h) (k:∀ b u,h.get? b=some u->h'.get? b=some u):HOk P w H h':=fun a o e=>
 (x a o e).stay (fun b u _ q=>k b u q) (fun _ q=>q) fun _ _ q=>q
theorem HOk.laid (x:HOk P w H h) (k:∀ b u,h.get? b=some u->h'.get? b=some u) (hp:h.objs.size<=a) (new:qd P w (upd H a o) h' a o):HOk P w (upd H a o) h':=fun b u e=>by
 have hn:=x.fresh hp
 by_cases hb:b=a
 ·subst hb;rw[zd] at e;cases e;exact new
 ·rw[zx hb] at e
  exact (x b u e).stay (fun c v _ q=>k c v q) (fun c q=>by rw[zx (zE q hn)];exact q) fun c xs q=>by rw[zx (zE q hn)];exact q
end
def Rd (H:Hp) (a:Addr) (u:HO):Prop:=H a=some u\/∃ o,H a=some (.frz o u)
theorem Rd.ok {P:Program} {w:World} {H:Hp} {h:Heap} {a:Addr} {u:HO} (r:Rd H a u) (x:HOk P w H h):qd P w H h a u:=by
 rcases r with r | ⟨o,r⟩
 ·exact x a u r
 ·obtain⟨_,q⟩:=x a _ r
  exact q
def Mut:Option HO->Prop
 | some (.lst _)=>True
 | some (.dK _)=>True
 | some (.dT _)=>True
 | some (.set _ _)=>True
 | some (.ins _ _ _)=>True
 | some (.ext _)=>True
 | _=>False
section
variable {P:Program} {w:World} {H:Hp} {h h':Heap} {x e:Addr} {o':HO}
theorem HOk.write (ok:HOk P w H h) (mu:Mut (H x)) (he:e=x\/H e=some (.own x)) (k:∀ b u,b ≠ e->h.get? b=some u->h'.get? b=some u) (heo:∃ u,h'.get? e=some u)
  (new:qd P w (upd H x o') h' x o'):HOk P w (upd H x o') h':=fun b u q=>by
 have nown:∀ c y,H c=some (.own y)->c ≠ x:=fun c y r z=>by subst z;rw[r] at mu;exact mu
 have ntup:∀ c xs,H c=some (.tup xs)->c ≠ x:=fun c xs r z=>by subst z;rw[r] at mu;exact mu
 by_cases hb:b=x
 ·subst hb;rw[zd] at q;cases q;exact new
 ·rw[zx hb] at q
  by_cases hbe:b=e
  ·have q':H b=some (.own x):=by
    rcases he with z | z
    ·exact absurd (hbe.trans z) hb
    ·rw[hbe];exact z
   rw[q] at q';cases q'
   obtain⟨v,hv⟩:=heo
   exact⟨v,by rw[hbe];exact hv⟩
  ·refine (ok b u q).stay (fun c v hc r=>k c v ?_ r) (fun c r=>by rw[zx (nown c b r)];exact r) fun c xs r=>by rw[zx (ntup c xs r)];exact r
   rcases hc with rfl | hc
   ·exact hbe
   ·rintro rfl
    rcases he with z | z
    ·exact nown c b hc z
    ·rw[hc] at z;cases z;exact hb rfl
end
structure Un (fs ex:List Addr) (H H':Hp) (h h':Heap):Prop where
 keep:∀ b o,h.get? b=some o->H b=none->b ∉ fs->b ∉ ex->h'.get? b=some o
 slot:∀ b o,h.get? b=some o->H b=none->b ∈ fs->b ∉ ex->∃ sl,h'.get? b=some { o with slots:=sl }
 free:∀ b o,h.get? b=some o->H b=none->b ∉ ex->H' b=none
 there:∀ b o,h.get? b=some o->b ∉ ex->∃ o',h'.get? b=some o'
 tups:∀ b xs,H b=some (.tup xs)->H' b=some (.tup xs)
 frzs:∀ b o u,H b=some (.frz o u)->H' b=some (.frz o u)
 tbls:∀ b ps,H b=some (.tbl ps)->∃ more,H' b=some (.tbl (ps++more))
section
variable {fs fs' ex ex':List Addr} {H H1 H2:Hp} {h h1 h2 h':Heap} {a x e:Addr} {o:HO}
theorem Un.any (u:Un fs ex H H1 h h1) {b:Addr} {ob:Obj} (q:h.get? b=some ob) (n:H b=none) (hx:b ∉ ex):∃ sl,h1.get? b=some { ob with slots:=sl }:=by
 by_cases hb:b ∈ fs
 ·exact u.slot b ob q n hb hx
 ·exact⟨ob.slots,u.keep b ob q n hb hx⟩
theorem Un.kept (k:∀ b u,h.get? b=some u->h'.get? b=some u):Un fs ex H H h h':=
 ⟨fun b ob q _ _ _=>k b ob q,fun b ob q _ _ _=>⟨ob.slots,k b ob q⟩,fun _ _ _ n _=>n,fun b ob q _=>⟨ob,k b ob q⟩,fun _ _ q=>q,fun _ _ _ q=>q,fun _ ps q=>⟨#[],by rw[q];simp⟩⟩
theorem Un.refl:Un fs ex H H h h:=Un.kept fun _ _ q=>q
theorem Un.laid (k:∀ b u,h.get? b=some u->h'.get? b=some u) (hp:h.objs.size<=a) (hn:H a=none):Un fs ex H (upd H a o) h h' where
 keep:=fun b u q _ _ _=>k b u q
 slot:=fun b u q _ _ _=>⟨u.slots,k b u q⟩
 free:=fun b u q n _=>by rw[zx (AU (AS (AL q) hp))];exact n
 there:=fun b u q _=>⟨u,k b u q⟩
 tups:=fun b xs q=>by rw[zx (zE q hn)];exact q
 frzs:=fun b u xs q=>by rw[zx (zE q hn)];exact q
 tbls:=fun b ps q=>⟨#[],by rw[zx (zE q hn),q];simp⟩
theorem Un.write (mu:Mut (H x)) (he:e=x\/H e=some (.own x)) (k:∀ b u,b ≠ e->h.get? b=some u->h'.get? b=some u) (heo:∃ u,h'.get? e=some u):Un fs ex H (upd H x o) h h':=by
 have hx:∀ b,H b=none->b ≠ x:=fun b n z=>by subst z;rw[n] at mu;exact mu
 have hb:∀ b,H b=none->b ≠ e:=fun b n z=>by
  subst z
  rcases he with r | r
  ·exact hx b n r
  ·rw[n] at r;cases r
 have hm:∀ b u,H b=some u->¬ Mut (some u)->b ≠ x:=fun b u q nm z=>by subst z;rw[q] at mu;exact nm mu
 refine⟨fun b u q n _ _=>k b u (hb b n) q,fun b u q n _ _=>⟨u.slots,k b u (hb b n) q⟩,fun b u q n _=>by rw[zx (hx b n)];exact n,fun b u q _=>?_,
  fun b xs q=>by rw[zx (hm b _ q fun z=>z)];exact q,fun b u xs q=>by rw[zx (hm b _ q fun z=>z)];exact q,fun b ps q=>⟨#[],by rw[zx (hm b _ q fun z=>z),q];simp⟩⟩
 by_cases hbe:b=e
 ·subst hbe;exact heo
 ·exact⟨u,k b u hbe q⟩
end
def trk (h:Heap) (H:Hp):List Addr:=(List.range h.objs.size).filter fun a=>(H a).isSome
def hidT (h:Heap) (H:Hp):Heap:=PySem.W.hideAll h (trk h H)
theorem Yz (h:Heap) (H:Hp):(hidT h H).objs.size=h.objs.size:=PySem.W.hideAll_size _ _
theorem hidT_get {h:Heap} {H:Hp} {b:Addr} {o:Obj} (e:h.get? b=some o) (n:H b=none):(hidT h H).get? b=some o:=
 PySem.W.hideAll_get _ e fun hm=>by
  have q:(H b).isSome=true:=(DG.mp hm).2
  rw[n] at q;simp at q
theorem of_hidT {h:Heap} {H:Hp} {b:Addr} {o:Obj} (e:(hidT h H).get? b=some o):h.get? b=some o/\H b=none:=by
 have e':h.get? b=some o:=PySem.W.of_hideAll (trk h H) e
 refine⟨e',?_⟩
 cases q:H b with
 | none=>rfl
 | some x=>
  have hm:b ∈ trk h H:=DG.mpr ⟨Aw.mpr (AL e'),by simp[q]⟩
  have z:(hidT h H).get? b=none:=PySem.W.hideAll_none (trk h H) hm
  rw[z] at e;cases e
structure Mod (K:Fs) (mg:Str->Option Value) (base:Heap):Prop where
 kin:K.In base
 glob:base.Ns mainGlobals mg
 blt:∃ mb,base.Ns builtinsNs mb/\∀ x:Str,x ≠ "__name__" -> mb x=bootBuiltins x
 nolimit:base.NoLimit
structure Cx where
 prog:Program
 w:World
 K:Fs
 mg:Str->Option Value
 base:Heap
 A:Around
 N:List Str
 s₀:Shared
 H₀:Hp
 env:Env
 outer:List Env
 stack:List Env
 ex:List Addr
 fn:Str->Bool
 calm:Bool
 pn:List (Addr×Obj)
 xe:Value->Shared->Prop
def frs (l:List Env):List Addr:=l.filterMap (·.frame)
abbrev Cx.fs (X:Cx):List Addr:=frs X.outer
def Vis (sc:Scope) (x:Str):Prop:=sc.names.lookup x=some .local\/sc.names.lookup x=some .cell\/sc.names.lookup x=some .free
def Loc (sc:Scope) (x:Str):Prop:=sc.names.lookup x=some .local\/sc.names.lookup x=some .cell
def Look (env:Env) (h:Heap) (m:Str->Option Value) (x:Str) (u:Value):Prop:=
 (env.kindOf x=some .local/\m x=some u)\/((env.kindOf x=some .cell\/env.kindOf x=some .free)/\∃ c,env.cells.lookup x=some c/\h.IsCell c (some u))
structure Cx.Ok (X:Cx):Prop where
 mod:Mod X.K X.mg X.base
 kind:X.env.scope.kind=.function
 glob:X.env.globals=mainGlobals
 blt:X.env.builtins=builtinsNs
 above:X.s₀.heap.objs.size<=X.env.locals
 inj:∀ x y c,X.env.cells.lookup x=some c->X.env.cells.lookup y=some c->x=y
 has:∀ x,(X.env.kindOf x=some .cell\/X.env.kindOf x=some .free)->∃ c,X.env.cells.lookup x=some c
 cab:∀ x c,X.fn x=true->X.env.cells.lookup x=some c->X.s₀.heap.objs.size<=c
 hd:X.calm=true->X.A.handled=none
 frames:X.A.frames=some X.stack
 stk:X.stack=X.outer\/(X.stack=X.env :: X.outer/\X.env.frame=some X.env.locals)
 exf:∀ b ∈ X.ex,b ≠ X.env.locals/\∀ x c,X.env.cells.lookup x=some c->c ≠ b
 bs:∀ b o,X.base.get? b=some o->X.s₀.heap.get? b=some o/\X.H₀ b=none
 bsz:X.base.objs.size<=X.s₀.heap.objs.size
 noex:∀ b o,X.base.get? b=some o->b ∉ X.ex
 exfs:∀ b ∈ X.ex,b ∉ X.fs
 funs:X.s₀.heap.FunFrames X.base X.outer
 frf:∀ b ∈ X.fs,X.H₀ b=none
structure Inv (X:Cx) (pins:List (Addr×Obj)) (σ:List (Option V)) (H:Hp) (s:Shared):Prop where
 ok:X.Ok
 os:s.os=X.s₀.os
 bare:AllBare s.gens
 base:Un X.fs X.ex X.H₀ H X.s₀.heap s.heap
 loc:∃ m,s.heap.Ns X.env.locals m/\∀ (i:Nat) (x:Str) (v:V),X.N[i]? = some x->σ[i]? = some (some v)->Vis X.env.scope x->∃ u,RelV v u/\Look X.env s.heap m x u
 cell:∀ x c,X.env.cells.lookup x=some c->∃ v,s.heap.IsCell c v
 free:H X.env.locals=none
 freeC:∀ x c,X.env.cells.lookup x=some c->H c=none
 pin:∀ p ∈ X.pn++pins,s.heap.get? p.1=some p.2/\H p.1=none/\p.1 ≠ X.env.locals/\p.1 ∉ X.fs/\∀ v,p.2.data ≠ .cell v
 hok:HOk X.prog X.w H s.heap
 len:σ.length=X.N.length
section
variable {X:Cx} {pins:List (Addr × Obj)} {σ:List (Option V)} {H H':Hp} {s:Shared} {h':Heap}
theorem Cx.Ok.nofr (ok:X.Ok) {b:Addr} {o:Obj} (e:X.base.get? b=some o):b ∉ X.fs:=fun hb=>by
 have:=(ok.funs.mem hb).1
 rw[e] at this;cases this
theorem Inv.bs (I:Inv X pins σ H s):∀ b o,X.base.get? b=some o->s.heap.get? b=some o/\H b=none:=fun b o e=>
 ⟨I.base.keep b o (I.ok.bs b o e).1 (I.ok.bs b o e).2 (I.ok.nofr e) (I.ok.noex b o e),I.base.free b o (I.ok.bs b o e).1 (I.ok.bs b o e).2 (I.ok.noex b o e)⟩
theorem Inv.bk (I:Inv X pins σ H s):∀ b o,X.base.get? b=some o->s.heap.get? b=some o:=fun b o e=>(I.bs b o e).1
theorem Inv.mod (I:Inv X pins σ H s):Mod X.K X.mg X.base:=I.ok.mod
theorem Inv.kIn (I:Inv X pins σ H s):X.K.In s.heap:=I.ok.mod.kin.keeps I.bk
theorem Inv.lt (I:Inv X pins σ H s):X.env.locals < s.heap.objs.size:=let ⟨_,hn,_⟩:=I.loc;hn.lt
theorem Inv.sz (I:Inv X pins σ H s):X.s₀.heap.objs.size<=s.heap.objs.size:=Aq I.ok.above (CI I.lt)
theorem Inv.nofs (I:Inv X pins σ H s) {a:Addr} (h:s.heap.objs.size<=a):a ∉ X.fs:=fun hb=>by
 obtain⟨_,o,ho,_⟩:=I.ok.funs.mem hb
 exact absurd (AS (AL ho) (Aq I.sz h)) (Ax _)
theorem Inv.cne (I:Inv X pins σ H s):∀ x c,X.env.cells.lookup x=some c->c ≠ X.env.locals:=fun x c e z=>by
 obtain⟨v,o,ho,hd⟩:=I.cell x c e
 obtain⟨m,⟨o',es,ep,ho',hd',_⟩,_⟩:=I.loc
 rw[z,ho'] at ho;cases ho;rw[hd'] at hd;cases hd
theorem Inv.funs (I:Inv X pins σ H s):s.heap.FunFrames X.base X.outer:=by
 have all:∀ (l:List Env),(∀ b ∈ frs l,b ∈ X.fs)->X.s₀.heap.FunFrames X.base l->s.heap.FunFrames X.base l:=by
  intro l
  induction l with
  | nil=>intro _ _;trivial
  | cons env r ih=>
   intro hs hl
   obtain⟨hk,⟨L,o,hf,hn,ho,hd⟩,hr⟩:=hl
   have hL:L ∈ X.fs:=hs L (by unfold frs;rw[List.filterMap_cons,hf];exact As)
   obtain⟨sl,e⟩:=I.base.slot L o ho (I.ok.frf L hL) hL fun z=>I.ok.exfs L z hL
   exact⟨hk,⟨L,_,hf,hn,e,hd⟩,ih (fun b hb=>hs b (by unfold frs;rw[List.filterMap_cons,hf];exact Ay _ hb)) hr⟩
 exact all X.outer (fun _ hb=>hb) I.ok.funs
theorem Inv.stack (I:Inv X pins σ H s):s.heap.FunFrames X.base X.stack:=by
 rcases I.ok.stk with e | ⟨e,hf⟩
 ·rw[e];exact I.funs
 ·rw[e]
  obtain⟨m,hn,_⟩:=I.loc
  refine .cons (by rw[I.ok.kind];decide) hf hn ?_ I.funs
  exact EZ (Aq I.ok.bsz I.ok.above)
theorem Inv.stkSub (I:Inv X pins σ H s):∀ b ∈ frs X.stack,b ∈ X.env.locals :: X.fs:=fun b hb=>by
 rcases I.ok.stk with e | ⟨e,hf⟩
 ·rw[e] at hb;exact Ay _ hb
 ·rw[e] at hb
  unfold frs at hb
  rw[List.filterMap_cons,hf] at hb
  exact hb
theorem Inv.stkFree (I:Inv X pins σ H s):∀ b ∈ frs X.stack,H b=none:=fun b hb=>by
 rcases Al.mp (I.stkSub b hb) with e | hb
 ·rw[e];exact I.free
 ·obtain⟨_,o,ho,_⟩:=I.ok.funs.mem hb
  exact I.base.free b o ho (I.ok.frf b hb) fun z=>I.ok.exfs b z hb
theorem Inv.step {g':Array GenState} {t':Nat} {d':Drawn} {ch:List Addr} (I:Inv X pins σ H s)
  (hch:∀ b ∈ ch,(b ∈ X.ex\/X.s₀.heap.objs.size<=b)/\b ≠ X.env.locals/\(∀ x c,X.env.cells.lookup x=some c->c ≠ b)/\∀ p ∈ X.pn++pins,p.1 ≠ b)
  (keep:∀ b o,b ≠ X.env.locals->b ∉ X.fs->b ∉ ch->s.heap.get? b=some o->H b=none->h'.get? b=some o)
  (slot:∀ b o,b ≠ X.env.locals->b ∈ X.fs->b ∉ ch->s.heap.get? b=some o->H b=none->∃ sl,h'.get? b=some { o with slots:=sl }) (free:∀ b o,b ∉ ch->s.heap.get? b=some o->H b=none->H' b=none)
  (there:∀ b o,b ∉ ch->s.heap.get? b=some o->∃ o',h'.get? b=some o')
  (tups:∀ b xs,H b=some (.tup xs)->H' b=some (.tup xs)) (frzs:∀ b o u,H b=some (.frz o u)->H' b=some (.frz o u)) (tbls:∀ b ps,H b=some (.tbl ps)->∃ more,H' b=some (.tbl (ps++more)))
  (ns:∀ m,s.heap.Ns X.env.locals m->h'.Ns X.env.locals m) (hok:HOk X.prog X.w H' h') (hg:AllBare g') :
  Inv X pins σ H' { s with heap:=h',gens:=g',drawn:=d',toks:=t' }:=by
 have neL:∀ b o,X.s₀.heap.get? b=some o->b ≠ X.env.locals:=fun b o e=>AU (AS (AL e) I.ok.above)
 have neC:∀ b o,X.s₀.heap.get? b=some o->b ∉ X.ex->b ∉ ch:=fun b o e hx hb=>by
  rcases (hch b hb).1 with z | z
  ·exact hx z
  ·exact absurd (AS (AL e) z) (Ax _)
 have cellK:∀ x c,X.env.cells.lookup x=some c->∀ v,s.heap.IsCell c v->h'.IsCell c v:=fun x c e v ⟨o,ho,hd⟩=>by
  have nch:c ∉ ch:=fun z=>(hch c z).2.2.1 x c e rfl
  by_cases hc:c ∈ X.fs
  ·obtain⟨sl,q⟩:=slot c o (I.cne x c e) hc nch ho (I.freeC x c e)
   exact⟨_,q,hd⟩
  ·exact⟨o,keep c o (I.cne x c e) hc nch ho (I.freeC x c e),hd⟩
 refine⟨I.ok,I.os,hg,⟨fun b o e n hb hx=>?_,fun b o e n hb hx=>?_,fun b o e n hx=>?_,fun b o e hx=>?_,fun b xs e=>tups b xs (I.base.tups b xs e),fun b o xs e=>frzs b o xs (I.base.frzs b o xs e),fun b ps e=>?_⟩,?_,fun x c e=>?_,?_,fun x c e=>?_,fun p hp=>?_,hok,I.len⟩
 ·exact keep b o (neL b o e) hb (neC b o e hx) (I.base.keep b o e n hb hx) (I.base.free b o e n hx)
 ·obtain⟨sl,e1⟩:=I.base.slot b o e n hb hx
  obtain⟨sl',e2⟩:=slot b _ (neL b o e) hb (neC b o e hx) e1 (I.base.free b o e n hx)
  exact⟨sl',e2⟩
 ·obtain⟨o',e1⟩:=I.base.there b o e hx
  exact free b o' (neC b o e hx) e1 (I.base.free b o e n hx)
 ·obtain⟨o',e1⟩:=I.base.there b o e hx
  exact there b o' (neC b o e hx) e1
 ·obtain⟨m1,e1⟩:=I.base.tbls b ps e
  obtain⟨m2,e2⟩:=tbls b _ e1
  exact⟨m1++m2,by rw[e2,Array.append_assoc]⟩
 ·obtain⟨m,hn,hl⟩:=I.loc
  refine⟨m,ns m hn,fun i x v e1 e2 e3=>?_⟩
  obtain⟨u,r,l⟩:=hl i x v e1 e2 e3
  refine⟨u,r,?_⟩
  rcases l with l | ⟨k,c,e,z⟩
  ·exact .inl l
  ·exact .inr ⟨k,c,e,cellK x c e _ z⟩
 ·obtain⟨v,z⟩:=I.cell x c e
  exact⟨v,cellK x c e v z⟩
 ·obtain⟨m,⟨o,_,_,ho,_⟩,_⟩:=I.loc
  exact free _ o (fun z=>(hch _ z).2.1 rfl) ho I.free
 ·obtain⟨v,o,ho,hd⟩:=I.cell x c e
  exact free c o (fun z=>(hch c z).2.2.1 x c e rfl) ho (I.freeC x c e)
 ·obtain⟨e,n,ne,nf,d⟩:=I.pin p hp
  have nch:p.1 ∉ ch:=fun z=>(hch p.1 z).2.2.2 p hp rfl
  exact⟨keep p.1 p.2 ne nf nch e n,free p.1 p.2 nch e n,ne,nf,d⟩
theorem Inv.un {t':Nat} (I:Inv X pins σ H s) (u:Un X.fs [] H H' s.heap h') (hok:HOk X.prog X.w H' h'):Inv X pins σ H' { s with heap:=h',toks:=t' }:=by
 obtain⟨m,⟨o,es,ep,ho,r⟩,_⟩:=id I.loc
 obtain⟨sl,hL⟩:=u.any ho I.free (by simp)
 exact I.step (g':=s.gens) (d':=s.drawn) (ch:=[]) (fun _ z=>nomatch z) (fun b o _ hb _ e n=>u.keep b o e n hb (by simp)) (fun b o _ hb _ e n=>u.slot b o e n hb (by simp)) (fun b o _ e n=>u.free b o e n (by simp)) (fun b o _ e=>u.there b o e (by simp)) u.tups u.frzs u.tbls (fun m' hm=>by
  obtain⟨o',es',ep',ho',r'⟩:=hm
  rw[ho] at ho';cases ho'
  exact⟨_,es',ep',hL,r'⟩) hok I.bare
theorem Inv.call {g':Array GenState} {t':Nat} {d':Drawn} {ch:List Addr} (I:Inv X pins σ H s) (u:Un (frs X.stack) ch H H' s.heap h') (hok:HOk X.prog X.w H' h') (hg:AllBare g')
  (hch:∀ b ∈ ch,(b ∈ X.ex\/X.s₀.heap.objs.size<=b)/\b ≠ X.env.locals/\(∀ x c,X.env.cells.lookup x=some c->c ≠ b)/\∀ p ∈ X.pn++pins,p.1 ≠ b) :
  Inv X pins σ H' { s with heap:=h',gens:=g',drawn:=d',toks:=t' }:=by
 obtain⟨m,⟨o,es,ep,ho,r⟩,_⟩:=id I.loc
 obtain⟨sl,hL⟩:=u.any ho I.free fun z=>(hch _ z).2.1 rfl
 exact I.step (ch:=ch) hch (fun b o hL hb hc e n=>u.keep b o e n (fun z=>(Al.mp (I.stkSub b z)).elim hL hb) hc) (fun b o _ _ hc e n=>u.any e n hc) (fun b o hc e n=>u.free b o e n hc) (fun b o hc e=>u.there b o e hc) u.tups u.frzs u.tbls (fun m' hm=>by
  obtain⟨o',es',ep',ho',r'⟩:=hm
  rw[ho] at ho';cases ho'
  exact⟨_,es',ep',hL,r'⟩) hok hg
theorem Inv.turned {t':Nat} {it:Addr} (I:Inv X pins σ H s) (k:∀ b o,b ≠ it->s.heap.get? b=some o->h'.get? b=some o) (hn:H it=none) (hL:it ≠ X.env.locals)
  (h1:it ∈ X.ex\/X.s₀.heap.objs.size<=it) (h2:∀ x c,X.env.cells.lookup x=some c->c ≠ it) (h3:∀ p ∈ X.pn++pins,p.1 ≠ it):Inv X pins σ H { s with heap:=h',toks:=t' }:=by
 have nit:∀ b u,H b=some u->b ≠ it:=fun b u e z=>by rw[z,hn] at e;cases e
 refine I.step (g':=s.gens) (d':=s.drawn) (ch:=[it]) (fun b hb=>?_) (fun b o _ _ hc e _=>k b o (fun z=>hc (by simp[z])) e) (fun b o _ _ hc e _=>⟨o.slots,k b o (fun z=>hc (by simp[z])) e⟩) (fun _ _ _ _ n=>n)
  (fun b o hc e=>⟨o,k b o (fun z=>hc (by simp[z])) e⟩) (fun _ _ e=>e) (fun _ _ _ e=>e) (fun b ps e=>⟨#[],by rw[e];simp⟩) (fun m hm=>?_) (fun b u e=>?_) I.bare
 ·have e:b=it:=by simpa using hb
  subst e
  exact⟨h1,hL,h2,h3⟩
 ·obtain⟨o,es,ep,ho,r⟩:=hm
  exact⟨o,es,ep,k _ o (Af hL) ho,r⟩
 ·refine (I.hok b u e).stay (fun c v hc q=>k c v ?_ q) (fun _ q=>q) fun _ _ q=>q
  rcases hc with z | z
  ·rw[z];exact nit b u e
  ·exact nit c _ z
theorem Inv.tok (I:Inv X pins σ H s) (t:Nat):Inv X pins σ H { s with toks:=t }:=I.un (h':=s.heap) (t':=t) Un.refl I.hok
theorem Inv.kept {t':Nat} (I:Inv X pins σ H s) (k:∀ b u,s.heap.get? b=some u->h'.get? b=some u):Inv X pins σ H { s with heap:=h',toks:=t' }:=I.un (Un.kept k) (I.hok.kept k)
theorem Inv.laid {a:Addr} {o:HO} {t':Nat} (I:Inv X pins σ H s) (k:∀ b u,s.heap.get? b=some u->h'.get? b=some u) (hp:s.heap.objs.size<=a) (new:qd X.prog X.w (upd H a o) h' a o) :
  Inv X pins σ (upd H a o) { s with heap:=h',toks:=t' }:=I.un (Un.laid k hp (I.hok.fresh hp)) (I.hok.laid k hp new)
theorem Inv.write {x e:Addr} {o:HO} {t':Nat} (I:Inv X pins σ H s) (mu:Mut (H x)) (he:e=x\/H e=some (.own x)) (k:∀ b u,b ≠ e->s.heap.get? b=some u->h'.get? b=some u) (heo:∃ u,h'.get? e=some u)
  (new:qd X.prog X.w (upd H x o) h' x o):Inv X pins σ (upd H x o) { s with heap:=h',toks:=t' }:=I.un (Un.write mu he k heo) (I.hok.write mu he k heo new)
theorem Inv.pins_of {pins':List (Addr×Obj)} (I:Inv X pins σ H s) (h:∀ p ∈ pins',s.heap.get? p.1=some p.2/\H p.1=none/\p.1 ≠ X.env.locals/\p.1 ∉ X.fs/\∀ v,p.2.data ≠ .cell v):Inv X pins' σ H s:=
 ⟨I.ok,I.os,I.bare,I.base,I.loc,I.cell,I.free,I.freeC,fun p hp=>(AV.mp hp).elim (fun z=>I.pin p (Ah _ z)) (h p),I.hok,I.len⟩
theorem JB {N:List Str} (hN:N.Nodup) {i j:Nat} {x:Str} (a:N[i]? = some x) (b:N[j]? = some x):i=j:=by
 obtain⟨h1,e1⟩:=AE.mp a
 obtain⟨h2,e2⟩:=AE.mp b
 exact (List.getElem_inj hN).mp (e1.trans e2.symm)
theorem Qu {M:Model} {A:Around} {E:Value->Shared->Prop} {i:Nat} {x:Str} {v:V} {u:Value} {Q:Unit->Shared->Prop} (I:Inv X pins σ H s) (hN:X.N.Nodup) (hi:X.N[i]? = some x) (hx:Loc X.env.scope x) (r:RelV v u)
  (h:∀ s',Inv X pins (σ.set i (some v)) H s'->(∃ a,Heap.SameBut a s.heap s'.heap/\(a=X.env.locals\/X.env.cells.lookup x=some a))->Q () s') (hf:X.fn x=true\/X.env.scope.names.lookup x=some .local:=by first | exact .inl rfl | exact .inr rfl | assumption):wpAny M A (storeName X.env x u) Q E s:=by
 obtain⟨m,hn,hl⟩:=id I.loc
 have hcls:(X.env.scope.kind == .class || (X.env.scope.kind == .module && X.env.locals != X.env.globals))=false:=by rw[I.ok.kind];rfl
 have hiσ:i < σ.length:=by rw[I.len];exact (AE.mp hi).1
 have cne:=I.cne
 have tracked:∀ {a:Addr} {h':Heap},(∃ o,s.heap.get? a=some o/\H a=none)->Heap.SameBut a s.heap h'->HOk X.prog X.w H h':=fun {a h'} ha hs b ob e=>by
  obtain⟨_,_,hfree⟩:=ha
  refine (I.hok b ob e).stay (fun c w' hc q=>(hs.2 c ?_).trans q) (fun _ q=>q) fun _ _ q=>q
  rintro rfl
  rcases hc with rfl | hc
  ·rw[hfree] at e;cases e
  ·rw[hfree] at hc;cases hc
 rcases hx with hk | hk
 ·refine wpAny_storeName_local hk hn (fun h' hn' hs=>?_) hcls
  obtain⟨oL,_,_,hoL,_⟩:=id hn
  refine h _ ⟨I.ok,I.os,I.bare,⟨fun b o e n hb hx=>?_,fun b o e n hb hx=>?_,I.base.free,fun b o e hx=>?_,I.base.tups,I.base.frzs,I.base.tbls⟩,⟨_,hn',fun j y v' e1 e2 e3=>?_⟩,fun y c e=>?_,I.free,I.freeC,fun p hp=>?_,tracked ⟨oL,hoL,I.free⟩ hs,by simpa using I.len⟩ ⟨_,hs,.inl rfl⟩
  ·exact (hs.2 b (AU (AS (AL e) I.ok.above))).trans (I.base.keep b o e n hb hx)
  ·obtain⟨sl,e1⟩:=I.base.slot b o e n hb hx
   exact⟨sl,(hs.2 b (AU (AS (AL e) I.ok.above))).trans e1⟩
  ·obtain⟨o',e1⟩:=I.base.there b o e hx
   exact⟨o',(hs.2 b (AU (AS (AL e) I.ok.above))).trans e1⟩
  ·by_cases hj:j=i
   ·subst hj
    rw[hi] at e1;cases e1
    rw[Cp hiσ] at e2
    cases e2
    exact⟨u,r,.inl ⟨hk,by simp⟩⟩
   ·rw[CU (Af hj)] at e2
    obtain⟨u',r',q⟩:=hl j y v' e1 e2 e3
    refine⟨u',r',?_⟩
    rcases q with ⟨k,e⟩ | ⟨k,c,e,z⟩
    ·refine .inl ⟨k,?_⟩
     have:y ≠ x:=fun e=>hj (JB hN e1 (e ▸ hi))
     simp[this,e]
    ·exact .inr ⟨k,c,e,z.sameBut hs (cne y c e)⟩
  ·obtain⟨w',z⟩:=I.cell y c e
   exact⟨w',z.sameBut hs (cne y c e)⟩
  ·obtain⟨e,n,ne,nf,d⟩:=I.pin p hp
   exact⟨(hs.2 p.1 ne).trans e,n,ne,nf,d⟩
 ·have hfn:X.fn x=true:=by
   rcases hf with z | z
   ·exact z
   ·rw[z] at hk;cases hk
  obtain⟨c,hc⟩:=I.ok.has x (.inl hk)
  obtain⟨w',z⟩:=I.cell x c hc
  refine wpAny_storeName_cell I.ok.kind hk hc z (fun h' hc' hs=>?_)
  obtain⟨oc,hoc,hocd⟩:=id z
  refine h { s with heap:=h' } ⟨I.ok,I.os,I.bare,⟨fun b o e n hb hx=>?_,fun b o e n hb hx=>?_,I.base.free,fun b o e hx=>?_,I.base.tups,I.base.frzs,I.base.tbls⟩,⟨m,hn.sameBut hs (Af (cne x c hc)),fun j y v' e1 e2 e3=>?_⟩,fun y c' e=>?_,I.free,I.freeC,fun p hp=>?_,tracked ⟨oc,hoc,I.freeC x c hc⟩ hs,by simpa using I.len⟩ ⟨c,hs,.inr hc⟩
  ·exact (hs.2 b (AU (AS (AL e) (I.ok.cab x c hfn hc)))).trans (I.base.keep b o e n hb hx)
  ·obtain⟨sl,e1⟩:=I.base.slot b o e n hb hx
   exact⟨sl,(hs.2 b (AU (AS (AL e) (I.ok.cab x c hfn hc)))).trans e1⟩
  ·obtain⟨o',e1⟩:=I.base.there b o e hx
   exact⟨o',(hs.2 b (AU (AS (AL e) (I.ok.cab x c hfn hc)))).trans e1⟩
  ·by_cases hj:j=i
   ·subst hj
    rw[hi] at e1;cases e1
    rw[Cp hiσ] at e2
    cases e2
    exact⟨u,r,.inr ⟨.inl hk,c,hc,hc'⟩⟩
   ·rw[CU (Af hj)] at e2
    obtain⟨u',r',q⟩:=hl j y v' e1 e2 e3
    refine⟨u',r',?_⟩
    rcases q with q | ⟨k,c',e,z'⟩
    ·exact .inl q
    ·refine .inr ⟨k,c',e,z'.sameBut hs ?_⟩
     rintro rfl
     exact hj (JB hN e1 (I.ok.inj _ _ _ e hc ▸ hi))
  ·by_cases hcc:c'=c
   ·subst hcc;exact⟨_,hc'⟩
   ·obtain⟨w2,z2⟩:=I.cell y c' e
    exact⟨w2,z2.sameBut hs hcc⟩
  ·obtain⟨e,n,ne,nf,d⟩:=I.pin p hp
   refine⟨(hs.2 p.1 ?_).trans e,n,ne,nf,d⟩
   intro q
   rw[q,hoc] at e
   have q':oc=p.2:=AH e
   exact d w' (by rw[<- q'];exact hocd)
theorem Ql {M:Model} {A:Around} {E:Value->Shared->Prop} {i:Nat} {x:Str} {v:V} {u:Value} {Q:Unit->Shared->Prop} (I:Inv X pins σ H s) (hN:X.N.Nodup) (hi:X.N[i]? = some x) (hx:Loc X.env.scope x) (r:RelV v u)
  (h:∀ s',Inv X pins (σ.set i (some v)) H s'->Q () s') (hf:X.fn x=true\/X.env.scope.names.lookup x=some .local:=by first | exact .inl rfl | exact .inr rfl | assumption):wpAny M A (storeName X.env x u) Q E s:=
 Qu I hN hi hx r (fun s' I' _=>h s' I') hf
theorem Inv.call' {s':Shared} {ch:List Addr} (I:Inv X pins σ H s) (ho:s'.os=s.os) (u:Un (frs X.stack) ch H H' s.heap s'.heap) (hok:HOk X.prog X.w H' s'.heap) (hg:AllBare s'.gens)
  (hch:∀ b ∈ ch,(b ∈ X.ex\/X.s₀.heap.objs.size<=b)/\b ≠ X.env.locals/\(∀ x c,X.env.cells.lookup x=some c->c ≠ b)/\∀ p ∈ X.pn++pins,p.1 ≠ b):Inv X pins σ H' s':=by
 obtain⟨h',g',d',t',o'⟩:=s'
 have e:o'=s.os:=ho
 subst e
 exact I.call (g':=g') (t':=t') (d':=d') u hok hg hch
end
abbrev XK:=Value->Option Addr->Hp->Prop
abbrev St:=List (Option V)
abbrev VK:=V->Hp->Prop
abbrev TE:=St->Hp->VK->Prop
abbrev TT:=St->Hp->(Bool->Hp->Prop)->Prop
abbrev TA:=St->Hp->(List V->Hp->Prop)->Prop
structure Wr where
 nx:St->Hp->Prop
 rt:VK
 bk:St->Hp->Prop:=fun _ _=>False
 ct:St->Hp->Prop:=fun _ _=>False
abbrev TS:=Wr->St->Hp->Prop
def EP (X:Cx) (pins:List (Addr×Obj)) (σ:St) (Q:VK) (u:Value) (s':Shared):Prop:=∃ v H',Inv X pins σ H' s'/\RelV v u/\Q v H'
def TP (X:Cx) (pins:List (Addr×Obj)) (σ:St) (Q:Bool->Hp->Prop) (b:Bool) (s':Shared):Prop:=∃ H',Inv X pins σ H' s'/\Q b H'
def AP (X:Cx) (pins:List (Addr×Obj)) (σ:St) (Q:List V->Hp->Prop) (us:List Value) (s':Shared):Prop:=∃ vs H',Inv X pins σ H' s'/\qi vs us/\Q vs H'
def SP (X:Cx) (pins:List (Addr×Obj)) (D:Wr) (f:Flow) (s':Shared):Prop:=
 match f with
 | .next=>∃ σ' H',Inv X pins σ' H' s'/\D.nx σ' H'
 | .brk=>∃ σ' H',Inv X pins σ' H' s'/\D.bk σ' H'
 | .cont=>∃ σ' H',Inv X pins σ' H' s'/\D.ct σ' H'
 | .ret u=>∃ v σ' H',Inv X pins σ' H' s'/\RelV v u/\D.rt v H'
def PE (X:Cx) (e:Expr) (t:TE):Prop:=
 ∀ (pins:List (Addr×Obj)) (s:Shared) (σ:St) (H:Hp) (Q:VK),Inv X pins σ H s->t σ H Q->wpAny (model X.prog X.w) X.A (eval e X.env) (EP X pins σ Q) X.xe s
def PT (X:Cx) (e:Expr) (t:TT):Prop:=
 ∀ (pins:List (Addr×Obj)) (s:Shared) (σ:St) (H:Hp) (Q:Bool->Hp->Prop),Inv X pins σ H s->t σ H Q->wpAny (model X.prog X.w) X.A (isTrue e X.env (eval e X.env)) (TP X pins σ Q) X.xe s
def PW (X:Cx) (e:Expr) (t:TT):Prop:=
 ∀ (whole:Sem Value) (pins:List (Addr×Obj)) (s:Shared) (σ:St) (H:Hp) (Q:Bool->Hp->Prop),Inv X pins σ H s->t σ H Q->wpAny (model X.prog X.w) X.A (isTrue e X.env whole) (TP X pins σ Q) X.xe s
theorem PW.pt {X:Cx} {e:Expr} {t:TT} (h:PW X e t):PT X e t:=h _
def PA (X:Cx) (es:List Expr) (t:TA):Prop:=
 ∀ (pos:Pos) (pins:List (Addr×Obj)) (s:Shared) (σ:St) (H:Hp) (Q:List V->Hp->Prop),Inv X pins σ H s->t σ H Q->wpAny (model X.prog X.w) X.A (spliced (backTo pos (starEach es X.env))) (AP X pins σ Q) X.xe s
def PS (X:Cx) (st:Stmt) (t:TS):Prop:=
 ∀ (pins:List (Addr×Obj)) (s:Shared) (σ:St) (H:Hp) (D:Wr),Inv X pins σ H s->t D σ H->wpAny (model X.prog X.w) X.A (exec st X.env) (SP X pins D) X.xe s
def PSs (X:Cx) (st:List Stmt) (t:TS):Prop:=
 ∀ (pins:List (Addr×Obj)) (s:Shared) (σ:St) (H:Hp) (D:Wr),Inv X pins σ H s->t D σ H->wpAny (model X.prog X.w) X.A (execs st X.env) (SP X pins D) X.xe s
theorem thn {α:Type} {t:Sem α} {Q Q':α->Shared->Prop} {M:Model} {A:Around} {E:Value->Shared->Prop} {s:Shared} (h:wpAny M A t Q E s) (hQ:∀ a s,Q a s->Q' a s):wpAny M A t Q' E s:=Bp h hQ fun _ _ x=>x
section
variable {X:Cx}
def tVar (i:Nat):TE:=fun σ H Q=>∃ v,σ[i]? = some (some v)/\Q v H
def tC (v:V):TE:=fun _ H Q=>Q v H
theorem pe_var {i:Nat} {x:Str} {pos:Pos} (hN:X.N[i]? = some x) (hv:Vis X.env.scope x) (hd:(x == ("__debug__" : Str))=false:=by decide) (hcd:(x == ("__classdict__" : Str))=false:=by decide):PE X (.Name x pos) (tVar i):=by
 intro pins s σ H Q I h
 obtain⟨v,e,h⟩:=h
 obtain⟨m,hn,hl⟩:=I.loc
 obtain⟨u,r,l⟩:=hl i x v hN e hv
 have fin:EP X pins σ Q u s:=⟨v,H,I,r,h⟩
 rcases l with ⟨hk,hm⟩ | ⟨hk,c,hc,hcell⟩
 ·exact wpAny_Name (wpAny_loadName_local I.ok.kind hk hn hm fin) hd
 ·rcases hk with hk | hk
  ·exact wpAny_Name (wpAny_loadName_cell I.ok.kind hk hc hcell fin) hd
  ·exact wpAny_Name (wpAny_loadName_free I.ok.kind hk hc hcell fin hcd) hd
theorem zh {i j pos}:PE X (.Constant (.int i) j pos) (tC (.int i)):=fun _ _ _ H _ I h=>wpAny_Constant_int ⟨.int i,H,I.tok _,⟨_,rfl⟩,h⟩
theorem Qv {b j pos}:PE X (.Constant (.bool b) j pos) (tC (.bl b)):=fun _ _ _ H _ I h=>Constant_bool ⟨.bl b,H,I,rfl,h⟩
theorem YA {j pos}:PE X (.Constant .none j pos) (tC .non):=fun _ _ _ H _ I h=>Constant_none ⟨.non,H,I,rfl,h⟩
theorem qF {x j pos}:PE X (.Constant (.str x) j pos) (tC (.str x)):=fun _ _ _ H _ I h=>Calls.Constant_str ⟨.str x,H,I.tok _,⟨_,rfl⟩,h⟩
def Gl (X:Cx) (x:Str):Prop:=X.env.kindOf x=some .globalImplicit
theorem Qw {E:Value->Shared->Prop} {pins:List (Addr×Obj)} {s:Shared} {σ:St} {H:Hp} {x:Str} {u:Value} {pos:Pos} {Q:Value->Shared->Prop} (I:Inv X pins σ H s) (hg:Gl X x) (hm:X.mg x=some u) (h:Q u s)
  (hd:(x == ("__debug__" : Str))=false:=by decide):wpAny (model X.prog X.w) X.A (eval (.Name x pos) X.env) Q E s:=
 Calls.Name_function_global I.ok.kind hg (Calls.loadGlobal_global (by rw[I.ok.glob];exact I.mod.glob.keeps I.bk) hm h) hd
theorem ZC {E:Value->Shared->Prop} {pins:List (Addr×Obj)} {s:Shared} {σ:St} {H:Hp} {x:Str} {u:Value} {pos:Pos} {Q:Value->Shared->Prop} (I:Inv X pins σ H s) (hg:Gl X x) (hm:X.mg x=none) (hv:bootBuiltins x=some u) (h:Q u s)
  (hn:x ≠ "__name__":=by decide) (hd:(x == ("__debug__" : Str))=false:=by decide):wpAny (model X.prog X.w) X.A (eval (.Name x pos) X.env) Q E s:=by
 obtain⟨mb,h1,h2⟩:=I.mod.blt
 exact Calls.Name_function_global I.ok.kind hg (Calls.loadGlobal_builtin (by rw[I.ok.glob];exact I.mod.glob.keeps I.bk) hm (by rw[I.ok.blt];exact h1.keeps I.bk) ((h2 x hn).trans hv) h) hd
theorem jk {x:Str} {v:V} {u:Value} {pos:Pos} (hg:Gl X x) (hm:X.mg x=some u) (r:RelV v u) (hd:(x == ("__debug__" : Str))=false:=by decide):PE X (.Name x pos) (tC v):=
 fun _ _ _ H _ I h=>Qw I hg hm ⟨v,H,I,r,h⟩ hd
theorem jX {x:Str} {v:V} {u:Value} {pos:Pos} (hg:Gl X x) (hm:X.mg x=none) (hv:bootBuiltins x=some u) (r:RelV v u) (hn:x ≠ "__name__":=by decide) (hd:(x == ("__debug__" : Str))=false:=by decide):PE X (.Name x pos) (tC v):=
 fun _ _ _ H _ I h=>ZC I hg hm hv ⟨v,H,I,r,h⟩ hn hd
variable {a b:Expr} {ta tb:TE} {pos:Pos}
def tB (t:TE):TT:=fun σ H Q=>t σ H fun x H1=>∃ c,x=.bl c/\Q c H1
theorem Zg {e:Expr} {t:TE} (h:PE X e t) (he:∀ whole,isTrue e X.env whole=(do let v <- whole;standAt e.pos;holding [v] (truthy v)):=by intro _;rfl):PT X e (tB t):=by
 intro pins s σ H Q I hw
 refine isTrue_plain (thn (h pins s σ H _ I hw) fun v s1 ⟨x,H1,I1,r1,q1⟩=>?_) (he _)
 obtain⟨d,rfl,q⟩:=q1
 cases r1
 exact CZ ⟨H1,I1,q⟩
variable {tA tB':TT} {rest:List Expr}
def tAnd (t u:TT):TT:=fun σ H Q=>t σ H fun c H1=>if c=true then u σ H1 Q else Q false H1
def tOr (t u:TT):TT:=fun σ H Q=>t σ H fun c H1=>if c=true then Q true H1 else u σ H1 Q
def tNot (t:TT):TT:=fun σ H Q=>t σ H fun c H1=>Q (!c) H1
theorem Qx (ha:PT X a tA):PW X (.BoolOp .And [a] pos) tA:=by
 intro wh pins s σ H Q I h
 refine isTrue_and (thn (ha pins s σ H Q I h) fun c s1 e=>?_)
 cases c with
 | true=>exact isTrue_and_nil e
 | false=>exact e
theorem Qy (ha:PT X a tA):PW X (.BoolOp .Or [a] pos) tA:=by
 intro wh pins s σ H Q I h
 refine isTrue_or (thn (ha pins s σ H Q I h) fun c s1 e=>?_)
 cases c with
 | false=>exact isTrue_or_nil e
 | true=>exact e
theorem Qz (ha:PT X a tA) (hb:PW X (.BoolOp .And (b :: rest) pos) tB'):PW X (.BoolOp .And (a :: b :: rest) pos) (tAnd tA tB'):=by
 intro wh pins s σ H Q I h
 refine isTrue_and (thn (ha pins s σ H _ I h) fun c s1 ⟨H1,I1,q1⟩=>?_)
 cases c with
 | true=>exact hb wh pins s1 σ H1 Q I1 q1
 | false=>exact⟨H1,I1,q1⟩
theorem wc (ha:PT X a tA) (hb:PW X (.BoolOp .Or (b :: rest) pos) tB'):PW X (.BoolOp .Or (a :: b :: rest) pos) (tOr tA tB'):=by
 intro wh pins s σ H Q I h
 refine isTrue_or (thn (ha pins s σ H _ I h) fun c s1 ⟨H1,I1,q1⟩=>?_)
 cases c with
 | true=>exact⟨H1,I1,q1⟩
 | false=>exact hb wh pins s1 σ H1 Q I1 q1
theorem Qf (ha:PT X a tA):PT X (.UnaryOp .Not a pos) (tNot tA):=by
 intro pins s σ H Q I h
 exact isTrue_not (ha pins s σ H (fun c H1=>Q (!c) H1) I h)
def tAndV (ta tb:TE):TE:=fun σ H Q=>ta σ H fun x H1=>∃ c,x=.bl c/\if c=true then tb σ H1 Q else Q (.bl false) H1
def tNotV (ta:TE):TE:=fun σ H Q=>ta σ H fun x H1=>∃ c,x=.bl c/\Q (.bl (!c)) H1
theorem pe_one {op} {t:TE} (h:PE X a t):PE X (.BoolOp op [a] pos) t:=fun pins s σ H Q I hw=>BoolOp_one (h pins s σ H Q I hw)
theorem wd (ha:PE X a ta) (hb:PE X (.BoolOp .And (b :: rest) pos) tb):PE X (.BoolOp .And (a :: b :: rest) pos) (tAndV ta tb):=by
 intro pins s σ H Q I h
 refine BoolOp_and (thn (ha pins s σ H _ I h) fun v s1 ⟨x,H1,I1,r1,q1⟩=>?_)
 obtain⟨c,rfl,q1⟩:=q1
 cases r1
 refine CZ ?_
 cases c with
 | true=>exact hb pins s1 σ H1 Q I1 q1
 | false=>exact⟨.bl false,H1,I1,rfl,q1⟩
theorem pe_not (ha:PE X a ta):PE X (.UnaryOp .Not a pos) (tNotV ta):=by
 intro pins s σ H Q I h
 refine UnaryOp_ (thn (ha pins s σ H _ I h) fun v s1 ⟨x,H1,I1,r1,q1⟩=>?_)
 obtain⟨c,rfl,q1⟩:=q1
 cases r1
 exact not_of (CZ ⟨.bl (!c),H1,I1,rfl,q1⟩)
end
def SqL (K:Fs) (H:Hp) (a:Addr) (xs:List V):Prop:=
 Rd H a (.lst xs) \/
  ∃ (o:Obj) (its:Array Value) (n:Nat),K.lookup a=some o/\o.cls=.type "list" /\ o.dict=none/\o.data=.seq its n/\its.size<=sizeLine/\qi xs its.toList
def SqT (K:Fs) (H:Hp) (a:Addr) (xs:List V):Prop:=
 Rd H a (.tup xs) \/
  ∃ (o:Obj) (its:Array Value) (n:Nat),K.lookup a=some o/\o.cls=.type "tuple" /\ o.data=.seq its n/\its.size<=sizeLine/\qi xs its.toList
def absV:Value->Option V
 | .none=>some .non
 | .bool b=>some (.bl b)
 | .int i _=>some (.int i)
 | .str x _=>some (.str x)
 | .bytes b _=>some (.byt b)
 | .float b _=>some (.flt b)
 | .ref a=>some (.ref a)
 | .type n=>some (.ty n)
 | _=>none
theorem RelV.abs {x:V} {u:Value} (r:RelV x u):absV u=some x:=by
 cases x with
 | non=>cases r;rfl
 | bl _=>cases r;rfl
 | int _=>obtain⟨t,rfl⟩:=r;rfl
 | str _=>obtain⟨t,rfl⟩:=r;rfl
 | byt _=>obtain⟨t,rfl⟩:=r;rfl
 | flt _=>obtain⟨t,rfl⟩:=r;rfl
 | ref _=>cases r;rfl
 | ty _=>cases r;rfl
theorem RelV.inj {x y:V} {u:Value} (r:RelV x u) (q:RelV y u):x=y:=AH (r.abs.symm.trans q.abs)
theorem qi.inj:∀ {xs ys:List V} {us:List Value},qi xs us->qi ys us->xs=ys
 | _,_,_,.nil,.nil=>rfl
 | _,_,_,.cons r t,.cons r' t'=>by rw[r.inj r',qi.inj t t']
section
variable {X:Cx} {pins:List (Addr × Obj)} {σ:St} {H:Hp} {s:Shared} {a:Addr} {xs ys:List V}
theorem SqL.of {K:Fs} (h:H a=some (.lst xs)):SqL K H a xs:=.inl (.inl h)
theorem SqT.of {K:Fs} (h:H a=some (.tup xs)):SqT K H a xs:=.inl (.inl h)
theorem Inv.list (I:Inv X pins σ H s) (h:SqL X.K H a xs):∃ its:List Value,qi xs its/\PlainL s.heap a its.toArray/\xs.length<=sizeLine:=by
 rcases h with h | ⟨o,its,n,hk,hc,hd,hs,hz,r⟩
 ·obtain⟨z,its,n,r,e⟩:=h.ok I.hok
  exact⟨its,r,⟨_,n,e,rfl,rfl,rfl⟩,z⟩
 ·refine⟨its.toList,r,⟨o,n,I.kIn a o hk,hc,hd,by simpa using hs⟩,?_⟩
  have e:=r.length
  simp only[Array.length_toList] at e
  omega
theorem Inv.tuple (I:Inv X pins σ H s) (h:SqT X.K H a xs):∃ its:List Value,qi xs its/\IsTup s.heap a its.toArray/\xs.length<=sizeLine:=by
 rcases h with h | ⟨o,its,n,hk,hc,hs,hz,r⟩
 ·obtain⟨z,its,r,p⟩:=h.ok I.hok
  exact⟨its,r,p.isTup,z⟩
 ·refine⟨its.toList,r,⟨o,I.kIn a o hk,hc,n,by simpa using hs⟩,?_⟩
  have e:=r.length
  simp only[Array.length_toList] at e
  omega
theorem Inv.list_inj (I:Inv X pins σ H s) (h:SqL X.K H a xs) (h':SqL X.K H a ys):xs=ys:=by
 obtain⟨its,r,⟨o,n,e,_,_,d⟩,_⟩:=I.list h
 obtain⟨its',r',⟨o',n',e',_,_,d'⟩,_⟩:=I.list h'
 rw[e] at e';cases e'
 rw[d] at d'
 injection d' with d1 _
 have:its=its':=by simpa using BL Array.toList d1
 subst this
 exact r.inj r'
theorem Inv.tuple_inj (I:Inv X pins σ H s) (h:SqT X.K H a xs) (h':SqT X.K H a ys):xs=ys:=by
 obtain⟨its,r,⟨o,e,_,n,d⟩,_⟩:=I.tuple h
 obtain⟨its',r',⟨o',e',_,n',d'⟩,_⟩:=I.tuple h'
 rw[e] at e';cases e'
 rw[d] at d'
 injection d' with d1 _
 have:its=its':=by simpa using BL Array.toList d1
 subst this
 exact r.inj r'
end
abbrev Cx.wish (X:Cx) (E:Value->Shared->Prop):Cx:={ X with xe:=E }
abbrev Cx.nox (X:Cx):Cx:=X.wish fun _ _=>False
theorem Cx.Ok.wish {X:Cx} (ok:X.Ok) (E:Value->Shared->Prop):(X.wish E).Ok:=
 ⟨ok.mod,ok.kind,ok.glob,ok.blt,ok.above,ok.inj,ok.has,ok.cab,ok.hd,ok.frames,ok.stk,ok.exf,ok.bs,ok.bsz,ok.noex,ok.exfs,ok.funs,ok.frf⟩
theorem Cx.Ok.unwish {X:Cx} {E:Value->Shared->Prop} (ok:(X.wish E).Ok):X.Ok:=
 ⟨ok.mod,ok.kind,ok.glob,ok.blt,ok.above,ok.inj,ok.has,ok.cab,ok.hd,ok.frames,ok.stk,ok.exf,ok.bs,ok.bsz,ok.noex,ok.exfs,ok.funs,ok.frf⟩
section
variable {X:Cx} {pins:List (Addr × Obj)} {σ:St} {H:Hp} {s:Shared} {E:Value->Shared->Prop}
theorem Inv.wish (I:Inv X pins σ H s) (E:Value->Shared->Prop):Inv (X.wish E) pins σ H s:=⟨I.ok.wish E,I.os,I.bare,I.base,I.loc,I.cell,I.free,I.freeC,I.pin,I.hok,I.len⟩
theorem Inv.unwish (I:Inv (X.wish E) pins σ H s):Inv X pins σ H s:=⟨I.ok.unwish,I.os,I.bare,I.base,I.loc,I.cell,I.free,I.freeC,I.pin,I.hok,I.len⟩
theorem SP.unwish {D:Wr} {f:Flow} {s':Shared} (h:SP (X.wish E) pins D f s'):SP X pins D f s':=by
 cases f with
 | next=>obtain⟨σ',H',I,q⟩:=h;exact⟨σ',H',I.unwish,q⟩
 | brk=>obtain⟨σ',H',I,q⟩:=h;exact⟨σ',H',I.unwish,q⟩
 | cont=>obtain⟨σ',H',I,q⟩:=h;exact⟨σ',H',I.unwish,q⟩
 | ret u=>obtain⟨v,σ',H',I,r,q⟩:=h;exact⟨v,σ',H',I.unwish,r,q⟩
theorem PSs.nox {st:List Stmt} {t:TS} (h:PSs X.nox st t):PSs X st t:=fun pins s σ H D I hw=>
 Bp (h pins s σ H D (I.wish _) hw) (fun _ _ q=>q.unwish) fun _ _ z=>False.elim z
end
section
variable {X:Cx} {st:Stmt} {rest:List Stmt} {t u:TS} {e:Expr} {te:TE} {pos:Pos}
def tNext:TS:=fun D σ H=>D.nx σ H
def tSeq (t u:TS):TS:=fun D σ H=>t { D with nx:=u D } σ H
theorem zX:PSs X [] tNext:=fun _ _ σ H _ I h=>Cw ⟨σ,H,I,h⟩
theorem zg (h1:PS X st t) (h2:PSs X rest u):PSs X (st :: rest) (tSeq t u):=by
 intro pins s σ H D I h
 refine wpAny_execs_cons (thn (h1 pins s σ H { D with nx:=u D } I h) fun f s1 q=>?_)
 cases f with
 | next=>
  obtain⟨σ',H',I',q⟩:=q
  exact h2 pins s1 σ' H' D I' q
 | ret v=>exact q
 | brk=>exact q
 | cont=>exact q
theorem zm (h1:PS X st t):PSs X [st] t:=by
 intro pins s σ H D I h
 refine wpAny_execs_cons (thn (h1 pins s σ H D I h) fun f s1 q=>?_)
 cases f with
 | next=>exact Cw q
 | ret v=>exact q
 | brk=>exact q
 | cont=>exact q
theorem Inv.quiet {pins:List (Addr×Obj)} {σ:St} {H:Hp} {s:Shared} (I:Inv X pins σ H s):interactive X.env=false:=by simp[interactive,I.ok.kind]
def tDrop (te:TE):TS:=fun D σ H=>te σ H fun _ H1=>D.nx σ H1
theorem qJ (he:PE X e te) (hs:swapsWith e none pos.line X.env=pure false:=by rfl):PS X (.Expr e pos) (tDrop te):=by
 intro pins s σ H D I h
 exact wpAny_Expr_any (thn (he pins s σ H _ I h) fun v s1 ⟨x,H1,I1,r1,q1⟩=>⟨σ,H1,I1,q1⟩) I.quiet hs
def tRet (te:TE):TS:=fun D σ H=>te σ H D.rt
theorem zJ (he:PE X e te):PS X (.Return (some e) pos) (tRet te):=by
 intro pins s σ H D I h
 exact wpAny_Return_some (thn (he pins s σ H _ I h) fun v s1 ⟨x,H1,I1,r1,q1⟩=>⟨x,σ,H1,I1,r1,q1⟩)
def tIfS (c:TT) (t u:TS):TS:=fun D σ H=>c σ H fun b H1=>if b=true then t D σ H1 else u D σ H1
theorem qO {c:Expr} {a b:List Stmt} {tc:TT} (hc:PT X c tc) (ha:PSs X a t) (hb:PSs X b u):PS X (.If c a b pos) (tIfS tc t u):=by
 intro pins s σ H D I h
 refine wpAny_If (thn (hc pins s σ H _ I h) fun d s1 ⟨H1,I1,q1⟩=>?_)
 cases d with
 | true=>exact ha pins s1 σ H1 D I1 q1
 | false=>exact hb pins s1 σ H1 D I1 q1
end
abbrev TG:=V->St->Hp->(St->Hp->Prop)->Prop
abbrev TGs:=List V->St->Hp->(St->Hp->Prop)->Prop
def PG (X:Cx) (target:Expr) (t:TG):Prop:=
 ∀ (pins:List (Addr×Obj)) (s:Shared) (σ:St) (H:Hp) (v:V) (u:Value) (Q:St->Hp->Prop),Inv X pins σ H s->RelV v u->t v σ H Q ->
  wpAny (model X.prog X.w) X.A (assign target X.env u) (fun _ s'=>∃ σ' H',Inv X pins σ' H' s'/\Q σ' H') X.xe s
def PGs (X:Cx) (ts:List Expr) (t:TGs):Prop:=
 ∀ (pins:List (Addr×Obj)) (s:Shared) (σ:St) (H:Hp) (vs:List V) (us:List Value) (Q:St->Hp->Prop),Inv X pins σ H s->qi vs us->t vs σ H Q ->
  wpAny (model X.prog X.w) X.A (assignInOrder ((assignEach ts X.env).map (·.2)) us) (fun _ s'=>∃ σ' H',Inv X pins σ' H' s'/\Q σ' H') X.xe s
abbrev TSet:=V->V->V->Hp->(Hp->Prop)->Prop
def PSet (X:Cx) (t:TSet):Prop:=
 ∀ (pins:List (Addr×Obj)) (s:Shared) (σ:St) (H:Hp) (o i v:V) (ov iv u:Value) (Q:Hp->Prop),Inv X pins σ H s->RelV o ov->RelV i iv->RelV v u->t o i v H Q ->
  wpAny (model X.prog X.w) X.A (setItem ov iv u) (fun _ s'=>∃ H',Inv X pins σ H' s'/\Q H') X.xe s
section
variable {X:Cx} {pos:Pos}
def jm (i:Nat):TG:=fun v σ H Q=>Q (σ.set i (some v)) H
theorem QA {i:Nat} {x:Str} (hN:X.N.Nodup) (hi:X.N[i]? = some x) (hx:Loc X.env.scope x) (hf:X.fn x=true\/X.env.scope.names.lookup x=some .local:=by first | exact .inl rfl | exact .inr rfl | assumption):PG X (.Name x pos) (jm i):=by
 intro pins s σ H v u Q I r h
 exact Ek (Ql I hN hi hx r (fun s' I'=>⟨_,H,I',h⟩) hf)
def gNil:TGs:=fun vs σ H Q=>vs=[]/\Q σ H
def we (t:TG) (u:TGs):TGs:=fun vs σ H Q=>∃ v r,vs=v :: r/\t v σ H fun σ' H'=>u r σ' H' Q
theorem jn:PGs X [] gNil:=by
 intro pins s σ H vs us Q I r h
 obtain⟨e,h⟩:=h
 subst e
 cases r
 exact assignInOrder_nil ⟨σ,H,I,h⟩
theorem zD {e:Expr} {es:List Expr} {t:TG} {u:TGs} (h1:PG X e t) (h2:PGs X es u)
  (hs:(assignEach (e :: es) X.env).map (·.2)=assign e X.env :: (assignEach es X.env).map (·.2):=by rfl):PGs X (e :: es) (we t u):=by
 intro pins s σ H vs us Q I r h
 obtain⟨v,vr,e1,h⟩:=h
 subst e1
 cases r with
 | cons r rr=>
  rw[hs]
  refine assignInOrder_cons (thn (h1 pins s σ H _ _ _ I r h) fun _ s1 ⟨σ1,H1,I1,q1⟩=>?_)
  exact h2 pins s1 σ1 H1 _ _ Q I1 rr q1
def gTup (K:Fs) (n:Nat) (t:TGs):TG:=fun v σ H Q=>∃ a xs,v=.ref a/\SqT K H a xs/\xs.length=n/\t xs σ H Q
theorem pg_tup {es:List Expr} {k:Nat} {t:TGs} {n:Nat} (hc:X.calm=true) (h:PGs X es t)
  (hn:(assignEach es X.env).length=n:=by rfl) (hst:(assignEach es X.env).findIdx? (·.1)=none:=by rfl):PG X (.Tuple es k pos) (gTup X.K n t):=by
 intro pins s σ H v u Q I r hw
 obtain⟨a,xs,e1,hq,hl,hw⟩:=hw
 subst e1
 cases r
 obtain⟨its,rv,ht,hz⟩:=I.tuple hq
 refine assign_Tuple_tuple (I.ok.hd hc) ht (by simp[hn,<- hl,rv.length]) hst fun h' hx=>?_
 have I1:Inv X pins σ H { s with heap:=h' }:=I.kept (t':=s.toks) fun b o e=>hx b o (AU (AL e)) e
 exact h pins _ σ H xs _ Q I1 (by simpa using rv) hw
def gSub (to ti:TE) (t:TSet):TG:=fun v σ H Q=>to σ H fun o H1=>ti σ H1 fun i H2=>t o i v H2 fun H3=>Q σ H3
theorem pg_sub {o i:Expr} {to ti:TE} {t:TSet} (ho:PE X o to) (hi:PE X i ti) (hs:PSet X t)
  (ha:∀ v,assign (.Subscript o i pos) X.env v=(do
   let ov <- holding [v] (eval o X.env)
   let iv <- holding [v,ov] (eval i X.env)
   standAt pos
   holding [v,ov,iv] (setItem ov iv v)
   release [v,ov,iv] []):=by intro _;rfl):PG X (.Subscript o i pos) (gSub to ti t):=by
 intro pins s σ H v u Q I r h
 rw[ha]
 refine AA (A4 (thn (ho pins s σ H _ I h) fun ov s1 ⟨x,H1,I1,r1,q1⟩=>?_))
 refine AA (A4 (thn (hi pins s1 σ H1 _ I1 q1) fun iv s2 ⟨y,H2,I2,r2,q2⟩=>?_))
 refine AA (Ec (AA (A4 (thn (hs pins s2 σ H2 x y v ov iv u _ I2 r1 r2 r q2) fun _ s3 ⟨H3,I3,q3⟩=>?_))))
 exact wpAny_release ⟨σ,H3,I3,q3⟩
def tAsg (te:TE) (g:TG):TS:=fun D σ H=>te σ H fun x H1=>g x σ H1 D.nx
theorem wf {tg e:Expr} {te:TE} {g:TG} (he:PE X e te) (hg:PG X tg g) (hs:swapsWithSole [tg] e pos.line X.env=pure false:=by rfl) (hw:swappedStores [tg] e X.env=pure none:=by rfl)
  (h1:(assignEach [tg] X.env).map (·.2)=[assign tg X.env]:=by rfl):PS X (.Assign [tg] e pos) (tAsg te g):=by
 intro pins s σ H D I h
 refine wpAny_Assign_stores (thn (he pins s σ H _ I h) fun v s1 ⟨x,H1,I1,r1,q1⟩=>?_) hs hw
 rw[h1]
 exact thn (hg pins s1 σ H1 x v _ I1 r1 q1) fun _ s2 q=>q
theorem zy {i:Nat} {x:Str} {e:Expr} {te:TE} {pos':Pos} (hN:X.N.Nodup) (hi:X.N[i]? = some x) (hx:Loc X.env.scope x) (he:PE X e te) (hs:swapsWith e (some (.Name x pos')) pos.line X.env=pure false:=by rfl) (hf:X.fn x=true\/X.env.scope.names.lookup x=some .local:=by first | exact .inl rfl | exact .inr rfl | assumption) :
  PS X (.Assign [.Name x pos'] e pos) (tAsg te (jm i)):=by
 intro pins s σ H D I h
 refine wpAny_Assign_Name (thn (he pins s σ H _ I h) fun v s1 ⟨y,H1,I1,r1,q1⟩=>?_) hs
 exact Ql I1 hN hi hx r1 (fun s2 I2=>⟨_,H1,I2,q1⟩) hf
end
section
variable {X:Cx} {pos:Pos}
def tWhile (c:TT) (tb:TS):TS:=fun D σ H=>∃ W:Nat->St->Hp->Prop,(∃ m,W m σ H)/\∀ m σ H,W m σ H ->
 c σ H fun b H1=>if b=true then ∃ N:St->Hp->Prop,(∀ σ' H',N σ' H'->∃ m',m' < m/\W m' σ' H')/\tb { D with nx:=N,ct:=N,bk:=D.nx } σ H1 else D.nx σ H1
theorem JC {c:Expr} {body:List Stmt} {tc:TT} {tb:TS} (hp:PassesOwn (model X.prog X.w) X.A X.env X.xe) (hc:PT X c tc) (hb:PSs X body tb):PS X (.While c body [] pos) (tWhile tc tb):=by
 intro pins s σ H D I h
 obtain⟨W,⟨m0,w0⟩,turn⟩:=h
 refine wpAny_While (codeAny_whileLoop (fun n s'=>∃ σ' H',Inv X pins σ' H' s'/\W n σ' H') ?_ m0 ⟨σ,H,I,w0⟩)
 rintro n s1 ⟨σ1,H1,I1,w1⟩
 refine CS hp (thn (hc pins s1 σ1 H1 _ I1 (turn n σ1 H1 w1)) fun b s2 ⟨H2,I2,q2⟩=>?_)
 cases b with
 | true=>
  obtain⟨N,hN,q2⟩:=q2
  rw[if_pos rfl]
  refine CS hp (thn (hb pins s2 σ1 H2 _ I2 q2) fun f s3 q3=>?_)
  cases f with
  | next=>
   obtain⟨σ3,H3,I3,n3⟩:=q3
   obtain⟨m',hm,w3⟩:=hN σ3 H3 n3
   exact⟨m',hm,σ3,H3,I3,w3⟩
  | cont=>
   obtain⟨σ3,H3,I3,n3⟩:=q3
   obtain⟨m',hm,w3⟩:=hN σ3 H3 n3
   exact⟨m',hm,σ3,H3,I3,w3⟩
  | brk=>exact q3
  | ret v=>exact q3
 | false=>
  rw[if_neg AX]
  exact Cw ⟨σ1,H2,I2,q2⟩
end
structure It where
 go:Nat->Hp->Prop
 yld:Nat->Hp->V->Hp->Prop
 stop:Nat->Hp->Prop
def J7 (X:Cx) (pins:List (Addr×Obj)) (H:Hp) (b:Addr):Prop:=
 H b=none/\b ≠ X.env.locals/\b ∉ X.fs/\(b ∈ X.ex\/X.s₀.heap.objs.size<=b)/\(∀ x c,X.env.cells.lookup x=some c->c ≠ b)/\∀ p ∈ X.pn++pins,p.1 ≠ b
theorem Inv.fpOk {X:Cx} {pins:List (Addr×Obj)} {σ:St} {H H':Hp} {s:Shared} {b:Addr} (I:Inv X pins σ H s) (hb:s.heap.objs.size<=b) (hn:H' b=none):J7 X pins H' b:=by
 refine⟨hn,BW (AS I.lt hb),I.nofs hb,.inr (Aq I.sz hb),fun x c e z=>?_,fun p hp z=>?_⟩
 ·obtain⟨v,q⟩:=I.cell x c e
  exact absurd (AS q.lt (by rw[z];exact hb)) (Ax _)
 ·exact absurd (AS (AL (I.pin p hp).1) (by rw[z];exact hb)) (Ax _)
structure Turn (P:Program) (w:World) (K:Fs) (tg:Expr) (J:It) (fp:List Addr) (it:Addr) (tn:Nat->Heap->Prop):Prop where
 mem:it ∈ fp
 obj:∀ i h,tn i h->∀ b ∈ fp,∃ o,h.get? b=some o/\∀ v,o.data ≠ .cell v
 keep:∀ i h h',tn i h->(∀ b ∈ fp,∀ o,h.get? b=some o->h'.get? b=some o)->tn i h'
 item:∀ (X:Cx),X.prog=P->X.w=w->X.K=K->X.calm=true->∀ (i:Nat) (pins:List (Addr×Obj)) (s:Shared) (σ:St) (H:Hp) (E:Value->Shared->Prop),Inv X pins σ H s->(∀ b ∈ fp,J7 X pins H b)->tn i s.heap->J.go i H ->
  wpAny (model P w) X.A (pyNext (.ref it)) (fun r s1=>∃ u,r=some u /\
   wpAny (model P w) X.A (letOwnedTupleGo tg (.ref it) u) (fun _ s2=>∃ x H',Inv X pins σ H' s2/\RelV x u/\J.yld i H x H'/\tn (i+1) s2.heap/\∀ b ∈ fp,H' b=none) E s1) E s
 done:∀ (X:Cx),X.prog=P->X.w=w->X.K=K->X.calm=true->∀ (i:Nat) (pins:List (Addr×Obj)) (s:Shared) (σ:St) (H:Hp) (E:Value->Shared->Prop),Inv X pins σ H s->(∀ b ∈ fp,J7 X pins H b)->tn i s.heap->J.stop i H ->
  wpAny (model P w) X.A (pyNext (.ref it)) (fun r s1=>r=none/\Inv X pins σ H s1) E s
 self:∀ (A:Around) (i:Nat) (s:Shared) (Q:Value->Shared->Prop) (E:Value->Shared->Prop),tn i s.heap->Q (.ref it) s->wpAny (model P w) A (pyIter (.ref it)) Q E s
abbrev TI:=St->Hp->(It->Hp->Prop)->Prop
def PIE (X:Cx) (pins:List (Addr×Obj)) (σ:St) (tg:Expr) (R:It->Hp->Prop) (itv:Value) (s2:Shared):Prop:=
 ∃ (it:Addr) (fp:List Addr) (tn:Nat->Heap->Prop) (J:It) (H':Hp),itv=.ref it/\Inv X pins σ H' s2/\Turn X.prog X.w X.K tg J fp it tn/\tn 0 s2.heap/\(∀ b ∈ fp,J7 X pins H' b)/\R J H'
def PI (X:Cx) (tg iter:Expr) (wi:TI):Prop:=
 ∀ (pins:List (Addr×Obj)) (s:Shared) (σ:St) (H:Hp) (R:It->Hp->Prop),Inv X pins σ H s->wi σ H R ->
  wpAny (model X.prog X.w) X.A (eval iter X.env) (fun v s1=>wpAny (model X.prog X.w) X.A (pyIter v) (PIE X pins σ tg R) X.xe s1) X.xe s
theorem YB {M : Model} {A : Around} {E : Value -> Shared -> Prop} {s : Shared} {tg : Expr} {it : Addr} {u : Value} {o : Obj} {n : String} {vs : Array Value} {Q : Unit -> Shared -> Prop} (ho : s.heap.get? it = some o) (hc : o.cls = .type n) (hd : o.data = .fields vs)
    (hn : ["enumerate", "zip", "dict_itemiterator", "dict_reverseitemiterator", "odict_iterator", "itertools.zip_longest", "itertools.pairwise"].contains n = false) (hQ : Q () s) : wpAny M A (letOwnedTupleGo tg (.ref it) u) Q E s := by
  unfold letOwnedTupleGo
  cases tg <;> first
    | exact AF hQ
    | (cases u <;> first
        | exact AF hQ
        | (refine AA (wpAny_load ho ?_)
           rw [hc, hd]
           show wpAny M A (if (["enumerate", "zip", "dict_itemiterator", "dict_reverseitemiterator", "odict_iterator", "itertools.zip_longest", "itertools.pairwise"].contains n && vs[0]? == some (rawInt _)) = true then _ else _) Q E s
           rw [if_neg (by intro h; rw [hn, Bool.false_and] at h; cases h)]
           exact AF hQ))
def Itl (K:Fs) (a:Addr):It:=
 ⟨fun i H=>∃ xs x,SqL K H a xs/\xs[i]? = some x,fun i H x H'=>H'=H/\∀ xs,SqL K H a xs->xs[i]? = some x,fun i H=>∃ xs,SqL K H a xs/\xs.length<=i⟩
def Itt (K:Fs) (a:Addr):It:=
 ⟨fun i H=>∃ xs x,SqT K H a xs/\xs[i]? = some x,fun i H x H'=>H'=H/\∀ xs,SqT K H a xs->xs[i]? = some x,fun i H=>∃ xs,SqT K H a xs/\xs.length<=i⟩
def Itr (lo:Int) (n:Nat):It:=⟨fun i _=>i < n,fun i H x H'=>H'=H/\x=.int (lo+i),fun i _=>n<=i⟩
theorem YC {P:Program} {w:World} {K:Fs} {tg:Expr} (a it:Addr):Turn P w K tg (Itl K a) [it] it (fun i h=>h.IsListIter it a i) where
 mem:=by simp
 obj:=fun i h st b hb=>by
  have e:b=it:=by simpa using hb
  subst e
  obtain⟨o,e,c,d⟩:=st
  exact⟨o,e,fun v z=>by rw[d] at z;cases z⟩
 keep:=fun i h h' st k=>st.at fun o e=>k it (by simp) o e
 item:=by
  intro X hP hw hK hc i pins s σ H E I hf st hg
  subst hP hw hK
  obtain⟨xs,x,hq,hx⟩:=hg
  obtain⟨its,rv,p,hz⟩:=I.list hq
  obtain⟨u,hu,ru⟩:=rv.get hx
  obtain⟨f0,f1,f2,f3,f4,f5⟩:=hf it (by simp)
  refine Dz st p.isList (x:=u) (by simpa using hu) fun h' st' sb=>?_
  have I1:Inv X pins σ H { s with heap:=h' }:=I.turned (t':=s.toks) (fun b o hb e=>(sb.2 b hb).trans e) f0 f1 f3 f4 f5
  obtain⟨o,e,c,d⟩:=id st'
  exact⟨u,rfl,YB (s:={ s with heap:=h' }) e c d (by decide) ⟨x,H,I1,ru,⟨rfl,fun ys hy=>by rw[I.list_inj hy hq];exact hx⟩,st',fun b hb=>(hf b hb).1⟩⟩
 done:=by
  intro X hP hw hK hc i pins s σ H E I hf st hg
  subst hP hw hK
  obtain⟨xs,hq,hx⟩:=hg
  obtain⟨its,rv,p,hz⟩:=I.list hq
  obtain⟨f0,f1,f2,f3,f4,f5⟩:=hf it (by simp)
  have hl:=rv.length
  exact EF (I.ok.hd hc) st p.isList (by simp;omega) fun h' eb=>⟨rfl,I.turned (t':=s.toks) (fun b o hb e=>eb b o hb e) f0 f1 f3 f4 f5⟩
 self:=fun _ _ _ _ _ st h=>wpAny_pyIter_listiter st h
theorem yS {P:Program} {w:World} {K:Fs} {tg:Expr} (a it:Addr):Turn P w K tg (Itt K a) [it] it (fun i h=>h.IsTupleIter it a i) where
 mem:=by simp
 obj:=fun i h st b hb=>by
  have e:b=it:=by simpa using hb
  subst e
  obtain⟨o,e,c,d⟩:=st
  exact⟨o,e,fun v z=>by rw[d] at z;cases z⟩
 keep:=fun i h h' st k=>st.at fun o e=>k it (by simp) o e
 item:=by
  intro X hP hw hK hc i pins s σ H E I hf st hg
  subst hP hw hK
  obtain⟨xs,x,hq,hx⟩:=hg
  obtain⟨its,rv,p,hz⟩:=I.tuple hq
  obtain⟨u,hu,ru⟩:=rv.get hx
  obtain⟨f0,f1,f2,f3,f4,f5⟩:=hf it (by simp)
  refine wpAny_pyNext_tuple_item st (show s.heap.IsTuple a its.toArray from p) (x:=u) (by simpa using hu) fun h' st' sb=>?_
  have I1:Inv X pins σ H { s with heap:=h' }:=I.turned (t':=s.toks) (fun b o hb e=>(sb.2 b hb).trans e) f0 f1 f3 f4 f5
  obtain⟨o,e,c,d⟩:=id st'
  exact⟨u,rfl,YB (s:={ s with heap:=h' }) e c d (by decide) ⟨x,H,I1,ru,⟨rfl,fun ys hy=>by rw[I.tuple_inj hy hq];exact hx⟩,st',fun b hb=>(hf b hb).1⟩⟩
 done:=by
  intro X hP hw hK hc i pins s σ H E I hf st hg
  subst hP hw hK
  obtain⟨xs,hq,hx⟩:=hg
  obtain⟨its,rv,p,hz⟩:=I.tuple hq
  obtain⟨f0,f1,f2,f3,f4,f5⟩:=hf it (by simp)
  have hl:=rv.length
  exact wpAny_pyNext_tuple_end (I.ok.hd hc) st (show s.heap.IsTuple a its.toArray from p) (by simp;omega) fun h' eb=>⟨rfl,I.turned (t':=s.toks) (fun b o hb e=>eb b o hb e) f0 f1 f3 f4 f5⟩
 self:=fun _ _ _ _ _ st h=>wpAny_pyIter_tupleiter st h
theorem yT {P:Program} {w:World} {K:Fs} {tg:Expr} (it:Addr) (lo:Int) (n:Nat):Turn P w K tg (Itr lo n) [it] it (fun i h=>IsRangeIter h it (lo+(i:Nat) * 1) ((n:Int) - (i:Nat)) 1) where
 mem:=by simp
 obj:=fun i h st b hb=>by
  have e:b=it:=by simpa using hb
  subst e
  exact⟨_,st,fun v z=>by
   have z':Data.fields _=Data.cell v:=z
   cases z'⟩
 keep:=fun i h h' st k=>k it (by simp) _ st
 item:=by
  intro X hP hw hK hc i pins s σ H E I hf st hg
  subst hP hw hK
  obtain⟨f0,f1,f2,f3,f4,f5⟩:=hf it (by simp)
  have W:=Walks.range (prog:=X.prog) (w:=X.w) (I.ok.hd hc) it lo 1 n
  refine W.item i s _ _ hg st fun v h' tk hv st' kk=>?_
  obtain⟨t,rfl⟩:=hv
  have I1:Inv X pins σ H { s with heap:=h',toks:=tk }:=I.turned (fun b o hb e=>kk b o (by simpa using hb) e) f0 f1 f3 f4 f5
  refine⟨_,rfl,YB (s:={ s with heap:=h',toks:=tk }) (n := "range_iterator") st' rfl rfl (by decide) ⟨.int (lo+i),H,I1,⟨t,?_⟩,⟨rfl,rfl⟩,st',fun b hb=>(hf b hb).1⟩⟩
  rw[Int.mul_one]
 done:=by
  intro X hP hw hK hc i pins s σ H E I hf st hg
  subst hP hw hK
  obtain⟨f0,f1,f2,f3,f4,f5⟩:=hf it (by simp)
  exact wpAny_pyNext_range_end (I.ok.hd hc) st (by have:n<=i:=hg;omega) fun h' eb=>⟨rfl,I.turned (t':=s.toks) (fun b o hb e=>eb b o hb e) f0 f1 f3 f4 f5⟩
 self:=fun _ _ _ _ _ st h=>wpAny_pyIter_rangeiter st h
section
variable {X:Cx} {tg:Expr}
def iList (K:Fs) (tl:TE):TI:=fun σ H R=>tl σ H fun x H1=>∃ a,x=.ref a/\(∃ xs,SqL K H1 a xs)/\R (Itl K a) H1
def iTup (K:Fs) (tl:TE):TI:=fun σ H R=>tl σ H fun x H1=>∃ a,x=.ref a/\(∃ xs,SqT K H1 a xs)/\R (Itt K a) H1
theorem pi_list {l:Expr} {tl:TE} (hl:PE X l tl):PI X tg l (iList X.K tl):=by
 intro pins s σ H R I h
 refine thn (hl pins s σ H _ I h) fun v s1 ⟨x,H1,I1,r1,q1⟩=>?_
 obtain⟨a,e,⟨xs,hq⟩,q⟩:=q1
 subst e
 cases r1
 obtain⟨its,rv,p,hz⟩:=I1.list hq
 refine DA p.isList ?_
 refine⟨s1.heap.objs.size,[s1.heap.objs.size],_,_,H1,rfl,I1.kept (t':=s1.toks) fun b o e=>AC _ e,YC a _,⟨_,AK _ rfl,rfl,rfl⟩,fun b hb=>?_,q⟩
 have e:b=s1.heap.objs.size:=by simpa using hb
 subst e
 exact I1.fpOk (AG _) (I1.hok.fresh (AG _))
theorem pi_tup {l:Expr} {tl:TE} (hl:PE X l tl):PI X tg l (iTup X.K tl):=by
 intro pins s σ H R I h
 refine thn (hl pins s σ H _ I h) fun v s1 ⟨x,H1,I1,r1,q1⟩=>?_
 obtain⟨a,e,⟨xs,hq⟩,q⟩:=q1
 subst e
 cases r1
 obtain⟨its,rv,p,hz⟩:=I1.tuple hq
 refine Ef (show s1.heap.IsTuple a its.toArray from p) ?_
 refine⟨s1.heap.objs.size,[s1.heap.objs.size],_,_,H1,rfl,I1.kept (t':=s1.toks) fun b o e=>AC _ e,yS a _,⟨_,AK _ rfl,rfl,rfl⟩,fun b hb=>?_,q⟩
 have e:b=s1.heap.objs.size:=by simpa using hb
 subst e
 exact I1.fpOk (AG _) (I1.hok.fresh (AG _))
theorem range_it {pins:List (Addr×Obj)} {σ:St} {H:Hp} {s:Shared} {R:It->Hp->Prop} {E:Value->Shared->Prop} {lo hi:Int} {t u v:Tok} {tk:Nat} (I:Inv X pins σ H s) (h1:-(2 ^ 62)<=lo) (h2:lo < 2 ^ 62) (h3:-(2 ^ 62)<=hi) (h4:hi < 2 ^ 62)
  (q:R (Itr lo (hi - lo).toNat) H):wpAny (model X.prog X.w) X.A (pyIter (.ref s.heap.objs.size)) (PIE X pins σ tg R) E { s with heap:=s.heap.push { cls:=.type "range",data:=.fields #[.int lo t,.int hi u,.int 1 v] },toks:=tk }:=by
 refine wpAny_pyIter_range (IsRange.new ..) (small_one h1 h2 h3 h4) ?_
 have I1:Inv X pins σ H { s with heap:=s.heap.push { cls:=.type "range",data:=.fields #[.int lo t,.int hi u,.int 1 v] },toks:=tk }:=I.kept fun b o e=>AC _ e
 refine⟨(s.heap.push { cls:=.type "range",data:=.fields #[.int lo t,.int hi u,.int 1 v] }).objs.size,[(s.heap.push { cls:=.type "range",data:=.fields #[.int lo t,.int hi u,.int 1 v] }).objs.size],_,_,H,rfl,
  I1.kept (t':=tk) fun b o e=>AC _ e,yT _ lo (hi - lo).toNat,?_,fun b hb=>?_,q⟩
 ·have e1:lo+((0:Nat):Int) * 1=lo:=by simp
  have e2:(((hi - lo).toNat:Nat):Int) - ((0:Nat):Int)=Builtin.Range.rangeSize lo hi 1:=by rw[rangeSize_one];split <;> omega
  show IsRangeIter _ _ (lo+((0:Nat):Int) * 1) ((((hi - lo).toNat:Nat):Int) - ((0:Nat):Int)) 1
  rw[e1,e2]
  exact AK _ rfl
 ·have e:b=(s.heap.push { cls:=.type "range",data:=.fields #[.int lo t,.int hi u,.int 1 v] }).objs.size:=by simpa using hb
  subst e
  exact I1.fpOk (AG _) (I1.hok.fresh (AG _))
def iRng1 (ta:TA):TI:=fun σ H R=>ta σ H fun vs H1=>∃ j:Int,vs=[.int j] /\ -(2 ^ 62)<=j/\j < 2 ^ 62/\R (Itr 0 j.toNat) H1
theorem zV {a:Expr} {ta:TA} {p pos:Pos} (hg:Gl X "range") (hm:X.mg "range" = none) (ha:PA X [a] ta) (hs:starEach [a] X.env=[(false,eval a X.env)]:=by rfl):PI X tg (.Call (.Name "range" p) [a] [] pos) (iRng1 ta):=by
 intro pins s σ H R I h
 refine Call_ (ZC I hg hm boot_range (BG (thn (ha pos pins s σ H _ I h) fun us s1 ⟨vs,H1,I1,r1,q1⟩=>?_) hs rfl))
 obtain⟨j,e,q1,q2,q⟩:=q1
 subst e
 cases r1 with
 | cons r rr=>
  cases rr
  obtain⟨t,rfl⟩:=r
  exact call_range_1 (range_it I1 (by omega) (by omega) q1 q2 (by simpa using q))
def tFor (wi:TI) (g:TG) (tb:TS):TS:=fun D σ H=>wi σ H fun J H1=>∃ W:Nat->Nat->St->Hp->Prop,(∃ m,W 0 m σ H1)/\∀ i m σ H,W i m σ H ->
 (J.stop i H/\D.nx σ H)\/(J.go i H/\∃ N:St->Hp->Prop,(∀ σ' H',N σ' H'->∃ m',m' < m/\W (i+1) m' σ' H')/\∀ x H',J.yld i H x H'->g x σ H' fun σ2 H2=>tb { D with nx:=N,ct:=N,bk:=D.nx } σ2 H2)
def Jk (fp:List Addr) (h:Heap):List (Addr×Obj):=fp.filterMap fun b=>(h.get? b).map fun o=>(b,o)
theorem jz {fp:List Addr} {h:Heap} {b:Addr} {o:Obj} (hb:b ∈ fp) (e:h.get? b=some o):(b,o) ∈ Jk fp h:=EK.mpr ⟨b,hb,by rw[e];rfl⟩
theorem YD {fp:List Addr} {h:Heap} {p:Addr×Obj} (hp:p ∈ Jk fp h):p.1 ∈ fp/\h.get? p.1=some p.2:=by
 obtain⟨b,hb,e⟩:=EK.mp hp
 cases q:h.get? b with
 | none=>rw[q] at e;cases e
 | some o=>
  rw[q] at e
  have e':(b,o)=p:=AH e
  subst e'
  exact⟨hb,q⟩
theorem Inv.pinned {pins:List (Addr×Obj)} {σ:St} {H:Hp} {s:Shared} {fp:List Addr} (I:Inv X pins σ H s) (hf:∀ b ∈ fp,J7 X pins H b) (ho:∀ b ∈ fp,∃ o,s.heap.get? b=some o/\∀ v,o.data ≠ .cell v):Inv X (pins++Jk fp s.heap) σ H s:=
 I.pins_of fun p hp=>(AV.mp hp).elim (fun z=>I.pin p (Ac _ z)) fun z=>by
  obtain⟨hb,e⟩:=YD z
  obtain⟨f0,f1,f2,_⟩:=hf p.1 hb
  obtain⟨o,e',d⟩:=ho p.1 hb
  rw[e] at e';cases e'
  exact⟨e,f0,f1,f2,d⟩
theorem Inv.unpinned {pins pl:List (Addr×Obj)} {σ:St} {H:Hp} {s:Shared} (I:Inv X (pins++pl) σ H s):Inv X pins σ H s:=I.pins_of fun p hp=>I.pin p (Ac _ (Ah _ hp))
theorem js {iter:Expr} {body:List Stmt} {wi:TI} {g:TG} {tb:TS} {pos:Pos} (hp:PassesOwn (model X.prog X.w) X.A X.env X.xe) (hc:X.calm=true) (hi:PI X tg iter wi) (hg:PG X tg g) (hb:PSs X body tb)
  (hs:∀ x,foldedSetIterable iter X.env x=pure x:=by intro _;rfl):PS X (.For tg iter body [] pos) (tFor wi g tb):=by
 intro pins s σ H D I h
 refine wpAny_For (thn (hi pins s σ H _ I h) fun v s1 h1=>thn h1 fun itv s2 h2=>?_) hs
 obtain⟨it,fp,tn,J,H2,e,I2,T,st2,f2,W,⟨m0,w0⟩,turn⟩:=h2
 subst e
 -- what stays true of the iterator's objects through the loop
 have stat:∀ {H':Hp},(∀ b ∈ fp,H' b=none)->∀ b ∈ fp,J7 X pins H' b:=fun hn b hb=>⟨hn b hb,(f2 b hb).2⟩
 refine codeAny_forLoop_any (fun n s'=>∃ i σ' H',Inv X pins σ' H' s'/\tn i s'.heap/\(∀ b ∈ fp,H' b=none)/\W i n σ' H') ?_ m0 ⟨0,σ,H2,I2,st2,fun b hb=>(f2 b hb).1,w0⟩
 rintro n s3 ⟨i,σ3,H3,I3,st3,fr3,w3⟩
 rcases turn i n σ3 H3 w3 with ⟨stop,qn⟩ | ⟨go,N,hN,step⟩
 ·refine CS hp (thn (T.done X rfl rfl rfl hc i pins s3 σ3 H3 X.xe I3 (stat fr3) st3 stop) fun r s4 ⟨hr,I4⟩=>?_)
  subst hr
  exact Cw ⟨σ3,H3,I4,qn⟩
 ·refine CS hp (thn (T.item X rfl rfl rfl hc i pins s3 σ3 H3 X.xe I3 (stat fr3) st3 go) fun r s4 ⟨u,hr,h4⟩=>?_)
  subst hr
  refine CS hp (thn h4 fun _ s5 ⟨x,H5,I5,r5,y5,st5,fr5⟩=>?_)
  have I5':=I5.pinned (stat fr5) (T.obj _ _ st5)
  refine CS hp (thn (hg _ s5 σ3 H5 x u _ I5' r5 (step x H5 y5)) fun _ s6 ⟨σ6,H6,I6,q6⟩=>?_)
  refine CS hp (thn (hb _ s6 σ6 H6 _ I6 q6) fun f s7 q7=>?_)
  have again:∀ {σ7:St} {H7:Hp},Inv X (pins++Jk fp s5.heap) σ7 H7 s7->N σ7 H7->∃ m,m < n/\∃ i σ' H',Inv X pins σ' H' s7/\tn i s7.heap/\(∀ b ∈ fp,H' b=none)/\W i m σ' H':=fun {σ7 H7} I7 n7=>by
   obtain⟨m',hm,w7⟩:=hN σ7 H7 n7
   refine⟨m',hm,i+1,σ7,H7,I7.unpinned,T.keep _ _ _ st5 fun b hb o e=>(I7.pin (b,o) (Ac _ (Ac _ (jz hb e)))).1,fun b hb=>?_,w7⟩
   obtain⟨o,e,d⟩:=T.obj _ _ st5 b hb
   exact (I7.pin (b,o) (Ac _ (Ac _ (jz hb e)))).2.1
  cases f with
  | next=>obtain⟨σ7,H7,I7,n7⟩:=q7;exact again I7 n7
  | cont=>obtain⟨σ7,H7,I7,n7⟩:=q7;exact again I7 n7
  | brk=>obtain⟨σ7,H7,I7,q7⟩:=q7;exact⟨σ7,H7,I7.unpinned,q7⟩
  | ret v=>obtain⟨x7,σ7,H7,I7,r7,q7⟩:=q7;exact⟨x7,σ7,H7,I7.unpinned,r7,q7⟩
end
theorem qP {K:Fs} {a:Addr} {xs:List V} {g:TG} {tb:TS} {D:Wr} {σ:St} {H:Hp} (Pv:Nat->St->Hp->Prop) (h0:Pv 0 σ H) (hl:∀ i σ H,i<=xs.length->Pv i σ H->SqL K H a xs)
  (hs:∀ i x σ H,xs[i]? = some x->Pv i σ H->g x σ H fun σ2 H2=>tb { D with nx:=Pv (i+1),ct:=Pv (i+1),bk:=D.nx } σ2 H2) (hd:∀ σ H,Pv xs.length σ H->D.nx σ H) :
  ∃ W:Nat->Nat->St->Hp->Prop,(∃ m,W 0 m σ H)/\∀ i m σ H,W i m σ H ->
   ((Itl K a).stop i H/\D.nx σ H)\/((Itl K a).go i H/\∃ N:St->Hp->Prop,(∀ σ' H',N σ' H'->∃ m',m' < m/\W (i+1) m' σ' H')/\∀ x H',(Itl K a).yld i H x H'->g x σ H' fun σ2 H2=>tb { D with nx:=N,ct:=N,bk:=D.nx } σ2 H2):=by
 refine⟨fun i m σ H=>m=xs.length - i/\i<=xs.length/\Pv i σ H,⟨xs.length,by simp,A6 _,h0⟩,?_⟩
 rintro i m σ H ⟨rfl,hi,p⟩
 have q:=hl i σ H hi p
 by_cases hlt:i < xs.length
 ·refine .inr ⟨⟨xs,xs[i],q,by simp[hlt]⟩,Pv (i+1),fun σ' H' p'=>⟨xs.length - (i+1),by omega,rfl,hlt,p'⟩,fun x H' y=>?_⟩
  obtain⟨e,y⟩:=y
  subst e
  exact hs i x σ _ (y xs q) p
 ·have e:i=xs.length:=by omega
  subst e
  exact .inl ⟨⟨xs,q,AG _⟩,hd σ H p⟩
theorem QB {K:Fs} {a:Addr} {xs:List V} {g:TG} {tb:TS} {D:Wr} {σ:St} {H:Hp} (Pv:Nat->St->Hp->Prop) (h0:Pv 0 σ H) (hl:∀ i σ H,i<=xs.length->Pv i σ H->SqT K H a xs)
  (hs:∀ i x σ H,xs[i]? = some x->Pv i σ H->g x σ H fun σ2 H2=>tb { D with nx:=Pv (i+1),ct:=Pv (i+1),bk:=D.nx } σ2 H2) (hd:∀ σ H,Pv xs.length σ H->D.nx σ H) :
  ∃ W:Nat->Nat->St->Hp->Prop,(∃ m,W 0 m σ H)/\∀ i m σ H,W i m σ H ->
   ((Itt K a).stop i H/\D.nx σ H)\/((Itt K a).go i H/\∃ N:St->Hp->Prop,(∀ σ' H',N σ' H'->∃ m',m' < m/\W (i+1) m' σ' H')/\∀ x H',(Itt K a).yld i H x H'->g x σ H' fun σ2 H2=>tb { D with nx:=N,ct:=N,bk:=D.nx } σ2 H2):=by
 refine⟨fun i m σ H=>m=xs.length - i/\i<=xs.length/\Pv i σ H,⟨xs.length,by simp,A6 _,h0⟩,?_⟩
 rintro i m σ H ⟨rfl,hi,p⟩
 have q:=hl i σ H hi p
 by_cases hlt:i < xs.length
 ·refine .inr ⟨⟨xs,xs[i],q,by simp[hlt]⟩,Pv (i+1),fun σ' H' p'=>⟨xs.length - (i+1),by omega,rfl,hlt,p'⟩,fun x H' y=>?_⟩
  obtain⟨e,y⟩:=y
  subst e
  exact hs i x σ _ (y xs q) p
 ·have e:i=xs.length:=by omega
  subst e
  exact .inl ⟨⟨xs,q,AG _⟩,hd σ H p⟩
theorem wg {lo:Int} {n:Nat} {g:TG} {tb:TS} {D:Wr} {σ:St} {H:Hp} (Pv:Nat->St->Hp->Prop) (h0:Pv 0 σ H)
  (hs:∀ i σ H,i < n->Pv i σ H->g (.int (lo+i)) σ H fun σ2 H2=>tb { D with nx:=Pv (i+1),ct:=Pv (i+1),bk:=D.nx } σ2 H2) (hd:∀ σ H,Pv n σ H->D.nx σ H) :
  ∃ W:Nat->Nat->St->Hp->Prop,(∃ m,W 0 m σ H)/\∀ i m σ H,W i m σ H ->
   ((Itr lo n).stop i H/\D.nx σ H)\/((Itr lo n).go i H/\∃ N:St->Hp->Prop,(∀ σ' H',N σ' H'->∃ m',m' < m/\W (i+1) m' σ' H')/\∀ x H',(Itr lo n).yld i H x H'->g x σ H' fun σ2 H2=>tb { D with nx:=N,ct:=N,bk:=D.nx } σ2 H2):=by
 refine⟨fun i m σ H=>m=n - i/\i<=n/\Pv i σ H,⟨n,by simp,A6 _,h0⟩,?_⟩
 rintro i m σ H ⟨rfl,hi,p⟩
 by_cases hlt:i < n
 ·refine .inr ⟨hlt,Pv (i+1),fun σ' H' p'=>⟨n - (i+1),by omega,rfl,hlt,p'⟩,fun x H' y=>?_⟩
  obtain⟨e,y⟩:=y
  subst e y
  exact hs i σ _ hlt p
 ·have e:i=n:=by omega
  subst e
  exact .inl ⟨AG _,hd σ H p⟩
abbrev R2:=V->V->Hp->VK->Prop
def OpR (X:Cx) (f:Value->Value->Sem Value) (r:R2):Prop:=
 ∀ (pins:List (Addr×Obj)) (s:Shared) (σ:St) (H:Hp) (x y:V) (v u:Value) (Q:VK),Inv X pins σ H s->RelV x v->RelV y u->r x y H Q ->
  wpAny (model X.prog X.w) X.A (f v u) (EP X pins σ Q) X.xe s
def UnR (X:Cx) (f:Value->Sem Value) (r:V->Hp->VK->Prop):Prop:=
 ∀ (pins:List (Addr×Obj)) (s:Shared) (σ:St) (H:Hp) (x:V) (v:Value) (Q:VK),Inv X pins σ H s->RelV x v->r x H Q ->
  wpAny (model X.prog X.w) X.A (f v) (EP X pins σ Q) X.xe s
def qQ (X:Cx) (f:Value) (r:List V->Hp->VK->Prop):Prop:=
 ∀ (pins:List (Addr×Obj)) (s:Shared) (σ:St) (H:Hp) (xs:List V) (us:List Value) (Q:VK),Inv X pins σ H s->qi xs us->r xs H Q ->
  wpAny (model X.prog X.w) X.A (call f us) (EP X pins σ Q) X.xe s
def tOp (r:R2) (ta tb:TE):TE:=fun σ H Q=>ta σ H fun x H1=>tb σ H1 fun y H2=>r x y H2 Q
def tUn (r:V->Hp->VK->Prop) (ta:TE):TE:=fun σ H Q=>ta σ H fun x H1=>r x H1 Q
def rI (C:Int->Int->Prop) (g:Int->Int->V):R2:=fun x y H Q=>∃ i j,x=.int i/\y=.int j/\C i j/\Q (g i j) H
def rI0 (g:Int->Int->V):R2:=fun x y H Q=>∃ i j,x=.int i/\y=.int j/\Q (g i j) H
def rU (g:Int->V):V->Hp->VK->Prop:=fun x H Q=>∃ i,x=.int i/\Q (g i) H
section
variable {X:Cx} {a b c:Expr} {ta tb tc:TE} {pos:Pos}
theorem binT (ha:PE X a ta) (hb:PE X b tb) {pins:List (Addr×Obj)} {s:Shared} {σ:St} {H:Hp} {R:V->V->Hp->Prop} (I:Inv X pins σ H s)
  (h:ta σ H fun x H1=>tb σ H1 fun y H2=>R x y H2) {Q:Value->Shared->Prop} {f:Value->Value->Sem Value}
  (hf:∀ v u s2 x y H2,Inv X pins σ H2 s2->RelV x v->RelV y u->R x y H2->wpAny (model X.prog X.w) X.A (f v u) Q X.xe s2) :
  wpAny (model X.prog X.w) X.A (eval a X.env) (fun v s₁=>wpAny (model X.prog X.w) X.A (eval b X.env) (fun u s₂=>wpAny (model X.prog X.w) X.A (f v u) Q X.xe s₂) X.xe s₁) X.xe s:=by
 refine thn (ha pins s σ H _ I h) fun v s1 ⟨x,H1,I1,r1,q1⟩=>?_
 refine thn (hb pins s1 σ H1 _ I1 q1) fun u s2 ⟨y,H2,I2,r2,q2⟩=>?_
 exact hf v u s2 x y H2 I2 r1 r2 q2
theorem zK {op:Operator} {r:R2} (ho:OpR X (binaryOp op) r) (ha:PE X a ta) (hb:PE X b tb):PE X (.BinOp a op b pos) (tOp r ta tb):=by
 intro pins s σ H Q I h
 exact wpAny_BinOp (binT ha hb I h fun v u s2 x y H2 I2 rx ry q=>ho pins s2 σ H2 x y v u Q I2 rx ry q)
theorem pe_un {op:UnaryOp} {r:V->Hp->VK->Prop} (ho:UnR X (unaryOp op) r) (ha:PE X a ta):PE X (.UnaryOp op a pos) (tUn r ta):=by
 intro pins s σ H Q I h
 exact UnaryOp_ (thn (ha pins s σ H _ I h) fun v s1 ⟨x,H1,I1,r1,q1⟩=>ho pins s1 σ H1 x v Q I1 r1 q1)
theorem opI {f:Value->Value->Sem Value} {C:Int->Int->Prop} {g:Int->Int->Int}
  (rule:∀ (i j:Int) (t u:Tok) (s:Shared) (Q:Value->Shared->Prop) (E:Value->Shared->Prop),C i j->Q (.int (g i j) s.toks) { s with toks:=s.toks+1 }->wpAny (model X.prog X.w) X.A (f (.int i t) (.int j u)) Q E s) :
  OpR X f (rI C fun i j=>.int (g i j)):=by
 intro pins s σ H x y v u Q I rx ry h
 obtain⟨i,j,rfl,rfl,hc,q⟩:=h
 obtain⟨t,rfl⟩:=rx
 obtain⟨t',rfl⟩:=ry
 exact rule i j t t' s _ _ hc ⟨.int (g i j),H,I.tok _,⟨_,rfl⟩,q⟩
theorem opI0 {f:Value->Value->Sem Value} {g:Int->Int->Int}
  (rule:∀ (i j:Int) (t u:Tok) (s:Shared) (Q:Value->Shared->Prop) (E:Value->Shared->Prop),Q (.int (g i j) s.toks) { s with toks:=s.toks+1 }->wpAny (model X.prog X.w) X.A (f (.int i t) (.int j u)) Q E s) :
  OpR X f (rI0 fun i j=>.int (g i j)):=by
 intro pins s σ H x y v u Q I rx ry h
 obtain⟨i,j,rfl,rfl,q⟩:=h
 obtain⟨t,rfl⟩:=rx
 obtain⟨t',rfl⟩:=ry
 exact rule i j t t' s _ _ ⟨.int (g i j),H,I.tok _,⟨_,rfl⟩,q⟩
theorem opB0 {f:Value->Value->Sem Value} {g:Int->Int->Bool}
  (rule:∀ (i j:Int) (t u:Tok) (s:Shared) (Q:Value->Shared->Prop) (E:Value->Shared->Prop),Q (.bool (g i j)) s->wpAny (model X.prog X.w) X.A (f (.int i t) (.int j u)) Q E s) :
  OpR X f (rI0 fun i j=>.bl (g i j)):=by
 intro pins s σ H x y v u Q I rx ry h
 obtain⟨i,j,rfl,rfl,q⟩:=h
 obtain⟨t,rfl⟩:=rx
 obtain⟨t',rfl⟩:=ry
 exact rule i j t t' s _ _ ⟨.bl (g i j),H,I,rfl,q⟩
def CDiv (i j:Int):Prop:=0 < j/\j < 1073741824
def CPow (i j:Int):Prop:=0<=j/\j<=1000000/\i.natAbs < 2 ^ 64
def CMul (i j:Int):Prop:=(-(2 ^ 64) < i/\i < 2 ^ 64)\/(-(2 ^ 64) < j/\j < 2 ^ 64)
theorem CMul.ok {i j:Int} (h:CMul i j):IntMulOk i j:=by
 rcases h with ⟨h1,h2⟩ | ⟨h1,h2⟩
 ·exact .of_left (intBits_le_64 h1 h2)
 ·exact .of_right (intBits_le_64 h1 h2)
theorem qw:OpR X (binaryOp .Add) (rI0 fun i j=>.int (i+j)):=opI0 fun _ _ _ _ _ _ _ q=>add_int q
theorem yh:OpR X (binaryOp .Sub) (rI0 fun i j=>.int (i - j)):=opI0 fun _ _ _ _ _ _ _ q=>sub_int q
theorem ZQ:OpR X (binaryOp .Mult) (rI CMul fun i j=>.int (i * j)):=opI fun _ _ _ _ _ _ _ hc q=>mul_int q hc.ok
theorem YE:OpR X (binaryOp .FloorDiv) (rI CDiv fun i j=>.int (i / j)):=opI fun i j _ _ _ _ _ hc q=>by
 have h1:(0:Int) < j:=hc.1
 have h2:j < 1073741824:=hc.2
 exact floordiv_int (by omega) (by rw[Eo i (by omega)];exact q) (.inl (PyProof.noPylong_small (by omega)))
theorem ZR:OpR X (binaryOp .Mod) (rI (fun _ j=>0 < j) fun i j=>.int (i % j)):=opI fun i j _ _ _ _ _ hc q=>by
 have h1:(0:Int) < j:=hc
 exact mod_int' (by omega) (by rw[En i (by omega)];exact q)
theorem op_pow:OpR X (binaryOp .Pow) (rI CPow fun i j=>.int (i ^ j.toNat)):=opI fun _ _ _ _ _ _ _ hc q=>pow_int_small hc.1 hc.2.1 hc.2.2 q
theorem unI {f:Value->Sem Value} {g:Int->Int}
  (rule:∀ (i:Int) (t:Tok) (s:Shared) (Q:Value->Shared->Prop) (E:Value->Shared->Prop),Q (.int (g i) s.toks) { s with toks:=s.toks+1 }->wpAny (model X.prog X.w) X.A (f (.int i t)) Q E s) :
  UnR X f (rU fun i=>.int (g i)):=by
 intro pins s σ H x v Q I rx h
 obtain⟨i,rfl,q⟩:=h
 obtain⟨t,rfl⟩:=rx
 exact rule i t s _ _ ⟨.int (g i),H,I.tok _,⟨_,rfl⟩,q⟩
theorem un_neg:UnR X (unaryOp .USub) (rU fun i=>.int (-i)):=unI fun _ _ _ _ _ q=>neg_int q
end
def scal:V->V->Bool
 | .non,.non=>true | .non,.int _=>true | .int _,.non=>true | .non,.bl _=>true | .bl _,.non=>true | .non,.str _=>true | .str _,.non=>true
 | .int _,.int _=>true | .bl _,.bl _=>true | .str _,.str _=>true | .byt _,.byt _=>true
 | .int _,.str _=>true | .str _,.int _=>true | .bl _,.str _=>true | .str _,.bl _=>true
 | _,_=>false
def rEq:R2:=fun x y H Q=>scal x y=true/\Q (.bl (decide (x=y))) H
def rNe:R2:=fun x y H Q=>scal x y=true/\Q (.bl (!decide (x=y))) H
theorem YF {i j:Int}:decide (V.int i=V.int j)=(i == j):=by
 rw[CL]
 simp
theorem dec_bl {i j:Bool}:decide (V.bl i=V.bl j)=(i == j):=by
 rw[CL]
 simp
theorem YG {i j:Str}:decide (V.str i=V.str j)=(i == j):=by
 rw[CL]
 simp
theorem YH {i j:Array UInt8}:decide (V.byt i=V.byt j)=(i.toList == j.toList):=by
 rw[CL]
 cases i
 cases j
 simp
section
variable {X:Cx} {a b c:Expr} {ta tb tc:TE} {pos:Pos}
theorem qa {pins:List (Addr×Obj)} {σ:St} {H:Hp} {s:Shared} {Q:VK} {k k':Bool} (I:Inv X pins σ H s) (q:Q (.bl k) H) (e:k=k'):EP X pins σ Q (.bool k') s:=by
 subst e
 exact⟨.bl k,H,I,rfl,q⟩
theorem Zh:OpR X (compareOp .Eq) rEq:=by
 intro pins s σ H x y v u Q I rx ry h
 obtain⟨hs,q⟩:=h
 cases x with
 | non=>
  cases rx
  cases y with
  | non=>cases ry;exact PySem.EqNone.eq_none_none (qa I q (by simp))
  | bl j=>cases ry;exact PySem.EqNone.eq_none_bool (qa I q (by simp))
  | int j=>obtain⟨t',rfl⟩:=ry;exact PySem.EqNone.eq_none_int (qa I q (by simp))
  | str j=>obtain⟨t',rfl⟩:=ry;exact PySem.EqNone.eq_none_str (qa I q (by simp))
  | _=>exact absurd (show false=true from hs) AX
 | bl i=>
  cases rx
  cases y with
  | non=>cases ry;exact PySem.EqNone.eq_bool_none (qa I q (by simp))
  | bl j=>cases ry;exact eq_bool (qa I q dec_bl)
  | str j=>obtain⟨t',rfl⟩:=ry;exact PySem.EqMixed.eq_bool_str (qa I q (by simp))
  | _=>exact absurd (show false=true from hs) AX
 | int i=>
  obtain⟨t,rfl⟩:=rx
  cases y with
  | non=>cases ry;exact PySem.EqNone.eq_int_none (qa I q (by simp))
  | int j=>obtain⟨t',rfl⟩:=ry;exact eq_int (qa I q YF)
  | str j=>obtain⟨t',rfl⟩:=ry;exact PySem.EqMixed.eq_int_str (qa I q (by simp))
  | _=>exact absurd (show false=true from hs) AX
 | str i=>
  obtain⟨t,rfl⟩:=rx
  cases y with
  | non=>cases ry;exact PySem.EqNone.eq_str_none (qa I q (by simp))
  | bl j=>cases ry;exact PySem.EqMixed.eq_str_bool (qa I q (by simp))
  | int j=>obtain⟨t',rfl⟩:=ry;exact PySem.EqMixed.eq_str_int (qa I q (by simp))
  | str j=>obtain⟨t',rfl⟩:=ry;exact eq_str (qa I q YG)
  | _=>exact absurd (show false=true from hs) AX
 | byt i=>
  obtain⟨t,rfl⟩:=rx
  cases y with
  | byt j=>obtain⟨t',rfl⟩:=ry;exact PySem.W.eq_bytes (qa I q YH)
  | _=>exact absurd (show false=true from hs) AX
 | _=>cases y <;> exact absurd (show false=true from hs) AX
theorem op_ne:OpR X (compareOp .NotEq) rNe:=by
 intro pins s σ H x y v u Q I rx ry h
 obtain⟨hs,q⟩:=h
 cases x with
 | non=>
  cases rx
  cases y with
  | non=>cases ry;exact PySem.EqNone.ne_none_none (qa I q (by simp))
  | bl j=>cases ry;exact PySem.EqNone.ne_none_bool (qa I q (by simp))
  | int j=>obtain⟨t',rfl⟩:=ry;exact PySem.EqNone.ne_none_int (qa I q (by simp))
  | str j=>obtain⟨t',rfl⟩:=ry;exact PySem.EqNone.ne_none_str (qa I q (by simp))
  | _=>exact absurd (show false=true from hs) AX
 | bl i=>
  cases rx
  cases y with
  | non=>cases ry;exact PySem.EqNone.ne_bool_none (qa I q (by simp))
  | bl j=>cases ry;exact ne_bool (qa I q (BL not dec_bl))
  | str j=>obtain⟨t',rfl⟩:=ry;exact PySem.EqMixed.ne_bool_str (qa I q (by simp))
  | _=>exact absurd (show false=true from hs) AX
 | int i=>
  obtain⟨t,rfl⟩:=rx
  cases y with
  | non=>cases ry;exact PySem.EqNone.ne_int_none (qa I q (by simp))
  | int j=>obtain⟨t',rfl⟩:=ry;exact ne_int (qa I q (BL not YF))
  | str j=>obtain⟨t',rfl⟩:=ry;exact PySem.EqMixed.ne_int_str (qa I q (by simp))
  | _=>exact absurd (show false=true from hs) AX
 | str i=>
  obtain⟨t,rfl⟩:=rx
  cases y with
  | non=>cases ry;exact PySem.EqNone.ne_str_none (qa I q (by simp))
  | bl j=>cases ry;exact PySem.EqMixed.ne_str_bool (qa I q (by simp))
  | int j=>obtain⟨t',rfl⟩:=ry;exact PySem.EqMixed.ne_str_int (qa I q (by simp))
  | str j=>obtain⟨t',rfl⟩:=ry;exact ne_str (qa I q (BL not YG))
  | _=>exact absurd (show false=true from hs) AX
 | byt i=>
  obtain⟨t,rfl⟩:=rx
  cases y with
  | byt j=>obtain⟨t',rfl⟩:=ry;exact PySem.W.ne_bytes (qa I q (BL not YH))
  | _=>exact absurd (show false=true from hs) AX
 | _=>cases y <;> exact absurd (show false=true from hs) AX
theorem yU:OpR X (compareOp .Lt) (rI0 fun i j=>.bl (decide (i < j))):=opB0 fun _ _ _ _ _ _ _ q=>lt_int q
theorem op_le:OpR X (compareOp .LtE) (rI0 fun i j=>.bl (decide (i<=j))):=opB0 fun _ _ _ _ _ _ _ q=>le_int q
theorem op_gt:OpR X (compareOp .Gt) (rI0 fun i j=>.bl (decide (j < i))):=opB0 fun _ _ _ _ _ _ _ q=>gt_int q
theorem op_ge:OpR X (compareOp .GtE) (rI0 fun i j=>.bl (decide (j<=i))):=opB0 fun _ _ _ _ _ _ _ q=>ge_int q
theorem op_notN:OpR X (compareOp .IsNot) (fun x y H Q=>y=.non/\Q (.bl (!decide (x=.non))) H):=by
 intro pins s σ H x y v u Q I rx ry h
 obtain⟨rfl,q⟩:=h
 cases ry
 refine isnot_none_gen (qa I q ?_)
 cases x <;> first
  | (cases rx;rfl)
  | (obtain⟨t,rfl⟩:=rx;rfl)
theorem zM (b:Expr) {op:CmpOp} (h:op ≠ .In:=by decide) (h2:op ≠ .NotIn:=by decide):behindInMarks op b=false:=by
 have e1:(op == CmpOp.In)=false:=by cases op <;> first | rfl | exact absurd rfl h
 have e2:(op == CmpOp.NotIn)=false:=by cases op <;> first | rfl | exact absurd rfl h2
 cases b <;> simp[behindInMarks,e1,e2]
theorem Zl {op:CmpOp} {r:R2} (ho:OpR X (compareOp op) r) (ha:PE X a ta) (hb:PE X b tb) (hm:behindInMarks op b=false):PE X (.Compare a [op] [b] pos) (tOp r ta tb):=by
 intro pins s σ H Q I h
 exact wpAny_Compare1 (binT ha hb I h fun v u s2 x y H2 I2 rx ry q=>ho pins s2 σ H2 x y v u Q I2 rx ry q) hm
def tTest (t:TE):TT:=fun σ H Q=>t σ H fun x H'=>∃ k,x=.bl k/\Q k H'
theorem zA {op:CmpOp} {r:R2} (ho:OpR X (compareOp op) r) (ha:PE X a ta) (hb:PE X b tb) (hm:behindInMarks op b=false):PT X (.Compare a [op] [b] pos) (tTest (tOp r ta tb)):=by
 intro pins s σ H Q I h
 refine wpAny_isTrue_Compare1 (thn (ha pins s σ H _ I h) fun v s1 ⟨x,H1,I1,r1,q1⟩=>thn (hb pins s1 σ H1 _ I1 q1) fun u s2 ⟨y,H2,I2,r2,q2⟩=>
  thn (ho pins s2 σ H2 x y v u _ I2 r1 r2 q2) fun c s3 ⟨z,H3,I3,r3,k,e,q3⟩=>?_) hm
 subst e
 cases r3
 exact CZ ⟨H3,I3,q3⟩
def tChain (r r':R2) (ta tb tc:TE):TE:=fun σ H Q=>ta σ H fun x H1=>tb σ H1 fun y H2=>r x y H2 fun z H3=>∃ k,z=.bl k /\
 (if k=true then tc σ H3 fun w' H4=>r' y w' H4 Q else Q (.bl false) H3)
theorem pe_chain {op op':CmpOp} {r r':R2} (ho:OpR X (compareOp op) r) (ho':OpR X (compareOp op') r') (ha:PE X a ta) (hb:PE X b tb) (hc:PE X c tc)
  (hm:lastMarks [op,op'] [b,c]=false:=by with_unfolding_all rfl):PE X (.Compare a [op,op'] [b,c] pos) (tChain r r' ta tb tc):=by
 intro pins s σ H Q I h
 refine Compare_chain (thn (ha pins s σ H _ I h) fun v s1 ⟨x,H1,I1,r1,q1⟩=>chain_link (thn (hb pins s1 σ H1 _ I1 q1) fun u s2 ⟨y,H2,I2,r2,q2⟩=>
  thn (ho pins s2 σ H2 x y v u _ I2 r1 r2 q2) fun d s3 ⟨z,H3,I3,r3,k,e,q3⟩=>?_)) hm
 subst e
 cases r3
 refine CZ ?_
 cases k with
 | false=>exact ite_ff ⟨.bl false,H3,I3,rfl,q3⟩
 | true=>exact ite_tt (chain_last (thn (hc pins s3 σ H3 _ I3 q3) fun w' s4 ⟨z',H4,I4,r4,q4⟩=>ho' pins s4 σ H4 y z' u w' Q I4 r2 r4 q4))
theorem wj:(sizeLine:Nat) < 2 ^ 63:=by rw[BS];decide
theorem Jl:OpR X (binaryOp .Add) (fun x y H Q=>∃ i j,x=.str i/\y=.str j/\i.length+j.length<=sizeLine/\Q (.str (i++j)) H):=by
 intro pins s σ H x y v u Q I rx ry h
 obtain⟨i,j,rfl,rfl,hz,q⟩:=h
 obtain⟨t,rfl⟩:=rx
 obtain⟨t',rfl⟩:=ry
 exact add_str (fun t' tk=>⟨.str (i++j),H,I.tok _,⟨_,rfl⟩,q⟩) hz
theorem vals1 {x:V} {us:List Value} (r:qi [x] us):∃ u,us=[u]/\RelV x u:=by
 cases r with
 | cons r1 r2=>cases r2;exact⟨_,rfl,r1⟩
theorem Ws {x y:V} {us:List Value} (r:qi [x,y] us):∃ u w',us=[u,w']/\RelV x u/\RelV y w':=by
 cases r with
 | cons r1 r2=>
  cases r2 with
  | cons r3 r4=>cases r4;exact⟨_,_,rfl,r1,r3⟩
theorem call_abs:qQ X (.builtin "abs") (fun xs H Q=>∃ i,xs=[.int i]/\Q (.int (if i < 0 then -i else i)) H):=by
 intro pins s σ H xs us Q I r h
 obtain⟨i,rfl,q⟩:=h
 obtain⟨u,rfl,t,rfl⟩:=vals1 r
 exact call_abs_int fun u tk=>⟨.int (if i < 0 then -i else i),H,I.tok _,⟨_,rfl⟩,q⟩
theorem YI (hc:X.calm=true):qQ X (.builtin "max") (fun xs H Q=>∃ i j,xs=[.int i,.int j]/\Q (.int (if j > i then j else i)) H):=by
 intro pins s σ H xs us Q I r h
 obtain⟨i,j,rfl,q⟩:=h
 obtain⟨u,w',rfl,⟨t,rfl⟩,⟨t',rfl⟩⟩:=Ws r
 refine max_two_ints (I.ok.hd hc) fun h' tk k=>⟨_,H,I.kept k,?_,q⟩
 by_cases hj:j > i
 ·rw[if_pos hj,if_pos hj];exact⟨_,rfl⟩
 ·rw[if_neg hj,if_neg hj];exact⟨_,rfl⟩
theorem YJ (hc:X.calm=true):qQ X (.builtin "min") (fun xs H Q=>∃ i j,xs=[.int i,.int j]/\Q (.int (if j < i then j else i)) H):=by
 intro pins s σ H xs us Q I r h
 obtain⟨i,j,rfl,q⟩:=h
 obtain⟨u,w',rfl,⟨t,rfl⟩,⟨t',rfl⟩⟩:=Ws r
 refine min_two_ints (I.ok.hd hc) fun h' tk k=>⟨_,H,I.kept k,?_,q⟩
 by_cases hj:j < i
 ·rw[if_pos hj,if_pos hj];exact⟨_,rfl⟩
 ·rw[if_neg hj,if_neg hj];exact⟨_,rfl⟩
theorem wk:qQ X (.type "int") (fun xs H Q=>(∃ i,xs=[.int i]/\Q (.int i) H)\/∃ k,xs=[.bl k]/\Q (.int (if k then 1 else 0)) H):=by
 intro pins s σ H xs us Q I r h
 rcases h with ⟨i,rfl,q⟩ | ⟨k,rfl,q⟩
 ·obtain⟨u,rfl,t,rfl⟩:=vals1 r
  exact call_int_int ⟨.int i,H,I,⟨_,rfl⟩,q⟩
 ·obtain⟨u,rfl,r1⟩:=vals1 r
  cases r1
  exact call_int_bool ⟨.int (if k then 1 else 0),H,I.tok _,⟨_,rfl⟩,q⟩
def LenV (K:Fs) (x:V) (H:Hp) (n:Nat):Prop:=
 match x with
 | .str y=>y.length<=sizeLine/\n=y.length
 | .byt y=>y.size<=sizeLine/\n=y.size
 | .ref p=>(∃ xs,SqL K H p xs/\n=xs.length)\/∃ xs,SqT K H p xs/\n=xs.length
 | _=>False
theorem call_len:qQ X (.builtin "len") (fun xs H Q=>∃ x n,xs=[x]/\LenV X.K x H n/\Q (.int n) H):=by
 intro pins s σ H xs us Q I r h
 obtain⟨x,n,rfl,e,q⟩:=h
 obtain⟨u,rfl,rx⟩:=vals1 r
 have hl:=wj
 have hs:sizeLine=16777216:=BS
 cases x with
 | str y=>
  obtain⟨t,rfl⟩:=rx
  obtain⟨hy,e'⟩:y.length<=sizeLine/\n=y.length:=e
  subst e'
  exact len_str (by omega) ⟨.int _,H,I.tok _,⟨_,rfl⟩,q⟩
 | byt y=>
  obtain⟨t,rfl⟩:=rx
  obtain⟨hy,e'⟩:y.size<=sizeLine/\n=y.size:=e
  subst e'
  exact PySem.W.len_bytes (by omega) ⟨.int _,H,I.tok _,⟨_,rfl⟩,q⟩
 | ref p=>
  cases rx
  have e':(∃ xs,SqL X.K H p xs/\n=xs.length)\/∃ xs,SqT X.K H p xs/\n=xs.length:=e
  rcases e' with ⟨xs,hx,e'⟩ | ⟨xs,hx,e'⟩
  ·subst e'
   obtain⟨its,r',pl,hz⟩:=I.list hx
   have hlen:=r'.length
   exact Calls.call_len_list pl.isList (by simp only[List.size_toArray];omega) ⟨.int xs.length,H,I.tok _,⟨_,by simp only[List.size_toArray];rw[hlen]⟩,q⟩
  ·subst e'
   obtain⟨its,r',pl,hz⟩:=I.tuple hx
   have hlen:=r'.length
   exact len_tuple pl (by simp only[List.size_toArray];omega) ⟨.int xs.length,H,I.tok _,⟨_,by simp only[List.size_toArray];rw[hlen]⟩,q⟩
 | _=>exact (show False from e).elim
theorem Wt:qQ X (.builtin "divmod") (fun xs H Q=>∃ i j,xs=[.int i,.int j]/\CDiv i j/\∀ p,H p=none->Q (.ref p) (upd H p (.tup [.int (i / j),.int (i % j)]))):=by
 intro pins s σ H xs us Q I r h
 obtain⟨i,j,rfl,⟨h1,h2⟩,q⟩:=h
 obtain⟨u,w',rfl,⟨t,rfl⟩,⟨t',rfl⟩⟩:=Ws r
 refine divmod_int (by omega) ?_ (.inl (PyProof.noPylong_small (by omega)))
 rw[Eo i (by omega),En i (by omega)]
 have hn:H s.heap.objs.size=none:=I.hok.fresh (AG _)
 refine⟨.ref s.heap.objs.size,_,?_,rfl,q _ hn⟩
 refine I.laid (fun b o e=>AC _ e) (AG _) ⟨by simp only[List.length_cons,List.length_nil];rw[BS];decide,[.int (i / j) s.toks,.int (i % j) (s.toks+1)],.cons ⟨_,rfl⟩ (.cons ⟨_,rfl⟩ .nil),?_⟩
 exact⟨_,AK s.heap rfl,rfl,⟨0,rfl⟩,rfl⟩
end
structure ObjM (h:Heap) (x dx C:Addr) (mA:Str->Option Value):Prop where
 obj:h.get? x=some (PySem.W.instObj C dx)
 ns:h.Ns1 dx mA
 ne:dx ≠ x
theorem YK {h:Heap} {dx:Addr} {mA:Str->Option Value} (n:h.Ns1 dx mA):∃ od,h.get? dx=some od/\∀ name,PySem.W.lookIn name od=some (mA name):=by
 obtain⟨o,es,ep,ho,hd,hk,_,hm⟩:=n
 refine⟨o,ho,fun name=>?_⟩
 have e:=hm name
 unfold nsFind findBy at e
 rw[<- Array.find?_toList] at e
 unfold PySem.W.lookIn
 rw[hd]
 dsimp only
 split
 ·rename_i y q
  rw[q] at e
  exact BL some e
 ·rename_i q
  rw[q] at e
  have a:es.toList.any (·.refKey)=false:=by
   rw[List.any_eq_false]
   intro y hy
   obtain⟨z,t,hkey⟩:=hk y (Array.mem_toList_iff.mp hy)
   simp[DictEntry.refKey,hkey]
  have a':¬ es.toList.any (·.refKey)=true:=by rw[a];exact AX
  rw[if_neg a']
  exact BL some e
theorem ObjM.look {h:Heap} {x dx C:Addr} {mA:Str->Option Value} (I:ObjM h x dx C mA):∃ od,PySem.W.InstAt h x (PySem.W.instObj C dx) C (some od)/\∀ name,PySem.W.lookIn name od=some (mA name):=
 let ⟨od,ho,hl⟩:=YK I.ns
 ⟨od,⟨I.obj,rfl,rfl,ho⟩,hl⟩
section
variable {prog:Program} {w:World} {A:Around} {E:Value->Shared->Prop} {s:Shared} {K:Fs} {x dx C f:Addr} {mA:Str->Option Value} {name:Str} {v:Value}
end
theorem Yr.some_of {v:V} {o:Option Value} (r:Yr (some v) o):∃ u,o=some u/\RelV v u:=by
 cases o with
 | none=>exact (show False from r).elim
 | some u=>exact⟨u,rfl,r⟩
section
variable {P:Program} {w:World} {H H':Hp} {h h':Heap} {a C dx:Addr} {fs fs':List (Str × V)}
theorem ins_get (hok:HOk P w H h) (e:H a=some (.ins C dx fs)):∃ mA,ObjM h a dx C mA/\(∀ f,Yr (fs.lookup f) (mA f))/\PySem.Within mA (fs.map (·.1))/\fs.length<=1000/\H dx=some (.own a):=by
 obtain⟨d,z,ne,ob,mA,n,r,q⟩:=(show qd P w H h a (.ins C dx fs) from hok a _ e)
 exact⟨mA,⟨ob,n,ne⟩,r,q,z,d⟩
end
structure Cls (K:Fs) (C:Addr):Prop where
 pg:PySem.W.plainGet K C Str.empty=true
 hd:PySem.W.hasDictIn K C=true
 po:PySem.W.plainOver K C=true
 sa:PySem.W.findIn K (.ref C) "__setattr__" = some (some (.builtin "object.__setattr__"))
theorem Cls.get {K:Fs} {C:Addr} (c:Cls K C) (f:Str):PySem.W.plainGet K C f=true:=c.pg
section
variable {X:Cx} {pins:List (Addr × Obj)} {σ:St} {H:Hp} {s:Shared} {a C dx:Addr} {fs:List (Str × V)} {f:Str} {v:V} {A:Around} {E:Value->Shared->Prop}
end
section
variable {X:Cx} {o e value:Expr} {f:Str} {pos pos' tpos:Pos} {ta tv:TE}
end
section
variable {X:Cx} {pins:List (Addr × Obj)} {σ:St} {H:Hp} {s:Shared} {A:Around} {E:Value->Shared->Prop} {Q:Value->Shared->Prop} {c:Value} {b:Bool}
inductive yi (K:Fs) (H:Hp):V->Value->Prop where
 | non:yi K H .non (.type "NoneType")
 | bl (x:Bool):yi K H (.bl x) (.type "bool")
 | int (i:Int):yi K H (.int i) (.type "int")
 | str (x:Str):yi K H (.str x) (.type "str")
 | flt (x:UInt64):yi K H (.flt x) (.type "float")
 | lst {a:Addr} {xs:List V} (e:H a=some (.lst xs)):yi K H (.ref a) (.type "list")
 | frz {a:Addr} {o:Obj} {xs:List V} (e:H a=some (.frz o (.lst xs))):yi K H (.ref a) (.type "list")
 | tup {a:Addr} {xs:List V} (e:H a=some (.tup xs)):yi K H (.ref a) (.type "tuple")
 | dK {a:Addr} {kvs:List (Key×V)} (e:H a=some (.dK kvs)):yi K H (.ref a) (.type "dict")
 | dT {a:Addr} {kvs:List (List Key×V)} (e:H a=some (.dT kvs)):yi K H (.ref a) (.type "dict")
 | ins {a C dx:Addr} {fs:List (Str×V)} (e:H a=some (.ins C dx fs)) (cl:Cls K C) (ha:PySem.W.findIn K (.ref C) "__class__" = some (some (.builtin "object.__class__")))
   (hn:PySem.W.specialIn K (.builtin "object.__class__") "__get__" = some (some (.builtin "getset_descriptor.__get__"))) (htk:PySem.W.takesIn K (.builtin "object.__class__")=some true)
   (hm:PySem.W.mroIn K C (.type "object")=some true):yi K H (.ref a) (.ref C)
theorem YL {x:V} {u t:Value} (I:Inv X pins σ H s) (rx:RelV x u) (ty:yi X.K H x t) (e:PySem.W.kitOne X.K t c=some b) (h:∀ tk,Q (.bool b) { s with toks:=tk }) :
  wpAny (model X.prog X.w) A (call (.builtin "isinstance") [u,c]) Q E s:=by
 cases ty with
 | non=>cases (show u=Value.none from rx);exact BM PySem.W.kitx_none I.kIn True.intro e (fun z=>nomatch z) h
 | bl y=>cases (show u=Value.bool y from rx);exact BM PySem.W.kitx_bool I.kIn True.intro e (fun z=>nomatch z) h
 | int i=>obtain⟨t,q⟩:=(show ∃ t,u=Value.int i t from rx);cases q;exact BM PySem.W.kitx_int I.kIn True.intro e (fun z=>nomatch z) h
 | str y=>obtain⟨t,q⟩:=(show ∃ t,u=Value.str y t from rx);cases q;exact BM PySem.W.kitx_str I.kIn True.intro e (fun z=>nomatch z) h
 | flt y=>obtain⟨t,q⟩:=(show ∃ t,u=Value.float y t from rx);cases q;exact BM PySem.W.kitx_float I.kIn True.intro e (fun z=>nomatch z) h
 | @lst a xs ea=>
  cases (show u=Value.ref a from rx)
  obtain⟨_,_,n,_,h1⟩:=(show qd X.prog X.w H s.heap a (.lst xs) from I.hok a _ ea)
  exact BM PySem.W.kitx_list I.kIn ⟨_,h1,rfl⟩ e (fun z=>nomatch z) h
 | @frz a ob xs ea=>
  cases (show u=Value.ref a from rx)
  obtain⟨_,_,_,n,_,h1⟩:=(show qd X.prog X.w H s.heap a (.frz ob (.lst xs)) from I.hok a _ ea)
  exact BM PySem.W.kitx_list I.kIn ⟨_,h1,rfl⟩ e (fun z=>nomatch z) h
 | @tup a xs ea=>
  cases (show u=Value.ref a from rx)
  obtain⟨_,_,_,p⟩:=(show qd X.prog X.w H s.heap a (.tup xs) from I.hok a _ ea)
  obtain⟨o,h1,h2,_⟩:=p
  exact BM PySem.W.kitx_tuple I.kIn ⟨o,h1,h2⟩ e (fun z=>nomatch z) h
 | @dK a kvs ea=>
  cases (show u=Value.ref a from rx)
  obtain⟨_,_,vs,_,p⟩:=(show qd X.prog X.w H s.heap a (.dK kvs) from I.hok a _ ea)
  obtain⟨o,es,ep,h1,h2,_⟩:=p
  exact BM PySem.W.kitx_dict I.kIn ⟨o,h1,h2.1⟩ e (fun z=>nomatch z) h
 | @dT a kvs ea=>
  cases (show u=Value.ref a from rx)
  obtain⟨_,_,xs,_,o,es,ep,h1,h2,_⟩:=(show qd X.prog X.w H s.heap a (.dT kvs) from I.hok a _ ea)
  exact BM PySem.W.kitx_dict I.kIn ⟨o,h1,h2.1⟩ e (fun z=>nomatch z) h
 | @ins a C dx fs ea cl ha hn htk hm=>
  cases (show u=Value.ref a from rx)
  obtain⟨mA,O,_⟩:=ins_get I.hok ea
  obtain⟨od,J,_⟩:=O.look
  exact BM (PySem.W.kitx_own (cl.get _) cl.hd ha hn htk hm) I.kIn J e (fun z=>nomatch z) h
end
structure jY (k:Nat) (A:Around):Prop where
 hd:A.handled=none
 dp:A.depth+3 * k+5 < recursionLimit
 un:A.units+16 * k+200 < cLine
theorem jY.mono {j k:Nat} {A:Around} (r:jY k A) (h:j<=k):jY j A:=⟨r.hd,by have:=r.dp;omega,by have:=r.un;omega⟩
theorem jY.deeper {k:Nat} {A:Around} (r:jY (k+1) A) (env:Env):jY k (A.deeper env):=
 ⟨r.hd,by have:=r.dp;show A.depth+1+3 * k+5 < _;omega,by have:=r.un;show A.units+3+16 * k+200 < _;omega⟩
theorem jY.depth {k:Nat} {A:Around} (r:jY k A):A.depth < recursionLimit:=by have:=r.dp;omega
theorem jY.units {k:Nat} {A:Around} (r:jY k A):A.units+64 < cLine:=by have:=r.un;omega
def tNil:TA:=fun _ H Q=>Q [] H
def tCons (ta:TE) (tr:TA):TA:=fun σ H Q=>ta σ H fun x H1=>tr σ H1 fun xs H2=>Q (x :: xs) H2
section
variable {X:Cx} {e:Expr} {es:List Expr} {te:TE} {t:TA} {pos:Pos}
theorem zf:PA X [] tNil:=fun _ _ _ _ H Q I h=>Calls.spliced_nil ⟨[],H,I,.nil,h⟩
theorem za (ha:PE X e te) (hr:PA X es t) (hs:starEach (e :: es) X.env=(false,eval e X.env) :: starEach es X.env:=by rfl):PA X (e :: es) (tCons te t):=by
 intro pos pins s σ H Q I h
 rw[hs]
 show wpAny _ _ (spliced ((false,eval e X.env) :: backTo pos (starEach es X.env))) _ _ s
 refine Calls.spliced_cons (thn (ha pins s σ H _ I h) fun u s1 ⟨x,H1,I1,r1,q1⟩=>?_)
 exact thn (hr pos pins s1 σ H1 _ I1 q1) fun us s2 ⟨xs,H2,I2,r2,q2⟩=>⟨x :: xs,H2,I2,.cons r1 r2,q2⟩
def tTup (t:TA):TE:=fun σ H Q=>t σ H fun xs H1=>xs.length<=sizeLine/\∀ p,H1 p=none->Q (.ref p) (upd H1 p (.tup xs))
def tLst (t:TA):TE:=fun σ H Q=>t σ H fun xs H1=>xs.length<=sizeLine/\∀ p,H1 p=none->Q (.ref p) (upd H1 p (.lst xs))
theorem qx {x1} (h:PA X es t):PE X (.Tuple es x1 pos) (tTup t):=by
 intro pins s σ H Q I hq
 refine wpAny_Tuple_spliced (thn (h pos pins s σ H _ I hq) fun us s1 ⟨xs,H1,I1,r,z,q⟩=>⟨by rw[<- r.length];exact z,?_⟩)
 have hf:H1 s1.heap.objs.size=none:=I1.hok.fresh (AG _)
 refine⟨.ref s1.heap.objs.size,upd H1 s1.heap.objs.size (.tup xs),I1.laid (t':=s1.toks) (fun b u e=>AC _ e) (AG _) ?_,rfl,q _ hf⟩
 exact⟨z,us,r,⟨_,AK _ rfl,rfl,⟨_,rfl⟩,rfl⟩⟩
theorem qm (h:PA X es t):PE X (.List es pos) (tLst t):=by
 intro pins s σ H Q I hq
 refine wpAny_List_spliced (thn (h pos pins s σ H _ I hq) fun us s1 ⟨xs,H1,I1,r,z,q⟩=>⟨by rw[<- r.length];exact z,?_⟩)
 have hf:H1 s1.heap.objs.size=none:=I1.hok.fresh (AG _)
 refine⟨.ref s1.heap.objs.size,upd H1 s1.heap.objs.size (.lst xs),I1.laid (t':=s1.toks) (fun b u e=>AC _ e) (AG _) ?_,rfl,q _ hf⟩
 exact⟨z,us,0,r,AK _ rfl⟩
end
abbrev Sp:=List V->Hp->VK->XK->Prop
abbrev CXT:=List Env->Hp->Shared->XK->Value->Shared->Prop
structure Env0 (P:Program) (w:World) (K:Fs) (mg:Str->Option Value) (base:Heap) (A:Around) (outer:List Env) (s:Shared) (H:Hp):Prop where
 frames:A.frames=some outer
 mod:Mod K mg base
 bs:∀ b o,base.get? b=some o->s.heap.get? b=some o/\H b=none
 bsz:base.objs.size<=s.heap.objs.size
 funs:s.heap.FunFrames base outer
 frf:∀ b ∈ frs outer,H b=none
 hok:HOk P w H s.heap
 bare:AllBare s.gens
def CE (outer:List Env) (P:Program) (w:World) (H:Hp) (s:Shared) (Q:VK) (u:Value) (s':Shared):Prop:=
 ∃ v H',s'.os=s.os/\AllBare s'.gens/\Un (frs outer) [] H H' s.heap s'.heap/\HOk P w H' s'.heap/\RelV v u/\Q v H'
def CR (CX:CXT) (outer:List Env) (P:Program) (w:World) (H:Hp) (s:Shared) (Q:VK) (E:XK) (r:Result) (s':Shared):Prop:=
 match r with
 | .ok (.ret u)=>CE outer P w H s Q u s'
 | .ok _=>False
 | .error e=>CX outer H s E e s'
structure jO (P:Program) (w:World) (K:Fs) (mg:Str->Option Value) (base:Heap) (CX:CXT) (k:Nat) (f:Addr) (fd:FuncData) (ps:List Str) (sp:Sp):Prop where
 len:∀ vs H Q E,sp vs H Q E->vs.length=ps.length
 run:∀ (A:Around) (outer:List Env) (s:Shared) (H:Hp) (args:Args) (us:List Value) (vs:List V) (Q:VK) (E:XK),jY k A->Env0 P w K mg base A outer s H->BindsTo s fd args (ps.zip us)->qi vs us->sp vs H Q E ->
  codeAny (model P w) A (.call (.ref f) args) (CR CX outer P w H s Q E) s
section
variable {X:Cx} {pins:List (Addr × Obj)} {σ:St} {H:Hp} {s s':Shared}
theorem Inv.env0 (I:Inv X pins σ H s):Env0 X.prog X.w X.K X.mg X.base X.A X.stack s H:=
 ⟨I.ok.frames,I.ok.mod,I.bs,Aq I.ok.bsz I.sz,I.stack,I.stkFree,I.hok,I.bare⟩
theorem Inv.after {Q:VK} {u:Value} (I:Inv X pins σ H s) (h:CE X.stack X.prog X.w H s Q u s'):EP X pins σ Q u s':=by
 obtain⟨v,H',os,bare,un,hok,r,q⟩:=h
 obtain⟨hh,g,d,t,os'⟩:=s'
 obtain rfl:os'=s.os:=os
 exact⟨v,H',I.call (h':=hh) (g':=g) (d':=d) (t':=t) (ch:=[]) un hok bare (fun b z=>absurd z (by simp)),r,q⟩
end
def tCall (sp:Sp) (dvs:List V) (E:XK) (t:TA):TE:=fun σ H Q=>t σ H fun vs H1=>sp (vs++dvs) H1 Q E
def Binds (K:Fs) (fd:FuncData) (ps:List Str) (ds:List Value):Prop:=
 ∀ (s:Shared) (us:List Value),K.In s.heap->(us++ds).length=ps.length->BindsTo s fd ⟨us,[]⟩ (ps.zip (us++ds))
theorem Binds.all {K:Fs} {fd:FuncData} {ps:List Str} (h:∀ us:List Value,us.length=ps.length->bindArgs fd ⟨us,[]⟩=pure (ps.zip us)):Binds K fd ps []:=fun s us _ hl=>by
 rw[Ap] at hl ⊢
 exact .of_eq (h us hl)
def wm (CX:CXT) (X:Cx) (E:XK):Prop:=∀ (pins:List (Addr×Obj)) (σ:St) (H:Hp) (s:Shared) (e:Value) (s':Shared),Inv X pins σ H s->CX X.stack H s E e s'->X.xe e s'
section
theorem run_fn {pins:List (Addr×Obj)} {σ:St} {H:Hp} {s:Shared} {Q:VK} {us:List Value} {vs:List V} (F:jO X.prog X.w X.K X.mg X.base CX k f fd ps sp) (hr:jY k X.A) (hb:Binds X.K fd ps ds) (hd:qi dvs ds) (hx:wm CX X E)
  (I:Inv X pins σ H s) (r:qi vs us) (h:sp (vs++dvs) H Q E):wpAny (model X.prog X.w) X.A (call (.ref f) us) (EP X pins σ Q) X.xe s:=by
 have r2:qi (vs++dvs) (us++ds):=r.append hd
 have hl:(us++ds).length=ps.length:=by rw[<- r2.length];exact F.len _ _ _ _ h
 refine wpAny_call (D6 (F.run X.A X.stack s H ⟨us,[]⟩ (us++ds) (vs++dvs) Q E hr I.env0 (hb s us I.kIn hl) r2 h) fun r s' hq=>?_)
 cases r with
 | error e=>exact hx pins σ H s e s' I hq
 | ok fl=>
  cases fl with
  | ret u=>exact I.after hq
  | next=>exact False.elim hq
  | brk=>exact False.elim hq
  | cont=>exact False.elim hq
theorem YM (F:jO X.prog X.w X.K X.mg X.base CX k f fd ps sp) (hr:jY k X.A) (hg:Gl X x) (hm:X.mg x=some (.ref f)) (hk:PySem.W.keepIn X.K (.ref f)=true) (hb:Binds X.K fd ps ds) (hd:qi dvs ds) (hx:wm CX X E)
  (ha:PA X (e :: es) t) (hdb:(x == ("__debug__" : Str))=false:=by decide) (he:starEach (e :: es) X.env=(false,eval e X.env) :: starEach es X.env:=by rfl) (hpl:(backTo pos (starEach es X.env)).any (·.1)=false:=by rfl) :
  PE X (.Call (.Name x p) (e :: es) [] pos) (tCall sp dvs E t):=by
 intro pins s σ H Q I h
 refine DY (Qw I hg hm ?_ hdb)
 refine PySem.W.callWith_K (h₀:=X.base) I.ok.mod.kin hk (thn (ha pos pins s σ H _ I h) fun us s1 ⟨vs,H1,I1,r,q⟩=>⟨I1.kIn,?_⟩) he hpl
 exact run_fn F hr hb hd hx I1 r q
end
section
variable {g:List Value->List Value->List Value} {gV:List V->List V->List V}
end
structure zI (N P:List Str) (sc:Scope):Prop where
 kind:sc.kind=.function
 co:sc.isCoroutine=false
 gen:sc.isGenerator=false
 nd:N.Nodup
 pre:N.take P.length=P
 par:∀ x ∈ P,sc.names.lookup x=some .local\/sc.names.lookup x=some .cell
 nofree:∀ y ∈ sc.names,y.2 ≠ .free
theorem wo {kindOf:Str->Option NameKind} {x:Str}:∀ {binds:List (Str×Value)} {m:Str->Option Value},(∀ v,(x,v) ∉ binds)->bindL kindOf binds m x=m x
 | [],_,_=>rfl
 | (n,v) :: r,m,h=>by
  unfold bindL
  rw[wo fun w hw=>h w (Ay _ hw)]
  split
  ·have:x ≠ n:=by rintro rfl;exact h v As
   simp[this]
  ·rfl
theorem wq {kindOf:Str->Option NameKind} {x:Str}:∀ {binds:List (Str×Value)} {m:Str->Option Value},(∀ v,(x,v) ∉ binds)->bindC kindOf binds m x=m x
 | [],_,_=>rfl
 | (n,v) :: r,m,h=>by
  unfold bindC
  rw[wq fun w hw=>h w (Ay _ hw)]
  split
  ·rfl
  ·have:x ≠ n:=by rintro rfl;exact h v As
   simp[this]
theorem wu {kindOf:Str->Option NameKind} {x:Str} {v:Value}:∀ {P:List Str} {vs:List Value} {i:Nat} {m:Str->Option Value},P.Nodup->P[i]? = some x->vs[i]? = some v->kindOf x=some .local ->
  bindL kindOf (P.zip vs) m x=some v
 | [],_,_,_,_,h,_,_=>by simp at h
 | _ :: _,[],_,_,_,_,h,_=>by simp at h
 | p :: P,w :: vs,0,m,nd,h1,h2,hk=>by
  simp at h1 h2;subst h1;subst h2
  show bindL kindOf ((p,w) :: P.zip vs) m p=_
  unfold bindL
  rw[wo fun v hv=>(Bl.mp nd).1 (Dk hv).1,if_pos hk]
  simp
 | p :: P,w :: vs,i+1,m,nd,h1,h2,hk=>by
  show bindL kindOf ((p,w) :: P.zip vs) m x=_
  unfold bindL
  exact wu (i:=i) (Bl.mp nd).2 (by simpa using h1) (by simpa using h2) hk
theorem wv {kindOf:Str->Option NameKind} {x:Str} {v:Value}:∀ {P:List Str} {vs:List Value} {i:Nat} {m:Str->Option Value},P.Nodup->P[i]? = some x->vs[i]? = some v->kindOf x ≠ some .local ->
  bindC kindOf (P.zip vs) m x=some v
 | [],_,_,_,_,h,_,_=>by simp at h
 | _ :: _,[],_,_,_,_,h,_=>by simp at h
 | p :: P,w :: vs,0,m,nd,h1,h2,hk=>by
  simp at h1 h2;subst h1;subst h2
  show bindC kindOf ((p,w) :: P.zip vs) m p=_
  unfold bindC
  rw[wq fun v hv=>(Bl.mp nd).1 (Dk hv).1,if_neg hk]
  simp
 | p :: P,w :: vs,i+1,m,nd,h1,h2,hk=>by
  show bindC kindOf ((p,w) :: P.zip vs) m x=_
  unfold bindC
  exact wv (i:=i) (Bl.mp nd).2 (by simpa using h1) (by simpa using h2) hk
def start (N:List Str) (vs:List V):St:=vs.map some++List.replicate (N.length - vs.length) none
def Yt (CX:CXT) (P:Program) (w:World) (K:Fs) (mg:Str->Option Value) (base:Heap) (N:List Str) (qual:Str) (scope:Scope) (f:Addr) (cd:Value) (A:Around) (outer:List Env) (s:Shared) (H:Hp) (E:XK):Cx where
 prog:=P
 w:=w
 K:=K
 mg:=mg
 base:=base
 A:=A.deeper (envOfC qual scope s.heap.objs.size f cd)
 N:=N
 s₀:=s
 H₀:=H
 env:=envOfC qual scope s.heap.objs.size f cd
 outer:=outer
 stack:=envOfC qual scope s.heap.objs.size f cd :: outer
 ex:=[]
 calm:=true
 fn:=fun _=>true
 pn:=[]
 xe:=fun e s'=>wpAny (model P w) (A.deeper (envOfC qual scope s.heap.objs.size f cd)) (leaving (envOfC qual scope s.heap.objs.size f cd) e) (fun _ s''=>CX outer H s E e s'') (fun e' s''=>CX outer H s E e' s'') s'
theorem yj {sc:Scope} {n:Nat} {x:Str} (h:sc.names.lookup x=some .cell):∃ c,(cellsFrom n sc.names []).lookup x=some c:=by
 have q:=PySem.W.cellsFrom_some sc.names n [] (.inl h)
 exact DX.mp q
theorem YN {CX:CXT} {P:Program} {w:World} {K:Fs} {mg:Str->Option Value} {base:Heap} {N ps:List Str} {qual:Str} {scope:Scope} {f:Addr} {cd:Value} {A:Around} {outer:List Env} {s s1:Shared} {H:Hp} {E:XK} {us:List Value} {vs:List V}
  (S:zI N ps scope) (hd:A.handled=none) (e0:Env0 P w K mg base A outer s H) (hl:vs.length=ps.length) (r:qi vs us)
  (x:InCallC s s.heap.objs.size (bindL (envOfC qual scope s.heap.objs.size f cd).kindOf (ps.zip us) fun _=>none) (cellsFrom (s.heap.objs.size+1) scope.names []) (bindC (envOfC qual scope s.heap.objs.size f cd).kindOf (ps.zip us) fun _=>none) s1) :
  Inv (Yt CX P w K mg base N qual scope f cd A outer s H E) [] (start N vs) H s1:=by
 have hpl:ps.length<=N.length:=by have:=BL List.length S.pre;rw[Ae] at this;omega
 obtain⟨h1,tk,rfl,hk⟩:=x.done
 have noA:∀ b:Addr,b ∉ (Yt CX P w K mg base N qual scope f cd A outer s H E).ex:=fun b z=>absurd (show b ∈ ([]:List Addr) from z) (by simp)
 refine⟨⟨e0.mod,S.kind,rfl,rfl,AG _,fun y z c h1 h2=>?_,fun y hy=>?_,fun y c _ h=>?_,fun _=>hd,Around.frames_deeper e0.frames,.inr ⟨rfl,rfl⟩,fun b z=>absurd z (noA b),e0.bs,e0.bsz,fun b _ _=>noA b,fun b z=>absurd z (noA b),e0.funs,e0.frf⟩,
  rfl,e0.bare,Un.kept hk,⟨_,x.toInCall.ns,fun i y v h1 h2 h3=>?_⟩,fun y c h=>⟨_,x.cell y c h⟩,e0.hok.fresh (AG _),fun y c h=>?_,fun p hp=>absurd (show p ∈ ([]:List (Addr×Obj)) from hp) (by simp),e0.hok.kept hk,?_⟩
 ·exact name_of_addr x.apart (A7 h1) (A7 h2)
 ·have hy:scope.names.lookup y=some .cell\/scope.names.lookup y=some .free:=hy
  rcases hy with hy | hy
  ·exact yj hy
  ·exact absurd rfl (S.nofree _ (A7 hy))
 ·exact CI (x.above y c (A7 h))
 ·have hi:i < vs.length:=by
   unfold start at h2
   by_cases hi:i < vs.length
   ·exact hi
   ·rw[A3 (by simpa using hi)] at h2
    rw[List.getElem?_replicate] at h2
    split at h2 <;> cases h2
  have ha:vs[i]? = some v:=by
   unfold start at h2
   rw[BD (by simpa using hi),AR] at h2
   cases e:vs[i]? with
   | none=>rw[e] at h2;cases h2
   | some a=>rw[e] at h2;cases h2;rfl
  obtain⟨u,hu,rv⟩:=r.get ha
  have hp:ps[i]? = some y:=by
   rw[<- S.pre,Be (by omega)];exact h1
  have ndP:ps.Nodup:=by rw[<- S.pre];exact S.nd.sublist (DT _ _)
  refine⟨u,rv,?_⟩
  rcases S.par y (AN hp) with k | k
  ·exact .inl ⟨k,wu ndP hp hu k⟩
  ·obtain⟨c,e⟩:=yj (n:=s.heap.objs.size+1) k
   refine .inr ⟨.inl k,c,e,?_⟩
   have q:=x.cell y c e
   rw[wv ndP hp hu (by show scope.names.lookup y ≠ _;rw[k];decide)] at q
   exact q
 ·exact e0.hok.fresh (CI (x.above y c (A7 h)))
 ·unfold start
  show _=N.length
  rw[AI,AB,C5]
  omega
theorem fn_of {CX:CXT} {P:Program} {w:World} {K:Fs} {mg:Str->Option Value} {base:Heap} {k:Nat} {f:Addr} {name qual:Str} {params:Arguments} {body:List Stmt} {scope:Scope} {dV kV doc pm cdv ct oc:Value} {an od:Option Addr}
  {osl:Array (Option Value)} {N ps:List Str} {sp:Sp} (lk:K.lookup f=some ⟨oc,od,.func (PySem.W.fnOf name qual params body scope dV kV doc pm an cdv ct),osl⟩) (hcd:PySem.W.codeIn K cdv qual=true) (S:zI N ps scope)
  (len:∀ vs H Q E,sp vs H Q E->vs.length=ps.length)
  (hbody:∀ (A:Around) (outer:List Env) (s:Shared) (H:Hp) (vs:List V) (Q:VK) (E:XK),jY k (A.deeper (envOfC qual scope s.heap.objs.size f cdv))->sp vs H Q E ->
   ∃ t,PSs (Yt CX P w K mg base N qual scope f cdv A outer s H E) body t/\t { nx:=fun _ H'=>Q .non H',rt:=Q } (start N vs) H) :
  jO P w K mg base CX (k+1) f (PySem.W.fnOf name qual params body scope dV kV doc pm an cdv ct) ps sp:=by
 refine⟨len,fun A outer s H args us vs Q E hr e0 hb r hsp=>?_⟩
 have hl:=len _ _ _ _ hsp
 have KX:K.In s.heap:=e0.mod.kin.keeps fun b o e=>(e0.bs b o e).1
 have lim:s.heap.NoLimit:=e0.mod.nolimit.keeps fun b o e=>(e0.bs b o e).1
 have hkind:∀ y ∈ ps.zip us,scope.names.lookup y.1=some .local\/(scope.names.lookup y.1=some .cell/\((cellsFrom (s.heap.objs.size+1) scope.names []).lookup y.1).isSome=true):=fun ⟨n,v⟩ hy=>by
  rcases S.par n (Dk hy).1 with q | q
  ·exact .inl q
  ·exact .inr ⟨q,PySem.W.cellsFrom_some _ _ _ (.inl q)⟩
 refine codeAny_call_function hr.depth (KX _ _ lk) rfl S.co S.gen rfl (PySem.W.codeRec_of KX hcd) (hb _ _ _ _ ?_)
 refine wpAny_newFunctionEnv_cells S.kind hkind fun env he s1 x=>?_
 subst he
 refine⟨lim.keeps x.toInCall.keep,codeAny_func ?_⟩
 obtain⟨t,ht,hq⟩:=hbody A outer s H vs Q E (hr.deeper _) hsp
 have I:Inv (Yt CX P w K mg base N qual scope f cdv A outer s H E) [] (start N vs) H s1:=YN S hr.hd e0 hl r x
 refine Bp (ht [] s1 (start N vs) H _ I hq) (fun fl s' hs=>?_) fun e s' hs=>hs
 have fin:∀ {σ':St} {H':Hp} {v:V} {u:Value},Inv (Yt CX P w K mg base N qual scope f cdv A outer s H E) [] σ' H' s'->RelV v u->Q v H'->CE outer P w H s Q u s':=
  fun {σ' H' v u} J rv q=>⟨v,H',J.os,J.bare,J.base,J.hok,rv,q⟩
 cases fl with
 | ret u=>
  obtain⟨v,σ',H',J,rv,q⟩:=hs
  exact fin J rv q
 | next=>
  obtain⟨σ',H',J,q⟩:=hs
  exact fin (v:=V.non) (u:=Value.none) J rfl q
 | brk=>
  obtain⟨_,_,_,q⟩:=hs
  exact False.elim q
 | cont=>
  obtain⟨_,_,_,q⟩:=hs
  exact False.elim q
section
variable {X:Cx} {x:Str} {p pos:Pos} {e:Expr} {es:List Expr} {t:TA} {id T:String} {r:List V->Hp->VK->Prop}
def tCB (r:List V->Hp->VK->Prop) (t:TA):TE:=fun σ H Q=>t σ H fun vs H1=>r vs H1 Q
theorem zq (hc:qQ X (.builtin id) r) (hg:Gl X x) (hm:X.mg x=none) (hv:bootBuiltins x=some (.builtin id)) (ha:PA X (e :: es) t) (hn:x ≠ "__name__":=by decide) (hdb:(x == ("__debug__" : Str))=false:=by decide)
  (he:starEach (e :: es) X.env=(false,eval e X.env) :: starEach es X.env:=by rfl) (hpl:(backTo pos (starEach es X.env)).any (·.1)=false:=by rfl):PE X (.Call (.Name x p) (e :: es) [] pos) (tCB r t):=by
 intro pins s σ H Q I h
 refine DY (ZC I hg hm hv ?_ hn hdb)
 exact PyProof.Rows.callWith_builtin1 (thn (ha pos pins s σ H _ I h) fun us s1 ⟨vs,H1,I1,r1,q1⟩=>hc pins s1 σ H1 vs us Q I1 r1 q1) he hpl
theorem zC (hc:qQ X (.type T) r) (hg:Gl X x) (hm:X.mg x=none) (hv:bootBuiltins x=some (.type T)) (ha:PA X (e :: es) t) (hn:x ≠ "__name__":=by decide) (hdb:(x == ("__debug__" : Str))=false:=by decide)
  (he:starEach (e :: es) X.env=(false,eval e X.env) :: starEach es X.env:=by rfl) (hpl:(backTo pos (starEach es X.env)).any (·.1)=false:=by rfl):PE X (.Call (.Name x p) (e :: es) [] pos) (tCB r t):=by
 intro pins s σ H Q I h
 refine DY (ZC I hg hm hv ?_ hn hdb)
 exact BG (thn (ha pos pins s σ H _ I h) fun us s1 ⟨vs,H1,I1,r1,q1⟩=>hc pins s1 σ H1 vs us Q I1 r1 q1) he hpl
end
end L2
namespace HT
open PySem PyProof.Rows
section
open PySem.SeqAt
open PySem.AutoSeq1 (wpAny_loadPart')
open PySem.MeetsSeq PySem.MeetsSeq2 PySem.MeetsSeq3
end
section
variable {prog:Program} {w:World} {A:Around} {E:Value->Shared->Prop} {s:Shared}
theorem cat_tup {t b:Addr} {vs ws:List Value} {Q:Value->Shared->Prop} (ht:IsTup s.heap t vs.toArray) (hb:IsTup s.heap b ws.toArray) (hv:vs ≠ [])
  (h1:ws=[]->Q (.ref t) s) (h2:ws ≠ []->Q (.ref s.heap.objs.size) { s with heap:=s.heap.push { cls:=.type "tuple",data:=.seq (vs++ws).toArray } })
  (hsz:vs.length+ws.length<=sizeLine):wpAny (model prog w) A (binaryOp .Add (.ref t) (.ref b)) Q E s:=by
 obtain⟨⟨cls,dd,data,sl⟩,ho,hc,n,hd⟩:=id ht
 obtain⟨⟨cls2,dd2,data2,sl2⟩,ho2,hc2,n2,hd2⟩:=id hb
 simp only at hc hd hc2 hd2
 subst hc hd hc2 hd2
 have e:vs.toArray++ws.toArray=(vs++ws).toArray:=by simp
 by_cases hw:ws=[]
 ·exact concat_meets ⟨_,ho,rfl⟩ ⟨_,ho2,rfl⟩ noFill_tuple_add seq_tuple_add Dd Da (DV _ _)
   (tuple_addW1 t b vs.toArray ws.toArray n n2 dd dd2 sl sl2 (by simpa using hv) (by simp[hw])) ⟨ho,ho2,h1 hw⟩
 ·refine concat_meets ⟨_,ho,rfl⟩ ⟨_,ho2,rfl⟩ noFill_tuple_add seq_tuple_add Dd Da (DV _ _)
   (tuple_addW2 t b vs.toArray ws.toArray n n2 dd dd2 sl sl2 (by simpa using hv) (by simpa using hw) (by rw[List.size_toArray,List.size_toArray];exact hsz)) ⟨ho,ho2,?_⟩
  rw[e]
  exact h2 hw
def sIx (n d:Nat):Option Int->Nat
 | none=>d
 | some v=>if v < 0 then (v+(n:Int)).toNat else min v.toNat n
theorem sIx_none (n d:Nat):sIx n d none=d:=rfl
theorem sIx_nat (n d k:Nat):sIx n d (some (k:Int))=min k n:=by
 show (if (k:Int) < 0 then ((k:Int)+(n:Int)).toNat else min (k:Int).toNat n)=min k n
 rw[if_neg (by omega),A2]
theorem sIx_le (n d:Nat) (hd:d<=n) (o:Option Int):sIx n d o<=n:=by
 cases o with
 | none=>exact hd
 | some v=>
  show (if v < 0 then (v+(n:Int)).toNat else min v.toNat n)<=n
  by_cases hv:v < 0
  ·rw[if_pos hv];omega
  ·rw[if_neg hv];exact Eb _ _
theorem clip_eq (v:Int) (n d:Nat):(if v < 0 then max (v+(n:Int)) 0 else min v (n:Int))=((sIx n d (some v):Nat):Int):=by
 show (if v < 0 then max (v+(n:Int)) 0 else min v (n:Int))=(((if v < 0 then (v+(n:Int)).toNat else min v.toNat n):Nat):Int)
 by_cases hv:v < 0
 ·simp only[if_pos hv];omega
 ·simp only[if_neg hv];omega
theorem adjust_gen (lo hi:Option Int) (n:Nat):Builtin.Slice.sliceAdjust lo hi 1 (n:Int)=(((sIx n 0 lo:Nat):Int),((sIx n n hi:Nat):Int)):=by
 have h1:¬ ((1:Int) < 0):=by omega
 unfold Builtin.Slice.sliceAdjust
 simp only[h1,if_false]
 refine Prod.ext ?_ ?_
 ·cases lo with
  | none=>rfl
  | some v=>exact clip_eq v n 0
 ·cases hi with
  | none=>rfl
  | some v=>exact clip_eq v n n
theorem places_gen (i j:Nat):Builtin.Slice.slicePlaces (i:Int) (j:Int) 1=j - i:=by
 unfold Builtin.Slice.slicePlaces
 have h1:(1:Int) > 0:=by omega
 simp only[h1,if_true,Int.ediv_one]
 split <;> omega
theorem slicePart_ {v:Value} {o:Option Int} {Q:Option Int->Shared->Prop} (p:IsPart v o) (h:Q o s):wpAny (model prog w) A (Builtin.Slice.slicePartIndex v) Q E s:=by
 cases p with
 | none=>exact slicePart_none h
 | int i t=>exact slicePart_int h
theorem sliceApplied_gen {sl:Addr} {vl vu:Value} {lo hi:Option Int} {n:Nat} {Q:Int×Int×Nat->Shared->Prop} (hs:s.heap.IsSliceOf sl vl vu .none) (pl:IsPart vl lo) (pu:IsPart vu hi)
  (h:Q (((sIx n 0 lo:Nat):Int),1,sIx n n hi - sIx n 0 lo) s):wpAny (model prog w) A (Builtin.Slice.sliceApplied (.ref sl) (pure (n:Int))) Q E s:=by
 obtain⟨os,hos,hcs,hds⟩:=id hs
 unfold Builtin.Slice.sliceApplied Builtin.Slice.sliceFields
 refine AA (AA (A9 hos hds (x:=vl) rfl (AA (A9 hos hds (x:=vu) rfl (AA (A9 hos hds (x:=.none) rfl (AF ?_)))))))
 refine AA (slicePart_none ?_)
 show wpAny _ _ (if ((1:Int) == 0)=true then _ else _) _ _ s
 rw[if_neg (by decide)]
 refine AA (slicePart_ pl (AA (slicePart_ pu (AA (AF ?_)))))
 show wpAny _ _ (match Builtin.Slice.sliceAdjust lo hi 1 (n:Int) with | (lo,hi)=>pure (lo,(1:Int),Builtin.Slice.slicePlaces lo hi 1)) _ _ s
 rw[adjust_gen lo hi n]
 show wpAny _ _ (pure (((sIx n 0 lo:Nat):Int),(1:Int),Builtin.Slice.slicePlaces ((sIx n 0 lo:Nat):Int) ((sIx n n hi:Nat):Int) 1)) _ _ s
 rw[places_gen]
 exact AF h
theorem pick_gen (xs:Array Value) (i k:Nat):((List.range k).filterMap fun (m:Nat)=>xs[((i:Int)+(m:Int) * 1).toNat]?).toArray=((xs.toList.drop i).take k).toArray:=by
 have e:(fun (m:Nat)=>xs[((i:Int)+(m:Int) * 1).toNat]?)=fun m=>xs[i+m]?:=by
  funext m
  have:((i:Int)+(m:Int) * 1).toNat=i+m:=by omega
  rw[this]
 rw[e]
 have:=pick_run xs i k
 rw[List.filterMap_map] at this
 have e2:((fun x=>xs[x]?) ∘ fun x=>i+x)=fun m=>xs[i+m]?:=rfl
 rw[e2] at this
 rw[this]
theorem getItem_tuple_cut {t sl:Addr} {items:Array Value} {vl vu:Value} {lo hi:Option Int} {Q:Value->Shared->Prop} (ht:IsTup s.heap t items) (hs:s.heap.IsSliceOf sl vl vu .none) (pl:IsPart vl lo) (pu:IsPart vu hi)
  (hw:¬ (sIx items.size 0 lo=0/\sIx items.size items.size hi=items.size))
  (h:Q (.ref s.heap.objs.size) { s with heap:=s.heap.push { cls:=.type "tuple",data:=.seq ((items.toList.drop (sIx items.size 0 lo)).take (sIx items.size items.size hi - sIx items.size 0 lo)).toArray } })
  (hsz:items.size<=sizeLine):wpAny (model prog w) A (getItem (.ref t) (.ref sl)) Q E s:=by
 have htake:sizeOk (.seq ((items.toList.drop (sIx items.size 0 lo)).take (sIx items.size items.size hi - sIx items.size 0 lo)).toArray):=by
  show ((items.toList.drop (sIx items.size 0 lo)).take (sIx items.size items.size hi - sIx items.size 0 lo)).toArray.size<=sizeLine
  rw[Aa,Ae,CW,Am]
  omega
 have hj:sIx items.size items.size hi<=items.size:=sIx_le _ _ (AG _) hi
 obtain⟨os,hos,hcs,hds⟩:=id hs
 have hTs:s.TypeIs (.ref sl) "slice":=⟨os,hos,hcs⟩
 unfold getItem
 try with_reducible refine A4 ?_
 first | refine AA (AF ?_) | skip
 refine AA (wpAny_sequenceKey ht.typeIs (by decide) ?_)
 refine AA (wpAny_callSpecial?_slot (name:=Str.ofString "__getitem__") ht.typeIs BT
  (A1 BT ht.typeIs entry_tuple_getitem ?_ (args_tuple_getitem _ _)))
 show wpAny _ _ (Builtin.Tuple.tupleItemsOf (.ref t) >>= _) _ _ s
 refine AA (tupleItemsOf_ ht ?_)
 refine AA (Bo hTs ?_)
 rw[if_pos (by decide)]
 refine AA (sliceApplied_gen hs pl pu ?_)
 have hno:¬ ((((sIx items.size 0 lo:Nat):Int) == 0 && (1:Int) == 1 && (sIx items.size items.size hi - sIx items.size 0 lo) == items.size)=true):=by
  intro q
  rw[CG,CG] at q
  have q1:((sIx items.size 0 lo:Nat):Int)=0:=eq_of_beq q.1.1
  have q2:sIx items.size items.size hi - sIx items.size 0 lo=items.size:=eq_of_beq q.2
  exact hw ⟨by omega,by omega⟩
 show wpAny _ _ (if (((sIx items.size 0 lo:Nat):Int) == 0 && (1:Int) == 1 && (sIx items.size items.size hi - sIx items.size 0 lo) == items.size)=true then _ else _) _ _ s
 rw[if_neg hno,pick_gen]
 first
  | exact AA (m:=Builtin.Tuple.tupleExact _) (Au (AF ⟨_,rfl,AF h⟩) htake)
  | exact AA (m:=Builtin.Tuple.tupleExact _) (Au (AA (AF (AF ⟨_,rfl,AF h⟩))) htake)
  | exact AA (AA (m:=Builtin.Tuple.tupleExact _) (Au (AF (AF ⟨_,rfl,AF h⟩)) htake))
  | exact AA (AA (m:=Builtin.Tuple.tupleExact _) (Au (AF ⟨_,rfl,AF h⟩) htake))
end
end HT
namespace L2
open PySem PySem.Spec PyProof.Rows
abbrev TO:=St->Hp->(Option Int->Hp->Prop)->Prop
def PO (X:Cx) (e:Option Expr) (t:TO):Prop:=
 ∀ (pins:List (Addr×Obj)) (s:Shared) (σ:St) (H:Hp) (Q:Option Int->Hp->Prop),Inv X pins σ H s->t σ H Q ->
  wpAny (model X.prog X.w) X.A (evalPart e X.env) (fun u s'=>∃ o H',Inv X pins σ H' s'/\IsPart u o/\Q o H') X.xe s
def tNoPart:TO:=fun _ H Q=>Q none H
def tPart (t:TE):TO:=fun σ H Q=>t σ H fun x H1=>∃ i,x=.int i/\Q (some i) H1
section
variable {X:Cx} {e:Expr} {te:TE} {lo hi:Option Expr} {tl th:TO} {pos p2:Pos}
theorem jo:PO X none tNoPart:=by
 intro pins s σ H Q I h
 rw[evalPart_none]
 exact AF ⟨none,H,I,.none,h⟩
theorem qR (h:PE X e te):PO X (some e) (tPart te):=by
 intro pins s σ H Q I hw
 rw[evalPart_some]
 refine thn (h pins s σ H _ I hw) fun u s1 ⟨x,H1,I1,r1,q1⟩=>?_
 obtain⟨i,rfl,q⟩:=q1
 obtain⟨t,rfl⟩:=r1
 exact⟨some i,H1,I1,.int i t,q⟩
def SlR (X:Cx) (r:V->Option Int->Option Int->Hp->VK->Prop):Prop:=
 ∀ (pins:List (Addr×Obj)) (s:Shared) (σ:St) (H:Hp) (x:V) (v vl vu:Value) (lo hi:Option Int) (sl:Addr) (Q:VK),Inv X pins σ H s->RelV x v->s.heap.IsSliceOf sl vl vu .none->IsPart vl lo->IsPart vu hi->r x lo hi H Q ->
  ∃ T id,typeLookup (.type T) "__getitem__" = pure (some (.builtin id))/\s.TypeIs v T/\wpAny (model X.prog X.w) X.A (getItem v (.ref sl)) (EP X pins σ Q) X.xe s
theorem SlR.or {r r':V->Option Int->Option Int->Hp->VK->Prop} (h:SlR X r) (h':SlR X r'):SlR X (fun x lo hi H Q=>r x lo hi H Q\/r' x lo hi H Q):=by
 intro pins s σ H x v vl vu lo hi sl Q I rx hs pl pu q
 rcases q with q | q
 ·exact h pins s σ H x v vl vu lo hi sl Q I rx hs pl pu q
 ·exact h' pins s σ H x v vl vu lo hi sl Q I rx hs pl pu q
def tSl (r:V->Option Int->Option Int->Hp->VK->Prop) (te:TE) (tl th:TO):TE:=fun σ H Q=>te σ H fun x H1=>tl σ H1 fun l H2=>th σ H2 fun u H3=>r x l u H3 Q
theorem qA {r:V->Option Int->Option Int->Hp->VK->Prop} (hr:SlR X r) (he:PE X e te) (hl:PO X lo tl) (hu:PO X hi th):PE X (.Subscript e (.Slice lo hi none p2) pos) (tSl r te tl th):=by
 intro pins s σ H Q I h
 refine Subscript_ (thn (he pins s σ H _ I h) fun v s1 ⟨x,H1,I1,r1,q1⟩=>?_)
 refine wpAny_Slice (thn (hl pins s1 σ H1 _ I1 q1) fun vl s2 ⟨l,H2,I2,pl,q2⟩=>thn (hu pins s2 σ H2 _ I2 q2) fun vu s3 ⟨u,H3,I3,pu,q3⟩=>?_)
 rw[evalPart_none]
 refine AF ?_
 have I4:Inv X pins σ H3 { s3 with heap:=s3.heap.push { cls:=.type "slice",data:=.fields #[vl,vu,.none] } }:=I3.kept (t':=s3.toks) fun b ob q=>AC _ q
 obtain⟨T,id,hT,ht,hg⟩:=hr pins { s3 with heap:=s3.heap.push { cls:=.type "slice",data:=.fields #[vl,vu,.none] } } σ H3 x v vl vu l u s3.heap.objs.size Q I4 r1 (Heap.IsSliceOf.new ..) pl pu q3
 show wpAny (model X.prog X.w) X.A (subscriptTail e (.Slice lo hi none p2) v (.ref s3.heap.objs.size)) (EP X pins σ Q) X.xe { s3 with heap:=s3.heap.push { cls:=.type "slice",data:=.fields #[vl,vu,.none] } }
 exact tail_any (ops:=[.ref s3.heap.objs.size,v]) ht hT hg (by with_unfolding_all rfl)
def Zk (xs:List V) (lo hi:Option Int):List V:=(xs.drop (HT.sIx xs.length 0 lo)).take (HT.sIx xs.length xs.length hi - HT.sIx xs.length 0 lo)
theorem QC (xs:List V) (lo hi:Option Int):(Zk xs lo hi).length<=xs.length:=by
 unfold Zk
 rw[Ae,CW]
 omega
def rSlT (K:Fs):V->Option Int->Option Int->Hp->VK->Prop:=fun x lo hi H Q=>∃ a xs,x=.ref a/\SqT K H a xs /\
 ¬ (HT.sIx xs.length 0 lo=0/\HT.sIx xs.length xs.length hi=xs.length)/\∀ p,H p=none->Q (.ref p) (upd H p (.tup (Zk xs lo hi)))
theorem sl_tup:SlR X (rSlT X.K):=by
 intro pins s σ H x v vl vu lo hi sl Q I rx hs pl pu h
 obtain⟨a,xs,rfl,hx,hw,q⟩:=h
 cases rx
 obtain⟨its,r,ht,hz⟩:=I.tuple hx
 have hlen:its.toArray.size=xs.length:=by rw[Aa];exact r.length.symm
 refine⟨"tuple",_,BT.lookup,ht.typeIs,?_⟩
 refine HT.getItem_tuple_cut ht hs pl pu (by rw[hlen];exact hw) ?_ (by rw[hlen];exact hz)
 rw[hlen]
 refine⟨.ref s.heap.objs.size,_,I.laid (t':=s.toks) (o:=.tup (Zk xs lo hi)) (fun b ob q=>AC _ q) (AG _) ?_,rfl,q _ (I.hok.fresh (AG _))⟩
 exact⟨Aq (QC xs lo hi) hz,_,(r.drop (HT.sIx xs.length 0 lo)).take (HT.sIx xs.length xs.length hi - HT.sIx xs.length 0 lo),Ys.new _ _⟩
def rCatT (K:Fs):R2:=fun x y H Q=>∃ a b xs ys,x=.ref a/\y=.ref b/\SqT K H a xs/\SqT K H b ys/\xs ≠ []/\xs.length+ys.length<=sizeLine /\
 (ys=[]->Q (.ref a) H)/\(ys ≠ []->∀ p,H p=none->Q (.ref p) (upd H p (.tup (xs++ys))))
theorem qi.nil_iff {xs:List V} {us:List Value} (r:qi xs us):us=[] ↔ xs=[]:=by
 cases r with
 | nil=>simp
 | cons _ _=>simp
theorem op_catT:OpR X (binaryOp .Add) (rCatT X.K):=by
 intro pins s σ H x y v u Q I rx ry h
 obtain⟨a,b,xs,ys,rfl,rfl,ha,hb,hx,hz,q1,q2⟩:=h
 cases rx
 cases ry
 obtain⟨its,r1,p1,_⟩:=I.tuple ha
 obtain⟨its2,r2,p2,_⟩:=I.tuple hb
 refine HT.cat_tup p1 p2 (fun z=>hx (r1.nil_iff.mp z)) (fun z=>⟨.ref a,H,I,rfl,q1 (r2.nil_iff.mp z)⟩) (fun z=>?_) (by rw[<- r1.length,<- r2.length];exact hz)
 refine⟨.ref s.heap.objs.size,_,I.laid (t':=s.toks) (o:=.tup (xs++ys)) (fun b ob q=>AC _ q) (AG _) ?_,rfl,q2 (fun w=>z (r2.nil_iff.mpr w)) _ (I.hok.fresh (AG _))⟩
 exact⟨by rw[AI];exact hz,_,r1.append r2,Ys.new _ _⟩
end
def ixN (n:Nat) (i:Int):Option Nat:=if 0<=i then (if i < n then some i.toNat else none) else if -(n:Int)<=i then some (i+n).toNat else none
def atI {α:Type} (xs:List α) (i:Int):Option α:=(ixN xs.length i).bind fun j=>xs[j]?
theorem YO {n:Nat} {i:Int} {j:Nat} (h:ixN n i=some j):seqIndex? i n=some j/\j < n /\ -(n:Int)<=i/\i < n:=by
 unfold ixN at h
 by_cases h0:0<=i
 ·rw[if_pos h0] at h
  by_cases h1:i < n
  ·rw[if_pos h1] at h
   have e:i.toNat=j:=AH h
   exact⟨by rw[seqIndex_of h0 h1,e],by omega,by omega,h1⟩
  ·rw[if_neg h1] at h;cases h
 ·rw[if_neg h0] at h
  by_cases h1:-(n:Int)<=i
  ·rw[if_pos h1] at h
   have e:(i+n).toNat=j:=AH h
   exact⟨by rw[seqIndex_neg (by omega) h1,e],by omega,h1,by omega⟩
  ·rw[if_neg h1] at h;cases h
theorem Wu {α:Type} {xs:List α} {i:Int} {v:α} (h:atI xs i=some v):∃ j,seqIndex? i xs.length=some j/\xs[j]? = some v/\j < xs.length /\ -(xs.length:Int)<=i/\i < xs.length:=by
 unfold atI at h
 cases e:ixN xs.length i with
 | none=>rw[e] at h;cases h
 | some j=>
  rw[e] at h
  obtain⟨h1,h2,h3,h4⟩:=YO e
  exact⟨j,h1,h,h2,h3,h4⟩
theorem qu {α:Type} {xs:List α} {j:Nat} {v:α} (h:xs[j]? = some v):atI xs (j:Int)=some v:=by
 have hj:j < xs.length:=(AE.mp h).1
 have e:ixN xs.length (j:Int)=some j:=by
  unfold ixN
  rw[if_pos (by omega),if_pos (by omega)];simp
 unfold atI;rw[e];exact h
theorem atI_last {α:Type} (xs:List α) (v:α):atI (xs++[v]) (-1)=some v:=by
 have hl:(xs++[v]).length=xs.length+1:=by simp
 have e:ixN (xs++[v]).length (-1)=some xs.length:=by
  unfold ixN
  rw[hl,if_neg (by decide),if_pos (by omega)]
  congr 1
  omega
 unfold atI
 rw[e]
 show (xs++[v])[xs.length]? = some v
 simp
def PlainIx (b:Expr):Prop:=∀ o i,subscripted b false o i=operate [o,i] (getItem o i)
def IxR (X:Cx) (r:R2):Prop:=
 ∀ (value slice:Expr) (pins:List (Addr×Obj)) (s:Shared) (σ:St) (H:Hp) (x y:V) (v u:Value) (Q:VK),Inv X pins σ H s->RelV x v->RelV y u->r x y H Q ->
  subscripted slice false v u=operate [v,u] (getItem v u)->wpAny (model X.prog X.w) X.A (subscriptTail value slice v u) (EP X pins σ Q) X.xe s
def MtR (X:Cx) (id:String) (r:V->List V->Hp->VK->Prop):Prop:=
 ∀ (pins:List (Addr×Obj)) (s:Shared) (σ:St) (H:Hp) (x:V) (xs:List V) (v:Value) (us:List Value) (Q:VK),Inv X pins σ H s->RelV x v->qi xs us->r x xs H Q ->
  wpAny (model X.prog X.w) X.A (call (.builtin id) (v :: us)) (EP X pins σ Q) X.xe s
section
variable {X:Cx} {a b:Expr} {ta tb:TE} {pos:Pos}
theorem IxR.or {r r':R2} (h:IxR X r) (h':IxR X r'):IxR X (fun x y H Q=>r x y H Q\/r' x y H Q):=by
 intro value slice pins s σ H x y v u Q I rx ry q hs
 rcases q with q | q
 ·exact h value slice pins s σ H x y v u Q I rx ry q hs
 ·exact h' value slice pins s σ H x y v u Q I rx ry q hs
theorem zO {r:R2} (hr:IxR X r) (ha:PE X a ta) (hb:PE X b tb) (hs:PlainIx b):PE X (.Subscript a b pos) (tOp r ta tb):=by
 intro pins s σ H Q I h
 exact Subscript_ (binT ha hb I h fun v u s2 x y H2 I2 rx ry q=>hr a b pins s2 σ H2 x y v u Q I2 rx ry q (hs _ _))
def rIxL (K:Fs):R2:=fun x y H Q=>∃ p xs i v,x=.ref p/\y=.int i/\SqL K H p xs/\atI xs i=some v/\Q v H
def rIxT (K:Fs):R2:=fun x y H Q=>∃ p xs i v,x=.ref p/\y=.int i/\SqT K H p xs/\atI xs i=some v/\Q v H
def rIxS:R2:=fun x y H Q=>∃ z i c,x=.str z/\y=.int i/\z.length<=sizeLine/\atI z.cps.toList i=some c/\Q (.str ⟨#[c]⟩) H
theorem ix_list:IxR X (rIxL X.K):=by
 intro value slice pins s σ H x y v u Q I rx ry h hs
 obtain⟨p,xs,i,z,rfl,rfl,hq,he,q⟩:=h
 cases rx
 obtain⟨t,rfl⟩:=ry
 obtain⟨its,r,pl,hz⟩:=I.list hq
 obtain⟨j,h1,h2,h3,h4,h5⟩:=Wu he
 obtain⟨w,ew,rw'⟩:=r.get h2
 have hl:=r.length
 have hn:=wj
 have fin:EP X pins σ Q w s:=⟨z,H,I,rw',q⟩
 by_cases h0:0<=i
 ·have hj:i.toNat=j:=by
   rw[seqIndex_of h0 h5] at h1
   exact AH h1
  exact item_listR pl.isList h0 (by omega) (by rw[hj];simpa using ew) fin hs
 ·have hj:(i+(its.toArray.size:Int)).toNat=j:=by
   rw[seqIndex_neg (by omega) h4] at h1
   rw[Aa,<- hl]
   exact AH h1
  exact subscriptTail_builtinR (x:=w) pl.isList.typeIs slot_list_getitem.lookup
   (wpAny_getItem_list_neg (Q:=fun r s'=>r=w/\EP X pins σ Q r s') pl.isList (by omega) (by rw[Aa] <;> omega) (by omega) (by rw[hj];simpa using ew) ⟨rfl,fin⟩) hs
theorem ix_tup:IxR X (rIxT X.K):=by
 intro value slice pins s σ H x y v u Q I rx ry h hs
 obtain⟨p,xs,i,z,rfl,rfl,hq,he,q⟩:=h
 cases rx
 obtain⟨t,rfl⟩:=ry
 obtain⟨its,r,pl,hz⟩:=I.tuple hq
 obtain⟨j,h1,h2,h3,h4,h5⟩:=Wu he
 obtain⟨w,ew,rw'⟩:=r.get h2
 have hl:=r.length
 have hn:=wj
 have fin:EP X pins σ Q w s:=⟨z,H,I,rw',q⟩
 exact subscriptTail_builtinR (x:=w) pl.typeIs slot_tuple_getitem.lookup
  (getItem_tuple (j:=j) (Q:=fun r s'=>r=w/\EP X pins σ Q r s') pl (by omega) (by omega) (by rw[Aa,<- hl];exact h1) (by simpa using ew) ⟨rfl,fin⟩) hs
theorem ix_str:IxR X rIxS:=by
 intro value slice pins s σ H x y v u Q I rx ry h hs
 obtain⟨z,i,c,rfl,rfl,hz,he,q⟩:=h
 obtain⟨t,rfl⟩:=rx
 obtain⟨t',rfl⟩:=ry
 obtain⟨j,h1,h2,h3,h4,h5⟩:=Wu he
 have hl:z.cps.toList.length=z.length:=by simp[Str.length]
 rw[hl] at h1 h4 h5
 have hn:=wj
 exact tail_any (typeIs_str s z t) slot_str_getitem.lookup (getItem_str (c:=c) (by
  have e1:decide (i < -(2 ^ 63:Int))=false:=AY (by omega)
  have e2:decide (i ≥ 2 ^ 63)=false:=AY (by omega)
  rw[e1,e2,Bool.or_false]) (by rw[h1];simpa using h2) ⟨.str ⟨#[c]⟩,H,I.tok _,⟨_,rfl⟩,q⟩) hs
def rIx (K:Fs):R2:=fun x y H Q=>rIxL K x y H Q\/rIxT K x y H Q\/rIxS x y H Q
theorem ix_seq:IxR X (rIx X.K):=ix_list.or (ix_tup.or ix_str)
theorem yV (its:List Value) (n j:Nat) (u:Value):Obj.mapSeq (·.setIfInBounds j u) { cls:=.type "list",data:=.seq its.toArray n } = { cls:=.type "list",data:=.seq (its.set j u).toArray n }:=by
 simp[Obj.mapSeq]
theorem Inv.lst {pins:List (Addr×Obj)} {σ:St} {H:Hp} {s:Shared} {p:Addr} {xs:List V} (I:Inv X pins σ H s) (h:H p=some (.lst xs)) :
  ∃ (its:List Value) (n:Nat),qi xs its/\s.heap.get? p=some { cls:=.type "list",data:=.seq its.toArray n }/\xs.length<=sizeLine:=by
 obtain⟨z,its,n,r,e⟩:=I.hok p _ h
 exact⟨its,n,r,e,z⟩
theorem Inv.lstUpd {pins:List (Addr×Obj)} {σ:St} {H:Hp} {s:Shared} {p:Addr} {xs ys:List V} {its its':List Value} {n n':Nat} {f:Obj->Obj} (I:Inv X pins σ H s) (h:H p=some (.lst xs))
  (ho:s.heap.get? p=some { cls:=.type "list",data:=.seq its.toArray n }) (hf:f { cls:=.type "list",data:=.seq its.toArray n } = { cls:=.type "list",data:=.seq its'.toArray n' }) (r:qi ys its') (hz:ys.length<=sizeLine) (t:Nat) :
  Inv X pins σ (upd H p (.lst ys)) { s with heap:=s.heap.update p f,toks:=t }:=by
 have e:(s.heap.update p f).get? p=some { cls:=.type "list",data:=.seq its'.toArray n' }:=by
  rw[A8 f ho (by rw[hf] <;> rfl),hf]
 refine I.write (x:=p) (e:=p) (by rw[h];trivial) (.inl rfl) (fun b u hb q=>(A0 _ _ (Af hb)).trans q) ⟨_,e⟩ ?_
 exact⟨hz,its',n',r,e⟩
def rSetL:V->V->V->Hp->(Hp->Prop)->Prop:=fun o i v H Q=>∃ p xs k j,o=.ref p/\i=.int k/\H p=some (.lst xs)/\ixN xs.length k=some j/\Q (upd H p (.lst (xs.set j v)))
theorem ym:PSet X rSetL:=by
 intro pins s σ H o i v ov iv u Q I ro ri rv h
 obtain⟨p,xs,k,j,rfl,rfl,hp,hj,q⟩:=h
 cases ro
 obtain⟨t,rfl⟩:=ri
 obtain⟨its,n,r,ho,hz⟩:=I.lst hp
 obtain⟨h1,h2,h3,h4⟩:=YO hj
 have hl:=r.length
 have hn:=wj
 have I':Inv X pins σ (upd H p (.lst (xs.set j v))) { s with heap:=s.heap.update p (Obj.mapSeq (·.setIfInBounds j u)) }:=
  I.lstUpd hp ho (yV its n j u) (r.set rv j) (by rw[List.length_set];exact hz) s.toks
 by_cases h0:0<=k
 ·have hk:k.toNat=j:=by
   rw[seqIndex_of h0 h4] at h1
   exact AH h1
  exact PySem.W.ki_setAt ho h0 (by omega) (by rw[Aa,<- hl];exact h4) (by rw[hk];exact⟨_,I',q⟩)
 ·have hk:(k+(its.toArray.size:Int)).toNat=j:=by
   rw[seqIndex_neg (by omega) h3] at h1
   rw[Aa,<- hl]
   exact AH h1
  exact PySem.W.ki_setBack ho (by omega) (by rw[Aa,<- hl];exact h3) (by omega) (by rw[hk];exact⟨_,I',q⟩)
theorem ww (lo hi:Option Int) (n:Nat):(sliceBounds lo hi none n).1=((HT.sIx n 0 lo:Nat):Int)/\(sliceBounds lo hi none n).2.1=((HT.sIx n n hi:Nat):Int)/\(sliceBounds lo hi none n).2.2=1:=by
 refine⟨?_,?_,rfl⟩
 ·cases lo with
  | none=>simp[sliceBounds,HT.sIx]
  | some i=>
   simp only[sliceBounds,HT.sIx,Option.getD_none,show (1:Int) > 0 by decide,if_true]
   by_cases h:i < 0
   ·simp only[h,if_true] <;> omega
   ·simp only[h,if_false] <;> omega
 ·cases hi with
  | none=>simp[sliceBounds,HT.sIx]
  | some i=>
   simp only[sliceBounds,HT.sIx,Option.getD_none,show (1:Int) > 0 by decide,if_true]
   by_cases h:i < 0
   ·simp only[h,if_true] <;> omega
   ·simp only[h,if_false] <;> omega
theorem JD (its:List Value) (lo hi:Option Int):slicePick its.toArray lo hi none=((its.drop (HT.sIx its.length 0 lo)).take (HT.sIx its.length its.length hi - HT.sIx its.length 0 lo)).toArray:=by
 obtain⟨h1,h2,h3⟩:=ww lo hi its.toArray.size
 unfold slicePick
 rw[h1,h2,h3]
 simp only[sliceRange_one,pick_run,List.size_toArray] <;> rfl
def rSlL (K:Fs):V->Option Int->Option Int->Hp->VK->Prop:=fun x lo hi H Q=>∃ a xs,x=.ref a/\SqL K H a xs/\∀ p,H p=none->Q (.ref p) (upd H p (.lst (Zk xs lo hi)))
theorem sl_list:SlR X (rSlL X.K):=by
 intro pins s σ H x v vl vu lo hi sl Q I rx hs pl pu h
 obtain⟨a,xs,rfl,hx,q⟩:=h
 cases rx
 obtain⟨its,r,ht,hz⟩:=I.list hx
 have hlen:=r.length
 refine⟨"list",_,slot_list_getitem.lookup,ht.isList.typeIs,?_⟩
 refine wpAny_getItem_list_slice ht.isList hs pl pu .none (by simp) ?_ (by rw[List.size_toArray] <;> omega)
 rw[JD,<- hlen]
 refine⟨.ref s.heap.objs.size,_,I.laid (t':=s.toks) (o:=.lst (Zk xs lo hi)) (fun b ob q=>AC _ q) (AG _) ?_,rfl,q _ (I.hok.fresh (AG _))⟩
 exact⟨Aq (QC xs lo hi) hz,_,0,(r.drop (HT.sIx xs.length 0 lo)).take (HT.sIx xs.length xs.length hi - HT.sIx xs.length 0 lo),AK _ rfl⟩
def Zm:V->Bool
 | .non=>true
 | .bl _=>true
 | .int _=>true
 | .str _=>true
 | _=>false
def eqV:V->V->Bool
 | .non,.non=>true
 | .bl a,.bl b=>a == b
 | .bl a,.int b=>(if a then 1 else 0) == b
 | .int a,.bl b=>a == (if b then 1 else 0)
 | .int a,.int b=>a == b
 | .str a,.str b=>a == b
 | _,_=>false
theorem YQ {A:Around} {s:Shared} {y x:V} {u v:Value} (ry:RelV y u) (rx:RelV x v) (fy:Zm y=true) (fx:Zm x=true):SeqAt.EqAt A s u v (eqV y x):=by
 cases y with
 | non=>
  cases ry
  cases x with
  | non=>cases rx;exact EB _
  | bl b=>cases rx;exact SeqAt.EqAt.none_bool b
  | int b=>obtain⟨t,rfl⟩:=rx;exact SeqAt.EqAt.none_int b t
  | str b=>obtain⟨t,rfl⟩:=rx;exact SeqAt.EqAt.none_str b t
  | _=>exact absurd (show false=true from fx) AX
 | bl a=>
  cases ry
  cases x with
  | non=>cases rx;exact SeqAt.EqAt.bool_none a
  | bl b=>cases rx;exact SeqAt.EqAt.bool_bool a b
  | int b=>obtain⟨t,rfl⟩:=rx;exact SeqAt.EqAt.bool_int a b t
  | str b=>obtain⟨t,rfl⟩:=rx;exact SeqAt.EqAt.bool_str a b t
  | _=>exact absurd (show false=true from fx) AX
 | int a=>
  obtain⟨t',rfl⟩:=ry
  cases x with
  | non=>cases rx;exact SeqAt.EqAt.int_none a t'
  | bl b=>cases rx;exact SeqAt.EqAt.int_bool a t' b
  | int b=>obtain⟨t,rfl⟩:=rx;exact SeqAt.EqAt.int_int a t' b t
  | str b=>obtain⟨t,rfl⟩:=rx;exact SeqAt.EqAt.int_str a t' b t
  | _=>exact absurd (show false=true from fx) AX
 | str a=>
  obtain⟨t',rfl⟩:=ry
  cases x with
  | non=>cases rx;exact SeqAt.EqAt.str_none a t'
  | bl b=>cases rx;exact SeqAt.EqAt.str_bool a t' b
  | int b=>obtain⟨t,rfl⟩:=rx;exact SeqAt.EqAt.str_int a t' b t
  | str b=>obtain⟨t,rfl⟩:=rx;exact SeqAt.EqAt.str_str a t' b t
  | _=>exact absurd (show false=true from fx) AX
 | _=>exact absurd (show false=true from fy) AX
theorem wx:qQ X (.type "list") (fun xs H Q=>∃ p ys,xs=[.ref p]/\(SqL X.K H p ys\/SqT X.K H p ys)/\∀ l,H l=none->Q (.ref l) (upd H l (.lst ys))):=by
 intro pins s σ H xs us Q I r h
 obtain⟨p,ys,rfl,hq,q⟩:=h
 obtain⟨u,rfl,rx⟩:=vals1 r
 cases rx
 have fin:∀ (its:List Value),qi ys its->ys.length<=sizeLine->∀ (h':Heap) (c':Nat),(∀ b o',s.heap.get? b=some o'->h'.get? b=some o') ->
   h'.get? s.heap.objs.size=some { cls:=.type "list",dict:=none,data:=.seq its.toArray c',slots:=#[] }->EP X pins σ Q (.ref s.heap.objs.size) { s with heap:=h' }:=fun its r' hz h' c' kp e=>
  ⟨.ref s.heap.objs.size,_,I.laid (t':=s.toks) kp (AG _) (show qd X.prog X.w _ h' _ (.lst ys) from⟨hz,its,c',r',e⟩),rfl,q _ (I.hok.fresh (AG _))⟩
 rcases hq with hq | hq
 ·obtain⟨its,r',pl,hz⟩:=I.list hq
  have hlen:=r'.length
  obtain⟨o,ho,hc,n,hd⟩:=pl.isList
  exact call_list_seq p (.inl rfl) ho hc hd (fun h' c' kp e=>fin its r' hz h' c' kp e) (by simp only[List.size_toArray] <;> omega)
 ·obtain⟨its,r',pl,hz⟩:=I.tuple hq
  have hlen:=r'.length
  obtain⟨o,ho,hc,n,hd⟩:=pl
  exact call_list_seq p (.inr rfl) ho hc hd (fun h' c' kp e=>fin its r' hz h' c' kp e) (by simp only[List.size_toArray] <;> omega)
theorem JE:qQ X (.type "tuple") (fun xs H Q=>∃ p ys,xs=[.ref p]/\((SqL X.K H p ys/\∀ l,H l=none->Q (.ref l) (upd H l (.tup ys)))\/(SqT X.K H p ys/\Q (.ref p) H))):=by
 intro pins s σ H xs us Q I r h
 obtain⟨p,ys,rfl,h⟩:=h
 obtain⟨u,rfl,rx⟩:=vals1 r
 cases rx
 rcases h with ⟨hq,q⟩ | ⟨hq,q⟩
 ·obtain⟨its,r',pl,hz⟩:=I.list hq
  have hlen:=r'.length
  refine call_tuple_list pl.isList (fun h' kp=>?_) (by simp only[List.size_toArray] <;> omega)
  have I1:Inv X pins σ H { s with heap:=h' }:=I.kept (t':=s.toks) kp
  have I2:Inv X pins σ (upd H h'.objs.size (.tup ys)) { s with heap:=h'.push { cls:=.type "tuple",data:=.seq its.toArray } }:=
   I1.laid (t':=s.toks) (fun b o e=>AC _ e) (AG _) (show qd X.prog X.w _ _ _ (.tup ys) from⟨hz,its,r',Ys.new _ _⟩)
  exact⟨.ref h'.objs.size,_,I2,rfl,q _ (I1.hok.fresh (AG _))⟩
 ·obtain⟨its,r',pl,hz⟩:=I.tuple hq
  exact call_tuple_same pl ⟨.ref p,H,I,rfl,q⟩
def tyV (K:Fs) (T:String) (x:V) (H:Hp):Prop:=match x with
 | .str _=>T = "str"
 | .int _=>T = "int"
 | .ref p=>(T = "list" /\ ∃ xs,SqL K H p xs)\/(T = "tuple" /\ ∃ o,K.lookup p=some o/\o.cls=.type "tuple" /\ o.dict=none) \/
   (T = "dict" /\ ((∃ kvs,H p=some (.dK kvs))\/∃ kvs,H p=some (.dT kvs)))\/(T = "set" /\ ∃ S n,H p=some (.set S n))\/(T = "tuple" /\ ∃ xs,H p=some (.tup xs))
 | _=>False
theorem YR {pins:List (Addr×Obj)} {σ:St} {H:Hp} {s:Shared} {T:String} {x:V} {v:Value} (I:Inv X pins σ H s) (r:RelV x v) (ty:tyV X.K T x H) :
  s.TypeIs v T/\∀ a,v=.ref a->∃ ob,s.heap.get? a=some ob/\ob.dict=none:=by
 cases x with
 | str z=>
  obtain⟨t,rfl⟩:=r
  cases (show T = "str" from ty)
  exact⟨typeIs_str s z t,fun _ e=>nomatch e⟩
 | int i=>
  obtain⟨t,rfl⟩:=r
  cases (show T = "int" from ty)
  exact⟨Cz s i t,fun _ e=>nomatch e⟩
 | ref p=>
  cases r
  rcases ty with ⟨rfl,xs,hq⟩ | ⟨rfl,o,hk,hc,hd⟩ | ⟨rfl,hk⟩ | ⟨rfl,S,n,hk⟩ | ⟨rfl,xs,hk⟩
  rotate_left 4
  ·obtain⟨_,its,_,o,e,c,_,hd⟩:=I.hok p _ hk
   exact⟨⟨o,e,c⟩,fun a e2=>by cases e2;exact⟨o,e,hd⟩⟩
  ·obtain⟨its,_,pl,_⟩:=I.list hq
   refine⟨pl.isList.typeIs,fun a e=>?_⟩
   cases e
   obtain⟨o,n,e,c,hd,_⟩:=pl
   exact⟨o,e,hd⟩
  ·refine⟨⟨o,I.kIn p o hk,hc⟩,fun a e=>?_⟩
   cases e
   exact⟨o,I.kIn _ o hk,hd⟩
  ·have z:∃ o,s.heap.get? p=some o/\o.ExactDict:=by
    rcases hk with ⟨kvs,hk⟩ | ⟨kvs,hk⟩
    ·obtain⟨_,_,_,_,o,_,_,e,ex,_⟩:=I.hok p _ hk
     exact⟨o,e,ex⟩
    ·obtain⟨_,_,_,_,o,_,_,e,ex,_⟩:=I.hok p _ hk
     exact⟨o,e,ex⟩
   obtain⟨o,e,ex⟩:=z
   refine⟨⟨o,e,ex.1⟩,fun a e2=>?_⟩
   cases e2
   exact⟨o,e,ex.2.1⟩
  ·obtain⟨o,_,_,_,e,ex,_⟩:=I.hok p _ hk
   refine⟨⟨o,e,ex.1⟩,fun a e2=>?_⟩
   cases e2
   exact⟨o,e,ex.2.1⟩
 | _=>exact False.elim ty
def tBM0 (K:Fs) (T:String) (r:V->List V->Hp->VK->Prop) (to:TE):TE:=fun σ H Q=>to σ H fun x H1=>tyV K T x H1/\r x [] H1 Q
def tBM (K:Fs) (T:String) (r:V->List V->Hp->VK->Prop) (to:TE) (t:TA):TE:=fun σ H Q=>to σ H fun x H1=>tyV K T x H1/\t σ H1 fun xs H2=>r x xs H2 Q
variable {o e:Expr} {es:List Expr} {to:TE} {t:TA} {name:Str} {apos cpos:Pos} {T id:String} {r:V->List V->Hp->VK->Prop}
theorem pe_bm0 (pa:PlainAttrs T) (slot:Slot T name id) (hty:typeOf (.builtin id)=pure (.type "method_descriptor")) (hm:MtR X id r) (ho:PE X o to)
  (hbase:attributeBase o name X.env (eval o X.env)=eval o X.env:=by rfl) (hline:(apos.endLine == cpos.line)=true:=by rfl):PE X (.Call (.Attribute o name apos) [] [] cpos) (tBM0 X.K T r to):=by
 intro pins s σ H Q I h
 refine wpAny_Call_method0_late hbase hline (thn (ho pins s σ H _ I h) fun v s1 ⟨x,H1,I1,r1,ty,q1⟩=>?_)
 obtain⟨h1,h2⟩:=YR I1 r1 ty
 exact⟨T,id,pa,slot,hty,h1,h2,D7 rfl (PySem.evalArgs_none (hm pins s1 σ H1 x [] v [] Q I1 r1 .nil q1))⟩
theorem pe_bm (pa:PlainAttrs T) (slot:Slot T name id) (hty:typeOf (.builtin id)=pure (.type "method_descriptor")) (hm:MtR X id r) (ho:PE X o to) (ha:PA X (e :: es) t)
  (hbase:attributeBase o name X.env (eval o X.env)=eval o X.env:=by rfl)
  (hfew:((backTo cpos (starEach (e :: es) X.env)).all (fun x=>!x.1) && (backToKw cpos (keywordEach [] X.env)).all (fun x=>x.1.isSome)
   && decide ((e :: es).length+([]:List Keyword).length+(if ([]:List Keyword).isEmpty then 0 else 1) < 30))=true:=by rfl)
  (hline:(apos.endLine == cpos.line)=true:=by rfl) (hs:starEach (e :: es) X.env=(false,eval e X.env) :: starEach es X.env:=by rfl) (hplain:(backTo cpos (starEach es X.env)).any (·.1)=false:=by rfl) :
  PE X (.Call (.Attribute o name apos) (e :: es) [] cpos) (tBM X.K T r to t):=by
 intro pins s σ H Q I h
 refine wpAny_Call_method_late hbase hfew hline rfl (thn (ho pins s σ H _ I h) fun v s1 ⟨x,H1,I1,r1,ty,q1⟩=>?_)
 obtain⟨h1,h2⟩:=YR I1 r1 ty
 refine⟨T,id,pa,slot,hty,h1,h2,?_⟩
 have hA:=ha cpos pins s1 σ H1 _ I1 q1
 rw[hs] at hA ⊢
 refine D7 (by show (false || (backTo cpos (starEach es X.env)).any (·.1))=false;rw[hplain] <;> rfl) (Calls.evalArgs_plain ?_)
 exact thn hA fun us s2 ⟨vs,H2,I2,r2,q2⟩=>hm pins s2 σ H2 x vs v us Q I2 r1 r2 q2
/- xs.append(e),list.index on a module's tuple .. are MtR facts of 06m -/
end
def MtM (X:Cx) (id:String) (r:V->List V->Hp->VK->Prop):Prop:=
 ∀ (pins:List (Addr×Obj)) (s:Shared) (σ:St) (H:Hp) (x:V) (xs:List V) (v:Value) (us:List Value) (Q:VK),Inv X pins σ H s->RelV x v->qi xs us->r x xs H Q ->
  wpAny (model X.prog X.w) X.A (call (.builtin id) (v :: us)) (EP X pins σ Q) X.xe s
theorem qi.one:∀ {x:V} {us:List Value},qi [x] us->∃ u,us=[u]/\RelV x u
 | _,_,.cons r .nil=>⟨_,rfl,r⟩
theorem qi.zero:∀ {us:List Value},qi [] us->us=[]
 | _,.nil=>rfl
theorem qi.dropLast {xs:List V} {us:List Value} (h:qi xs us):qi xs.dropLast us.dropLast:=by
 induction h with
 | nil=>exact .nil
 | cons r t ih=>
  cases t with
  | nil=>exact .nil
  | cons q t'=>exact .cons r ih
theorem qi.rep {xs:List V} {us:List Value} (h:qi xs us):∀ k:Nat,qi (List.replicate k xs).flatten (List.replicate k us).flatten
 | 0=>.nil
 | k+1=>by
  rw[By,By,DU,DU]
  exact qi.append h (qi.rep h k)
theorem yW {α:Type} (l:List α):l.eraseIdx (l.length - 1)=l.dropLast:=by
 induction l with
 | nil=>rfl
 | cons a r ih=>
  cases r with
  | nil=>rfl
  | cons b r=>
   have e:(a :: b :: r).length - 1=((b :: r).length - 1)+1:=by
    have h1:(a :: b :: r).length=r.length+2:=rfl
    have h2:(b :: r).length=r.length+1:=rfl
    omega
   rw[e,List.eraseIdx_cons_succ,ih]
   all_goals rfl
theorem QD (its:List Value):∀ (k:Nat) (acc:List Value),
  List.foldl (fun x1 x2=>x1++x2) acc.toArray (List.replicate k its.toArray)=(acc++(List.replicate k its).flatten).toArray
 | 0,acc=>by simp
 | k+1,acc=>by
  have e:acc.toArray++its.toArray=(acc++its).toArray:=by simp
  have e2:(acc++its)++(List.replicate k its).flatten=acc++(List.replicate (k+1) its).flatten:=by
   rw[By,DU,Ag]
  rw[<- e2,<- QD its k (acc++its),<- e,By,Bx]
section
variable {X:Cx} {pins:List (Addr × Obj)} {σ:St} {H:Hp} {s:Shared} {l b:Addr} {xs ys zs:List V}
theorem Inv.lset {its its':List Value} {n:Nat} {f:Array Value->Array Value} {t':Nat} (I:Inv X pins σ H s) (hH:H l=some (.lst xs))
  (e:s.heap.get? l=some { cls:=.type "list",data:=.seq its.toArray n }) (hf:f its.toArray=its'.toArray) (hv:qi ys its') (hz:ys.length<=sizeLine) :
  Inv X pins σ (upd H l (.lst ys)) { s with heap:=s.heap.update l (Obj.mapSeq f),toks:=t' }:=by
 have q:=PySem.IsL.update e f
 rw[hf] at q
 refine I.write (x:=l) (e:=l) (by rw[hH];exact trivial) (.inl rfl) (fun b' u hb hu=>(A0 s.heap (Obj.mapSeq f) (Af hb)).trans hu) ⟨_,q⟩ ?_
 exact⟨hz,its',_,hv,q⟩
theorem Inv.lnew {its:List Value} {t':Nat} (I:Inv X pins σ H s) (hv:qi ys its) (hz:ys.length<=sizeLine) :
  Inv X pins σ (upd H s.heap.objs.size (.lst ys)) { s with heap:=s.heap.push { cls:=.type "list",data:=.seq its.toArray },toks:=t' }:=
 I.laid (fun _ _ q=>AC _ q) (AG _) ⟨hz,its,0,hv,AK _ rfl⟩
theorem Inv.fresh (I:Inv X pins σ H s):H s.heap.objs.size=none:=I.hok.fresh (AG _)
theorem Inv.lstM (I:Inv X pins σ H s) (hH:H l=some (.lst xs)):xs.length<=sizeLine/\∃ (its:List Value) (n:Nat),qi xs its/\xs.length=its.length/\s.heap.get? l=some { cls:=.type "list",data:=.seq its.toArray n }:=by
 obtain⟨z,its,n,r,e⟩:=I.hok l _ hH
 exact⟨z,its,n,r,r.length,e⟩
theorem notLongL {n:Nat} (h:n<=sizeLine):Builtin.List.listTooLong n=false:=by
 unfold Builtin.List.listTooLong
 exact AY (by omega)
end
section
variable {X:Cx}
def rAppend:V->List V->Hp->VK->Prop:=fun x vs H Q=>∃ l xs y,x=.ref l/\vs=[y]/\H l=some (.lst xs)/\xs.length < sizeLine/\Q .non (upd H l (.lst (xs++[y])))
theorem qG:MtM X "list.append" rAppend:=by
 intro pins s σ H x vs v us Q I rx rv h
 obtain⟨l,xs,y,rfl,rfl,hH,hz,q⟩:=h
 cases rx
 obtain⟨u,rfl,ru⟩:=rv.one
 obtain⟨z,its,n,r,hl,e⟩:=I.lstM hH
 refine Bs F.slot_list_append ⟨_,e,rfl⟩ F.entry_list_append (F.args_list_append_2 _ _) (PySem.list_append l its.toArray n u (by rw[Aa];omega)) ⟨e,?_⟩
 refine⟨.non,_,I.lset (its':=its++[u]) hH e (by simp) (r.append (.cons ru .nil)) ?_,rfl,q⟩
 rw[AI,List.length_singleton]
 omega
def rExtend:V->List V->Hp->VK->Prop:=fun x vs H Q=>∃ l b xs zs,x=.ref l/\vs=[.ref b]/\H l=some (.lst xs)/\H b=some (.lst zs)/\xs.length+zs.length<=sizeLine/\Q .non (upd H l (.lst (xs++zs)))
theorem ZS:MtM X "list.extend" rExtend:=by
 intro pins s σ H x vs v us Q I rx rv h
 obtain⟨l,b,xs,zs,rfl,rfl,hH,hB,hz,q⟩:=h
 cases rx
 obtain⟨u,rfl,ru⟩:=rv.one
 cases ru
 obtain⟨z,its,n,r,hl,e⟩:=I.lstM hH
 obtain⟨z2,its2,n2,r2,hl2,e2⟩:=I.lstM hB
 have hsz:its.toArray.size+its2.toArray.size<=sizeLine:=by rw[Aa,Aa];omega
 have hlong:¬ (!its.toArray.isEmpty && Builtin.List.listTooLong (its.toArray.size+its2.toArray.size))=true:=by
  rw[notLongL hsz,Bool.and_false]
  exact AX
 refine Bs F.slot_list_extend ⟨_,e,rfl⟩ F.entry_list_extend (F.args_list_extend_2 _ _)
  (AutoSeq1.list_extend_list_list_0 l its.toArray n b its2.toArray n2 hlong (by rw[Aa];omega) (by omega)) ⟨e,e2,?_⟩
 refine⟨.non,_,I.lset (its':=its++its2) hH e (by simp) (r.append r2) ?_,rfl,q⟩
 rw[AI]
 omega
def rPop:V->List V->Hp->VK->Prop:=fun x vs H Q=>∃ l xs y,x=.ref l/\vs=[]/\H l=some (.lst xs)/\xs[xs.length - 1]? = some y/\Q y (upd H l (.lst xs.dropLast))
theorem mt_pop:MtM X "list.pop" rPop:=by
 intro pins s σ H x vs v us Q I rx rv h
 obtain⟨l,xs,y,rfl,rfl,hH,hy,q⟩:=h
 cases rx
 have hus:=rv.zero
 subst hus
 obtain⟨z,its,n,r,hl,e⟩:=I.lstM hH
 obtain⟨u,hu,ru⟩:=r.get hy
 have hy':its.toArray[its.toArray.size - 1]? = some u:=by
  show its.toArray[its.length - 1]? = some u
  rw[<- AZ,<- hl]
  exact hu
 refine Bs F.slot_list_pop ⟨_,e,rfl⟩ F.entry_list_pop (F.args_list_pop_1 _) (MeetsSeq.list_pop_last l its.toArray n u hy' (by rw[Aa];omega)) ⟨e,?_⟩
 refine⟨y,_,I.lset (its':=its.dropLast) hH e ?_ r.dropLast ?_,ru,q⟩
 ·show its.toArray.eraseIdxIfInBounds (its.toArray.size - 1)=its.dropLast.toArray
  rw[Aa,List.eraseIdxIfInBounds_toArray,yW]
 ·rw[List.length_dropLast]
  omega
def rCat:R2:=fun x y H Q=>∃ l b xs zs,x=.ref l/\y=.ref b/\H l=some (.lst xs)/\H b=some (.lst zs)/\xs.length+zs.length<=sizeLine/\∀ p,H p=none->Q (.ref p) (upd H p (.lst (xs++zs)))
theorem wy:OpR X (binaryOp .Add) rCat:=by
 intro pins s σ H x y v u Q I rx ry h
 obtain⟨l,b,xs,zs,rfl,rfl,hH,hB,hz,q⟩:=h
 cases rx
 cases ry
 obtain⟨z,its,n,r,hl,e⟩:=I.lstM hH
 obtain⟨z2,its2,n2,r2,hl2,e2⟩:=I.lstM hB
 refine PySem.P.add_list e e2 ?_ (by rw[Aa,Aa];omega)
 have ea:its.toArray++its2.toArray=(its++its2).toArray:=by simp
 rw[ea]
 exact⟨.ref _,_,I.lnew (t':=s.toks) (r.append r2) (by rw[AI];omega),rfl,q _ I.fresh⟩
theorem YS {α:Type} (xs:List α) (k:Nat):(List.replicate k xs).flatten.length=k * xs.length:=by
 induction k with
 | zero=>simp
 | succ k ih=>rw[By,DU,AI,ih,Nat.succ_mul,Nat.add_comm]
end
section
variable {prog:Program} {w:World} {A:Around} {E:Value->Shared->Prop} {s:Shared}
set_option maxRecDepth 100000 in
end
section
variable {X:Cx}
end
end L2
namespace Att
open PySem PySem.W PySem.Calls PyProof.Rows
theorem ints_of_wellAll {P:Params} {h:Heap}:∀ (ns:List Int) (vs:List Value),WellAll P h vs (ns.map WData.int)->IntsAre vs ns:=by
 intro ns
 induction ns with
 | nil=>
  intro vs w
  rw[EX] at w
  cases w
  exact .nil
 | cons n ns ih=>
  intro vs w
  rw[Ai] at w
  cases w with
  | cons a b=>
   cases a
   exact .cons _ _ (ih _ b)
theorem script_of {l:OpenLaw} {n:Nat} (hn:l.most=some n) {P:Params} {h:Heap} {args:List WData} {vals:List Value}
  (hpre:l.row.toRowW.claim.pre args=true) (hwl:WellAll P h vals args) :
  ∃ a vs ns,vals=[Value.ref a]/\args=[WData.list (ns.map WData.int)]/\h.get? a=some { cls:=.type "list",data:=.seq vs.toArray }/\IntsAre vs ns/\ns.length<=n:=by
 have hsh:WShape.hasAll [] args [.list .int]=true:=(pre_splitW hpre).1
 have hc:l.pre.holds [] { args:=args } = true:=(pre_splitW hpre).2
 obtain⟨d,r,rfl,h1,h2⟩:=hasAllW_cons hsh
 obtain rfl:=hasAllW_nil h2
 obtain⟨xs,rfl,h3⟩:=hasW_list h1
 obtain⟨ns,rfl⟩:=items_int h3
 have hlen:ns.length<=n:=by
  unfold OpenLaw.pre at hc
  have h4:(WTm.not (.lt (.lit (.int (n:Int))) (.len (.arg 0)))).holds [] { args:=[.list (ns.map .int)] } = true:=by
   have h4:=(holds_andW hc).1
   rw[hn] at h4
   exact h4
  have h5:=condW_of h4 (w_not (w_lt w_lit (w_len_list (w_arg rfl))))
  rw[AB] at h5
  refine Nat.le_of_not_lt fun q=>?_
  have q':(n:Int) < ((ns.length:Nat):Int):=by omega
  first
   | (rw[Ak q'] at h5;exact absurd h5 (by decide))
   | (simp at h5;omega)
 cases hwl with
 | cons w1 w2=>
  cases w2
  cases w1 with
  | list ho hall=>exact⟨_,_,ns,rfl,rfl,ho,ints_of_wellAll ns _ hall,hlen⟩
theorem post_true (l:OpenLaw) (args:List WData):l.row.toRowW.claim.post args (.bool true) args=true:=
 postW_of (r:=l.row.toRowW) (X:=(true == true))
  (show WShape.has [] (.bool true) .bool=true by first | rfl | decide | simp[WShape.has,WShape.arms,WShape.armsAll])
  (show (WTm.eq .res (.lit (.bool true))).value [] { args:=args,res:=some (.bool true),after:=args } = some (.bool (true == true)) from w_eq_bool (w_res rfl) w_lit) rfl
theorem attach_call {l:OpenLaw} {n:Nat} {q:Program} {loose:List Str} {XP:(Str->Option Value)->Heap->Prop} {YP:World->Heap->Prop} {d:DefRec}
  (hn:l.most=some n) (hdf:d.params.defaults=[])
  (call:∀ (w:World) (s₀ s₁:Shared) (mg mb:Str->Option Value) (fa:Addr) (o:Obj) (pm cd doc:Value) (a:Addr) (vs:List Value) (ns:List Int),
   Ground q loose [] XP w s₀ mg mb s₁.heap->YP w s₁.heap ->
   s₁.heap.get? fa=some o->o.data=.func (docDef d.name d.params d.body d.scope pm cd doc)->s₁.heap.CodeRec cd d.name->mg d.name=some (.ref fa) ->
   s₁.heap.get? a=some { cls:=.type "list",data:=.seq vs.toArray }->IntsAre vs ns->ns.length<=n->s₁.gens = #[] ->
   codeAny (model l.prog w) callerA (.call (.ref fa) ⟨[.ref a],[]⟩) (fun r s'=>r=.ok (.ret (.bool true))/\OldK s₁.heap s'.heap/\s'.os=s₁.os/\AllBare s'.gens) s₁) :
  WalkO q loose XP YP l.row.toRowW d [] (fun f vs=>PySem.call f vs):=by
 intro w s₀ s₁ mg mb G Y fa o pm cd doc dV kV ho hd hcd hD hmg hg args vals as hpre hlay hrd hwl hlo
 obtain rfl:dV=.none:=Dflts.none hD hdf
 obtain rfl:kV=.none:=Dflts.noKw hD
 obtain⟨a,vs,ns,rfl,rfl,hobj,hints,hlen⟩:=script_of hn hpre hwl
 refine enter_call (D6 (call w s₀ s₁ mg mb fa o pm cd doc a vs ns G Y ho (fd_plain hd) hcd hmg hobj hints hlen hg) fun r s' hq=>?_)
 obtain⟨rfl,h2,h3,h4⟩:=hq
 exact⟨.inl ⟨.bool true,.bool true,[],rfl,fun _=>rfl,.bool true,post_true l _,fun _=>⟨List.Pairwise.nil,fun _ hm=>(nomatch hm)⟩⟩,h2,h3,h4⟩
section
variable {prog:Program} {w:World} {A:Around} {E:Value->Shared->Prop} {s:Shared} {K:Frag}
end
end Att
namespace L2
open PySem PySem.Spec PyProof.Rows
theorem wz:∀ {vs:List Value} {ns:List Int},IntsAre vs ns->qi (ns.map V.int) vs
 | _,_,.nil=>.nil
 | _,_,.cons n t h=>.cons ⟨t,rfl⟩ (wz h)
def Only (H:Hp):Prop:=∀ b,H b=none\/∃ o xs,H b=some (.frz o (.lst xs))
theorem law_call {P:Program} {w:World} {K:Fs} {mg mb:Str->Option Value} {CX:CXT} {k:Nat} {fa a:Addr} {fd:FuncData} {x:Str} {sp:Sp} {s₁:Shared} {vs:List Value} {ns:List Int}
  (KX:K.In s₁.heap) (hns:s₁.heap.Ns mainGlobals mg) (hb:s₁.heap.Ns builtinsNs mb) (hbb:∀ x:Str,x ≠ "__name__" -> mb x=bootBuiltins x) (hlim:s₁.heap.NoLimit) (hg:s₁.gens = #[])
  (ha:s₁.heap.get? a=some { cls:=.type "list",data:=.seq vs.toArray }) (hi:IntsAre vs ns) (hl:ns.length<=sizeLine) (hr:jY k callerA)
  (F:∀ base:Heap,K.In base->base.Ns mainGlobals mg->jO P w K mg base CX k fa fd [x] sp) (hbind:∀ (s:Shared) (u:Value),BindsTo s fd ⟨[u],[]⟩ [(x,u)])
  (hsp:∀ H:Hp,Only H->SqL K H a (ns.map V.int)->sp [.ref a] H (fun v _=>v=.bl true) fun _ _ _=>False)
  (hCX:∀ H e s',CX [] H s₁ (fun _ _ _=>False) e s'->False) :
  codeAny (model P w) callerA (.call (.ref fa) ⟨[.ref a],[]⟩) (fun r s'=>r=.ok (.ret (.bool true))/\OldK s₁.heap s'.heap/\s'.os=s₁.os/\AllBare s'.gens) s₁:=by
 have rv:=wz hi
 have lenV:=hi.length
 -- from an abstract heap in which nothing but the script may be tracked
 have core:∀ H:Hp,Only H->SqL K H a (ns.map V.int)->HOk P w H s₁.heap->(∀ b,H b ≠ none->b=a)->(H a ≠ none->K.lookup a=none) ->
   codeAny (model P w) callerA (.call (.ref fa) ⟨[.ref a],[]⟩) (fun r s'=>r=.ok (.ret (.bool true))/\OldK s₁.heap s'.heap/\s'.os=s₁.os/\AllBare s'.gens) s₁:=by
  intro H hO hS hok hA hK
  have base_of:∀ {b:Addr} {o:Obj},s₁.heap.get? b=some o->H b=none->(hidT s₁.heap H).get? b=some o:=fun e n=>hidT_get e n
  have noA:∀ {b:Addr} {o:Obj} {es:Array DictEntry} {ep:Nat},s₁.heap.get? b=some o->o.data=.dict es ep->H b=none:=fun {b o es ep} e d=>by
   cases q:H b with
   | none=>rfl
   | some u=>
    have e':b=a:=hA b (by rw[q];simp)
    subst e'
    rw[ha] at e;cases e
    have d':Data.seq vs.toArray _=Data.dict es ep:=d
    cases d'
  have nsK:∀ {b:Addr} {m:Str->Option Value},s₁.heap.Ns b m->(hidT s₁.heap H).Ns b m:=fun {b m} ⟨o,es,ep,e,d,r⟩=>⟨o,es,ep,base_of e (noA e d),d,r⟩
  have hKb:K.In (hidT s₁.heap H):=fun b o e=>base_of (KX b o e) (by
   cases q:H b with
   | none=>rfl
   | some u=>
    have e':b=a:=hA b (by rw[q];simp)
    subst e'
    rw[hK (by rw[q];simp)] at e;cases e)
  have hM:Mod K mg (hidT s₁.heap H):=⟨hKb,nsK hns,⟨mb,nsK hb,hbb⟩,let ⟨mc,h1,h2⟩:=hlim;⟨mc,nsK h1,h2⟩⟩
  have e0:Env0 P w K mg (hidT s₁.heap H) callerA [] s₁ H:=⟨rfl,hM,fun b o e=>of_hidT e,Nat.le_of_eq (Yz _ _),trivial,fun b hb=>absurd (show b ∈ ([]:List Addr) from hb) (by simp),hok,.of_eq hg⟩
  refine D6 ((F _ hKb (nsK hns)).run callerA [] s₁ H ⟨[.ref a],[]⟩ [.ref a] [.ref a] _ _ hr e0 (hbind s₁ (.ref a)) (.cons rfl .nil) (hsp H hO hS)) fun r s' h=>?_
  cases r with
  | error e=>exact (hCX H e s' h).elim
  | ok fl=>
   cases fl with
   | next=>exact False.elim h
   | brk=>exact False.elim h
   | cont=>exact False.elim h
   | ret u=>
    obtain⟨v,H',os,bare,un,hok',r',q⟩:=h
    have q':v=.bl true:=q
    subst q'
    obtain rfl:u=Value.bool true:=r'
    refine⟨rfl,OldK.of_keep fun b o e=>?_,os,bare⟩
    cases q:H b with
    | none=>exact un.keep b o e q (by intro z;exact absurd (show b ∈ ([]:List Addr) from z) (by simp)) (by simp)
    | some u=>
     rcases hO b with z | ⟨ob,xs,z⟩
     ·rw[q] at z;cases z
     ·have z2:=un.frzs b ob _ z
      obtain⟨e1,_⟩:=hok b _ z
      obtain⟨e2,_⟩:=hok' b _ z2
      rw[e] at e1;cases e1
      exact e2
 cases hk:K.lookup a with
 | some o=>
  -- the script is one of the module's own objects
  have e:=KX a o hk
  rw[ha] at e
  cases e
  refine core (fun _=>none) (fun _=>.inl rfl) (.inr ⟨_,vs.toArray,_,hk,rfl,rfl,rfl,by rw[Aa,lenV];exact hl,by simpa using rv⟩) (fun b u z=>by have z':(none:Option HO)=some u:=z;cases z') (fun b z=>absurd rfl z) fun z=>absurd rfl z
 | none=>
  refine core (fun b=>if b=a then some (.frz { cls:=.type "list",data:=.seq vs.toArray } (.lst (ns.map V.int))) else none) (fun b=>?_) (.inl (.inr ⟨{ cls:=.type "list",data:=.seq vs.toArray },if_pos rfl⟩)) (fun b u z=>?_) (fun b z=>?_) fun _=>hk
  ·by_cases hb:b=a
   ·exact .inr ⟨_,_,if_pos hb⟩
   ·exact .inl (if_neg hb)
  ·by_cases hb:b=a
   ·have z':=(if_pos hb).symm.trans z
    cases z'
    subst hb
    exact⟨ha,by rw[AB];exact hl,vs,_,rv,ha⟩
   ·have z':=(if_neg hb).symm.trans z
    cases z'
  ·by_cases hb:b=a
   ·exact hb
   ·exact absurd (if_neg hb) z
theorem YT {l:PySem.W.OpenLaw} {n k:Nat} {q:Program} {loose:List Str} {XP:(Str->Option Value)->Heap->Prop} {YP:World->Heap->Prop} {d:DefRec} {K:Params->Fs} {CX:World->CXT} {sp:World->Sp} {x:Str}
  (hn:l.most=some n) (hn2:n<=sizeLine) (hdf:d.params.defaults=[]) (hr:jY k callerA)
  (hY:∀ (w:World) (h:Heap),YP w h->(K w.params).In h)
  (F:∀ (w:World) (mg:Str->Option Value) (fa:Addr) (h:Heap),(K w.params).In h->h.Ns mainGlobals mg->mg d.name=some (.ref fa) ->
   ∃ fd:FuncData,(∀ (s:Shared) (u:Value),BindsTo s fd ⟨[u],[]⟩ [(x,u)]) /\
    ∀ base:Heap,(K w.params).In base->base.Ns mainGlobals mg->jO l.prog w (K w.params) mg base (CX w) k fa fd [x] (sp w))
  (hsp:∀ (w:World) (H:Hp) (a:Addr) (ns:List Int),ns.length<=n->Only H->SqL (K w.params) H a (ns.map V.int)->sp w [.ref a] H (fun v _=>v=.bl true) fun _ _ _=>False)
  (hCX:∀ (w:World) (H:Hp) (s:Shared) (e:Value) (s':Shared),CX w [] H s (fun _ _ _=>False) e s'->False) :
  PySem.W.WalkO q loose XP YP l.row.toRowW d [] (fun f vs=>PySem.call f vs):=by
 refine Att.attach_call hn hdf fun w s₀ s₁ mg mb fa o pm cd doc a vs ns G Y ho hd hcd hmg hobj hints hlen hg=>?_
 have KX:=hY w _ Y
 obtain⟨fd,hb,hF⟩:=F w mg fa _ KX G.T.g hmg
 exact law_call KX G.T.g G.T.b G.T.builtins G.T.nolimit hg hobj hints (Aq hlen hn2) hr hF hb (fun H hO hS=>hsp w H a ns hlen hO hS) fun H e s'=>hCX w H s₁ e s'
end L2
/- THE LAST THEOREM (shape; LID, My.* are yours):
   My.Adr: a structure of the addresses that your layer names (classes, functions); My.Txt K t: a structure (Prop) of the equations over K;
   My.txt_mk : {K} {implicit addresses ..} (e1 : nsIn K mainGlobals "law" = some (some (.ref f))) (e2 : K.lookup f = some ⟨oc, od, .func (fnOf "law" "law" params body scope dV kV doc pm an cdv ct), sl⟩) (e3 : codeIn K cdv "law" = true) .. : ∃ t, My.Txt K t
set_option maxRecDepth 100000 in
set_option maxHeartbeats 0 in
theorem PySem.Challenge.cw_LID_holds : PySem.Challenge.rw_LID.Holds := by
 w_on;o_law;k_head;(case hw=>w_witness2)
 k_fill
 refine L2.YT (l:=PySem.Challenge.rw_LID) (n:=63) (k:=40) (x := "script") (CX:=fun w=>..) (sp:=fun _=>My.sp_law) rfl (by decide) rfl ⟨rfl,by decide,by decide⟩ (fun w h Y=>PySem.W.kIn_of Y) ?F ?S ?C
 case F=>
  intro w mg fa h KX G hmg
  have T:∃ t,My.Txt (L2.KOf KX) t:=by
   dsimp only[L2.KOf]                          -- K must stand as «<heap const> w.params» for k_is
   refine' My.txt_mk ?e1 ?e2 ?e3 ..
   (case e1=>PySem.W.k_is)                    -- in the order: a name->its address->its object->its parts
   (case e2=>PySem.W.k_is)
   ..
  obtain⟨t,T⟩:=T
  have e0:=hmg.symm.trans (BI KX G T.law)
  cases e0                                       -- fa is the law's own address
  exact⟨_,fun s u=>.of_eq rfl,fun base kb nb=>My.law_fn T kb nb⟩     -- if «.of_eq rfl» comes too early: refine' ⟨_,?b,fun base kb nb=>My.law_fn T kb nb⟩;exact fun s u=>.of_eq rfl
 case S=>exact fun w H a ns hl hO hS=>..
 case C=>exact ..
(the tactic k_is has no namespace: write k_is) -/
namespace L2
open PySem PySem.Spec PyProof.Rows
def jZ (s:Stmt):Arguments:=match s with
 | .FunctionDef _ a _ _ _ _ _ _ _ _=>a
 | _=>{ posonlyargs:=[],args:=[],vararg:=none,kwonlyargs:=[],kw_defaults:=[],kwarg:=none,defaults:=[] }
def jB (s:Stmt):List Stmt:=match s with
 | .FunctionDef _ _ b _ _ _ _ _ _ _=>b
 | _=>[]
def zj (s:Stmt):Scope:=match s with
 | .FunctionDef _ _ _ _ _ _ sc _ _ _=>sc
 | _=>{ kind:=.function,names:=[],isGenerator:=false,isCoroutine:=false }
abbrev CX0:CXT:=fun _ _ _ _ _ _=>False
abbrev E0:XK:=fun _ _ _=>False
theorem pass0 {X:Cx}:wm CX0 X E0:=fun _ _ _ _ _ _ _ h=>h.elim
structure Fun (K:Fs) (x qual:Str) (st:Stmt) (f:Addr) (fd:FuncData):Prop where
 ex:∃ (oc:Value) (od:Option Addr) (kV doc pm:Value) (an:Option Addr) (cdv ct:Value) (osl:Array (Option Value)),
  fd=PySem.W.fnOf x qual (jZ st) (jB st) (zj st) .none kV doc pm an cdv ct/\K.lookup f=some ⟨oc,od,.func fd,osl⟩/\PySem.W.codeIn K cdv qual=true
 kp:PySem.W.keepIn K (.ref f)=true
section
variable {P:Program} {w:World} {K:Fs} {mg:Str->Option Value} {base:Heap}
theorem Fun.ok {x qual:Str} {st:Stmt} {f:Addr} {fd:FuncData} {N ps:List Str} {k:Nat} {sp:Sp} (F:Fun K x qual st f fd) (S:zI N ps (zj st)) (len:∀ vs H Q E,sp vs H Q E->vs.length=ps.length)
  (hbody:∀ (cdv:Value) (A:Around) (outer:List Env) (s:Shared) (H:Hp) (vs:List V) (Q:VK) (E:XK),jY k (A.deeper (envOfC qual (zj st) s.heap.objs.size f cdv))->sp vs H Q E ->
   ∃ t,PSs (Yt CX0 P w K mg base N qual (zj st) f cdv A outer s H E).nox (jB st) t/\t { nx:=fun _ H'=>Q .non H',rt:=Q } (start N vs) H):jO P w K mg base CX0 (k+1) f fd ps sp:=by
 obtain⟨oc,od,kV,doc,pm,an,cdv,ct,osl,rfl,lk,hcd⟩:=F.ex
 refine fn_of lk hcd S len fun A outer s H vs Q E hr hsp=>?_
 obtain⟨t,h,q⟩:=hbody cdv A outer s H vs Q E hr hsp
 exact⟨t,h.nox,q⟩
theorem Fun.binds {x qual:Str} {st:Stmt} {f:Addr} {fd:FuncData} {ps:List Str} (F:Fun K x qual st f fd)
  (h:∀ (kV doc pm:Value) (an:Option Addr) (cdv ct:Value) (us:List Value),us.length=ps.length->bindArgs (PySem.W.fnOf x qual (jZ st) (jB st) (zj st) .none kV doc pm an cdv ct) ⟨us,[]⟩=pure (ps.zip us)):Binds K fd ps []:=by
 obtain⟨oc,od,kV,doc,pm,an,cdv,ct,osl,rfl,lk,hcd⟩:=F.ex
 exact .all (h kV doc pm an cdv ct)
theorem fun_mk {x qual:Str} {st:Stmt} {f:Addr} {oc:Value} {od an:Option Addr} {osl:Array (Option Value)} {kV doc pm cdv ct:Value} (l:K.lookup f=some ⟨oc,od,.func (PySem.W.fnOf x qual (jZ st) (jB st) (zj st) .none kV doc pm an cdv ct),osl⟩)
  (c:PySem.W.codeIn K cdv qual=true) (k:PySem.W.keepIn K (.ref f)=true):Fun K x qual st f (PySem.W.fnOf x qual (jZ st) (jB st) (zj st) .none kV doc pm an cdv ct):=⟨⟨oc,od,kV,doc,pm,an,cdv,ct,osl,rfl,l,c⟩,k⟩
end
theorem hu_of {A:Around} {k:Nat} (hr:jY k A):A.units+1 < cLine:=DO (Nat.add_le_add_left (by decide:1<=64) _) hr.units
theorem zo {n:Nat} (h:n<=1000):n < sizeLine:=DO h (by decide)
theorem pgl {X:Cx} (i:Nat) (x:Str) (pos:Pos) (hN:X.N.Nodup) (hi:X.N[i]? = some x) (hl:X.env.scope.names.lookup x=some .local):PG X (.Name x pos) (jm i):=QA hN hi (.inl hl) (.inr hl)
def vOk (n:List (Str×NameKind)) (x:Str):Bool:=(match n.lookup x with | some .local=>true | some .cell=>true | some .free=>true | _=>false) && (!(x == ("__debug__" : Str)) && !(x == ("__classdict__" : Str)))
theorem pw {X:Cx} (i:Nat) (x:Str) (pos:Pos) (hN:X.N[i]? = some x) (h:vOk X.env.scope.names x=true):PE X (.Name x pos) (tVar i):=by
 unfold vOk at h
 rw[CG,CG,Bool.not_eq_true',Bool.not_eq_true'] at h
 refine pe_var hN ?_ h.2.1 h.2.2
 cases e:X.env.scope.names.lookup x with
 | none=>rw[e] at h;cases h.1
 | some k=>cases k <;> first | exact .inl e | exact .inr (.inl e) | exact .inr (.inr e) | (rw[e] at h;cases h.1)
section
variable {X:Cx}
theorem pv (i:Nat) {x:Str} {pos:Pos} (hN:X.N[i]? = some x:=by rfl) (hv:Vis X.env.scope x:=by first | exact Or.inl rfl | exact Or.inr (Or.inl rfl) | exact Or.inr (Or.inr rfl)) (hd:(x == ("__debug__" : Str))=false:=by decide)
  (hcd:(x == ("__classdict__" : Str))=false:=by decide):PE X (.Name x pos) (tVar i):=pe_var hN hv hd hcd
end
theorem JF {A B:Prop} (h:B):if false=true then A else B:=by
 rw[if_neg AX]
 exact h
theorem J8 {A B:Prop} (h:A):if true=true then A else B:=by
 rw[if_pos rfl]
 exact h
theorem Yu {c A B:Prop} [Decidable c] (h1:c->A) (h2:¬ c->B):if c then A else B:=by
 by_cases h:c
 ·rw[if_pos h]
  exact h1 h
 ·rw[if_neg h]
  exact h2 h
theorem iteNS {c A B:Prop} [Decidable c] (hc:c) (h:B):if (!decide c)=true then A else B:=by
 rw[Ak hc]
 exact JF h
def zL (H H':Hp):Prop:=∀ b o,H b=some o->H' b=some o
theorem zL.refl (H:Hp):zL H H:=fun _ _ h=>h
theorem zL.trans {H H1 H2:Hp} (a:zL H H1) (b:zL H1 H2):zL H H2:=fun c o h=>b c o (a c o h)
theorem zL.free {H H':Hp} (e:zL H H') {l:Addr} (h:H' l=Option.none):H l=Option.none:=by
 cases q:H l with
 | none=>rfl
 | some o=>
  rw[e l o q] at h
  cases h
theorem zL.seq {K:Fs} {H H':Hp} {a:Addr} {xs:List V} (e:zL H H') (h:SqL K H a xs):SqL K H' a xs:=by
 rcases h with (h | ⟨o,h⟩) | h
 ·exact .inl (.inl (e _ _ h))
 ·exact .inl (.inr ⟨o,e _ _ h⟩)
 ·exact .inr h
abbrev NoX:Value->Shared->Prop:=fun _ _=>False
theorem wpX {α:Type} {M:Model} {A:Around} {t:Sem α} {Q:α->Shared->Prop} {E:Value->Shared->Prop} {s:Shared} (h:wpAny M A t Q NoX s):wpAny M A t Q E s:=
 Bp h (fun _ _ q=>q) fun _ _ f=>f.elim
def YU (ifs:List Expr) (env:Env):Sem Bool:=
 forIn ifs true fun c r=>if r=true then do let ok <- isTrue c env (eval c env);pure (ForInStep.yield ok) else pure (ForInStep.yield r)
theorem ZT {prog:Program} {w:World} {A:Around} {R:Result->Shared->Prop} {s:Shared} {elt tg iter:Expr} {ifs:List Expr} {scope:Scope} {pos:Pos} {it acc:Value} {env:Env} (Iv:Nat->Shared->Prop)
  (turn:∀ n s,Iv n s->wpAny (model prog w) A (pyNext it) (fun r s1=>match r with
   | none=>R (.ok .next) s1
   | some v=>wpAny (model prog w) A (letOwnedTupleGo tg it v) (fun _ s2=>wpAny (model prog w) A (assign tg env v) (fun _ s3=>wpAny (model prog w) A (YU ifs env) (fun ok s4=>
      if ok=true then wpAny (model prog w) A (eval elt env) (fun x s5=>wpAny (model prog w) A (call (.builtin "list.append") [acc,x]) (fun _ s6=>∃ m,m < n/\Iv m s6) NoX s5) NoX s4
      else ∃ m,m < n/\Iv m s4) NoX s3) NoX s2) NoX s1) NoX s)
  (n:Nat) (h:Iv n s):codeAny (model prog w) A (.compLoop (.ListComp elt [⟨tg,iter,ifs,0⟩] scope pos) 0 it acc env) R s:=by
 refine codeAny_loop rfl Iv (fun n s hI=>?_) n h
 show wpAny (model prog w) A ((compTurn (.ListComp elt [⟨tg,iter,ifs,0⟩] scope pos) 0 it acc env).onRaise (fun x=>do noteFrame x env;theTreesLotGoes x)) _ _ s
 refine wpAny_noted (wpX ?_)
 rw[compTurn_list]
 refine AA (Ec (AA (thn (turn n s hI) fun r s1 h1=>?_)))
 cases r with
 | none=>exact AF h1
 | some v=>
  refine AA (thn h1 fun _ s2 h2=>AA (thn h2 fun _ s3 h3=>AA (thn h3 fun ok s4 h4=>?_)))
  cases ok with
  | false=>exact AF ⟨rfl,h4⟩
  | true=>exact AA (AA (thn h4 fun x s5 h5=>AA (thn h5 fun _ s6 h6=>AF (AF ⟨rfl,h6⟩))))
def jC (env:Env) (y:Str×NameKind) (cs:List (Str×Addr)):List (Str×Addr):=if (y.2 == NameKind.free)=true then (y.1,(env.cells.lookup y.1).getD 0) :: cs else cs
def Zn (env:Env) (scope:Scope):List (Str×Addr):=scope.names.foldl (fun c y=>jC env y c) []
theorem QE {α β:Type} {f:α->β->Sem (ForInStep β)} {g:β->α->β}:∀ (l:List α) (c:β),(∀ x ∈ l,∀ c,f x c=pure (.yield (g c x)))->forIn l c f=pure (l.foldl g c)
 | [],c,_=>rfl
 | x :: l,c,h=>by
  rw[List.forIn_cons,h x As,pure_bind]
  exact QE l (g c x) fun y hy=>h y (Ay _ hy)
theorem Z8 {env:Env} {scope:Scope} (h:∀ y ∈ scope.names,y.2=.free->∃ c,env.cells.lookup y.1=some c):closureFor scope env=pure (Zn env scope):=by
 simp only[closureFor]
 rw[QE (g:=fun c y=>jC env y c) scope.names [] (fun y hy c=>?_)]
 ·rfl
 ·obtain⟨n,k⟩:=y
  by_cases hk:k=.free
  ·subst hk
   obtain⟨a,ha⟩:=h _ hy rfl
   have ha':env.cells.lookup n=some a:=ha
   simp[jC,cellOf,ha']
  ·have hb:(k == NameKind.free)=false:=by simpa using hk
   simp only[jC,hb,Bool.false_eq_true,if_false]
theorem Zo {env:Env}:∀ (ns:List (Str×NameKind)) (cs:List (Str×Addr)),(∀ y ∈ ns,y.2=.free->∃ c,env.cells.lookup y.1=some c)->(∀ x c,cs.lookup x=some c->env.cells.lookup x=some c) ->
  ∀ x c,(ns.foldl (fun c y=>jC env y c) cs).lookup x=some c->env.cells.lookup x=some c
 | [],_,_,h=>h
 | y :: ns,cs,hf,h=>by
  refine Zo ns (jC env y cs) (fun z hz=>hf z (Ay _ hz)) fun x c e=>?_
  unfold jC at e
  split at e
  ·rename_i hk
   have hk':y.2=.free:=by simpa using hk
   obtain⟨a,ha⟩:=hf y As hk'
   rw[CF] at e
   split at e
   ·rename_i hx
    have hx':x=y.1:=by simpa using hx
    rw[ha] at e
    rw[hx',ha]
    exact e
   ·exact h x c e
  ·exact h x c e
theorem je {env:Env} (x:Str):∀ (ns:List (Str×NameKind)) (cs:List (Str×Addr)),((x,NameKind.free) ∈ ns\/∃ c,cs.lookup x=some c)->∃ c,(ns.foldl (fun c y=>jC env y c) cs).lookup x=some c
 | [],_,h=>by
  rcases h with h | h
  ·exact absurd h (by simp)
  ·exact h
 | y :: ns,cs,h=>by
  refine je x ns (jC env y cs) ?_
  rcases h with h | ⟨c,h⟩
  ·rcases Al.mp h with e | h
   ·subst e
    exact .inr ⟨(List.lookup x env.cells).getD 0,by simp[jC]⟩
   ·exact .inl h
  ·refine .inr ?_
   unfold jC
   split
   ·rw[CF]
    split
    ·exact⟨_,rfl⟩
    ·exact⟨c,h⟩
   ·exact⟨c,h⟩
def yX (env:Env) (n:Str) (k:NameKind):NameKind:=if (k == NameKind.free && env.scope.kind == .function && env.kindOf n == some .cell)=true then .cell else k
def relP (env:Env) (y:Str×NameKind):Str×NameKind:=if (y.2 == NameKind.free && env.scope.kind == .function && env.kindOf y.1 == some .cell)=true then (y.1,NameKind.cell) else (y.1,y.2)
theorem relP_eq (env:Env) (y:Str×NameKind):relP env y=(y.1,yX env y.1 y.2):=by
 unfold relP yX
 split <;> rfl
theorem Jm {env:Env} (x:Str):∀ ns:List (Str×NameKind),(ns.map (relP env)).lookup x=(ns.lookup x).map (yX env x)
 | []=>rfl
 | (n,k) :: r=>by
  have ih:=Jm (env:=env) x r
  rw[Ai,relP_eq,CF,CF]
  cases hx:x == n with
  | true=>
   have e:x=n:=by simpa using hx
   subst e
   rfl
  | false=>exact ih
theorem qr {env : Env} {scope : Scope} (x : Str) : (relabel scope env).names.lookup x = (scope.names.lookup x).map (yX env x) := Jm x scope.names
def wA (N:List Str) (scope:Scope) (p:Option Nat×Str):Bool:=match p.1 with
 | none=>true
 | some j=>decide (N[j]? = some p.2) && decide (scope.names.lookup p.2=some .free)
structure zN (N:List Str) (sc:Scope) (N':List Str) (ix:List (Option Nat)) (scope:Scope):Prop where
 kind:scope.kind=.function
 nocell:∀ y ∈ scope.names,y.2 ≠ .cell
 locs:∀ y ∈ scope.names,y.2=.local->scope.names.lookup y.1=some .local
 frees:∀ y ∈ scope.names,y.2=.free->(sc.names.lookup y.1=some .cell\/sc.names.lookup y.1=some .free)
 nd:N'.Nodup
 len:ix.length=N'.length
 cap:(ix.zip N').all (wA N scope)=true
def yY (ix:List (Option Nat)) (σ:St):St:=ix.map fun o=>o.bind fun i=>(σ[i]?).join
def jf (X:Cx) (N':List Str) (scope:Scope) (C:Addr) (fp:List Addr) (s₀:Shared) (H₀:Hp):Cx where
 prog:=X.prog
 w:=X.w
 K:=X.K
 mg:=X.mg
 base:=X.base
 A:=X.A
 N:=N'
 s₀:=s₀
 H₀:=H₀
 env:=compEnvC scope (Zn X.env scope) C X.env
 outer:=X.stack
 stack:=X.stack
 ex:=fp
 fn:=fun _=>false
 calm:=X.calm
 pn:=[]
 xe:=NoX
section
variable {X:Cx} {N':List Str} {ix:List (Option Nat)} {scope:Scope} {pins:List (Addr × Obj)} {σ:St} {H:Hp} {s:Shared} {fp:List Addr}
theorem zN.has (S:zN X.N X.env.scope N' ix scope) (ok:X.Ok):∀ y ∈ scope.names,y.2=.free->∃ c,X.env.cells.lookup y.1=some c:=fun y hy hk=>ok.has y.1 (S.frees y hy hk)
theorem zN.sub (S:zN X.N X.env.scope N' ix scope) (ok:X.Ok):∀ x c,(Zn X.env scope).lookup x=some c->X.env.cells.lookup x=some c:=
 Zo scope.names [] (S.has ok) fun x c e=>by simp at e
theorem zN.frK (S : zN X.N X.env.scope N' ix scope) {x : Str} (h : (relabel scope X.env).names.lookup x = some .cell \/ (relabel scope X.env).names.lookup x = some .free) : scope.names.lookup x = some .free := by
 rw [qr] at h
 cases e:scope.names.lookup x with
 | none=>rw[e] at h;simp at h
 | some k=>
  rw[e] at h
  cases k with
  | free=>rfl
  | cell=>exact absurd rfl (S.nocell _ (A7 e))
  | «local»=>simp[yX] at h
  | globalExplicit=>simp[yX] at h
  | globalImplicit=>simp[yX] at h
theorem yZ {h1:Heap} {m:Str->Option Value} {tk:Nat} (S:zN X.N X.env.scope N' ix scope) (I:Inv X pins σ H s) (hf:∀ b ∈ fp,J7 X pins H b) (hlt:∀ b ∈ fp,b < s.heap.objs.size)
  (ns:h1.Ns s.heap.objs.size m) (kp:∀ b o,s.heap.get? b=some o->h1.get? b=some o) :
  Inv (jf X N' scope s.heap.objs.size fp s H) [] (yY ix σ) H { s with heap:=h1,toks:=tk }:=by
 have sub:=S.sub I.ok
 have cellS:∀ x c,(Zn X.env scope).lookup x=some c->c < s.heap.objs.size:=fun x c e=>by
  obtain⟨v,q⟩:=I.cell x c (sub x c e)
  exact q.lt
 refine⟨⟨I.ok.mod,S.kind,I.ok.glob,I.ok.blt,AG _,fun x y c h1 h2=>I.ok.inj x y c (sub x c h1) (sub y c h2),fun x hx=>?_,fun x c z _=>?_,I.ok.hd,I.ok.frames,.inl rfl,fun b hb=>⟨?_,fun x c e=>?_⟩,I.bs,Aq I.ok.bsz I.sz,fun b o e hb=>?_,fun b hb z=>?_,I.stack,I.stkFree⟩,
  rfl,I.bare,Un.kept kp,⟨m,ns,fun i x v h1 h2 h3=>?_⟩,fun x c e=>?_,I.hok.fresh (AG _),fun x c e=>I.freeC x c (sub x c e),fun p hp=>absurd (show p ∈ ([]:List (Addr×Obj)) from hp) (by simp),I.hok.kept kp,?_⟩
 ·exact je x scope.names [] (.inl (A7 (S.frK hx)))
 ·exact absurd (show false=true from z) (by simp)
 ·exact AU (hlt b hb)
 ·exact (hf b hb).2.2.2.2.1 x c (sub x c e)
 ·rcases (hf b hb).2.2.2.1 with z | z
  ·exact I.ok.noex b o e z
  ·exact absurd (AS (AL e) (Aq I.ok.bsz z)) (Ax _)
 ·rcases Al.mp (I.stkSub b z) with e | e
  ·exact (hf b hb).2.1 e
  ·exact (hf b hb).2.2.1 e
 ·have hi:i < ix.length:=by
   have:=(AE.mp h1).1
   rw[S.len];exact this
  have e1:ix[i]? = some ix[i]:=AD hi
  have h2':(yY ix σ)[i]? = some (some v):=h2
  rw[yY,AR,e1] at h2'
  have h2'':(ix[i].bind fun j=>(σ[j]?).join)=some v:=AH h2'
  cases ej:ix[i] with
  | none=>rw[ej] at h2'';cases h2''
  | some j=>
   rw[ej] at h2''
   have h2j:(σ[j]?).join=some v:=h2''
   have hz:(ix[i],x) ∈ ix.zip N':=by
    have ez:(ix.zip N')[i]? = some (ix[i],x):=by rw[DS];exact⟨e1,h1⟩
    exact AN ez
   have cq:=Bf.mp S.cap _ hz
   have cq':(decide (X.N[j]? = some x) && decide (scope.names.lookup x=some .free))=true:=by
    unfold wA at cq
    simp only[ej] at cq
    exact cq
   rw[CG] at cq'
   have c1:=BE cq'.1
   have c2:=BE cq'.2
   have kx:X.env.scope.names.lookup x=some .cell\/X.env.scope.names.lookup x=some .free:=S.frees (x,.free) (A7 c2) rfl
   have hs:σ[j]? = some (some v):=by
    cases q:σ[j]? with
    | none=>rw[q] at h2j;cases h2j
    | some o=>rw[q] at h2j;have:o=some v:=h2j;rw[this]
   obtain⟨m0,hn0,hl0⟩:=I.loc
   obtain⟨u,ru,lk⟩:=hl0 j x v c1 hs (kx.elim (fun z=>.inr (.inl z)) fun z=>.inr (.inr z))
   refine⟨u,ru,.inr ⟨?_,?_⟩⟩
   ·show (relabel scope X.env).names.lookup x = some .cell \/ (relabel scope X.env).names.lookup x = some .free
    rw [qr, c2]
    simp only[Option.map_some,yX]
    split
    ·exact .inl rfl
    ·exact .inr rfl
   ·rcases lk with ⟨k,_⟩ | ⟨_,c,ec,hc⟩
    ·have k':X.env.scope.names.lookup x=some .local:=k
     rw[k'] at kx
     rcases kx with z | z <;> cases z
    ·obtain⟨c',ec'⟩:=je (env:=X.env) x scope.names [] (.inl (A7 c2))
     have:=sub x c' ec'
     rw[ec] at this;cases this
     exact⟨c,ec',hc.keeps kp⟩
 ·obtain⟨v,q⟩:=I.cell x c (sub x c e)
  exact⟨v,q.keeps kp⟩
 ·show (yY ix σ).length=N'.length
  rw[yY,AB,S.len]
def PF (X:Cx) (ifs:List Expr) (t:TT):Prop:=∀ (pins:List (Addr×Obj)) (s:Shared) (σ:St) (H:Hp) (Q:Bool->Hp->Prop),Inv X pins σ H s->t σ H Q->wpAny (model X.prog X.w) X.A (YU ifs X.env) (TP X pins σ Q) X.xe s
def tYes:TT:=fun _ H Q=>Q true H
theorem qh:PF X [] tYes:=fun _ _ _ H _ I h=>wpAny_tests_nil ⟨H,I,h⟩
theorem yn {c:Expr} {t:TT} (hc:PT X c t):PF X [c] t:=fun pins s σ H Q I h=>wpAny_tests_one (hc pins s σ H Q I h)
def jt (J:It) (g:TG) (tt:TT) (te:TE) (σ0:St) (H1:Hp) (Q:VK) (D:Addr):Prop:=∃ W:Nat->Nat->St->Hp->Prop,(∃ m,W 0 m σ0 (upd H1 D (.lst [])))/\∀ i m σ' H',W i m σ' H' ->
 (J.stop i H'/\Q (.ref D) H')\/(J.go i H'/\∀ x H2,J.yld i H' x H2->g x σ' H2 fun σ2 H3=>tt σ2 H3 fun b H4=>
  if b=true then te σ2 H4 fun v H5=>∃ xs,H5 D=some (.lst xs)/\xs.length < sizeLine/\∃ m',m' < m/\W (i+1) m' σ2 (upd H5 D (.lst (xs++[v]))) else ∃ m',m' < m/\W (i+1) m' σ2 H4)
def tComp (ix:List (Option Nat)) (wi:TI) (g:TG) (tt:TT) (te:TE):TE:=fun σ H Q=>wi σ H fun J H1=>∀ D,H1 D=none->jt J g tt te (yY ix σ) H1 Q D
theorem Jn {elt tg iter:Expr} {ifs:List Expr} {pos:Pos} {g:TG} {tt:TT} {te:TE} {Q:VK} {Z:Value->Addr->Result->Shared->Prop} {it:Addr} {tn:Nat->Heap->Prop} {J:It}
  (S:zN X.N X.env.scope N' ix scope) (hc:X.calm=true)
  (hg:∀ C fp s₀ H₀,PG (jf X N' scope C fp s₀ H₀) tg g) (ht:∀ C fp s₀ H₀,PF (jf X N' scope C fp s₀ H₀) ifs tt) (he:∀ C fp s₀ H₀,PE (jf X N' scope C fp s₀ H₀) elt te)
  (I:Inv X pins σ H s) (T:Turn X.prog X.w X.K tg J fp it tn) (st:tn 0 s.heap) (hf:∀ b ∈ fp,J7 X pins H b)
  (h:∀ D,H D=none->∃ W:Nat->Nat->St->Hp->Prop,(∃ m,W 0 m (yY ix σ) (upd H D (.lst [])))/\∀ i m σ' H',W i m σ' H' ->
   (J.stop i H'/\Q (.ref D) H')\/(J.go i H'/\∀ x H2,J.yld i H' x H2->g x σ' H2 fun σ2 H3=>tt σ2 H3 fun b H4=>
    if b=true then te σ2 H4 fun v H5=>∃ xs,H5 D=some (.lst xs)/\xs.length < sizeLine/\∃ m',m' < m/\W (i+1) m' σ2 (upd H5 D (.lst (xs++[v]))) else ∃ m',m' < m/\W (i+1) m' σ2 H4))
  (hZ:∀ D C H' s' m,Inv X pins σ H' s'->s'.heap.Ns C m->H' C=none->s.heap.objs.size<=C->Q (.ref D) H'->Z (.ref D) C (.ok .next) s') :
  wpAny (model X.prog X.w) X.A (newList []) (fun acc s3=>wpAny (model X.prog X.w) X.A (newFunctionEnv scope X.env.globals (Zn X.env scope) [] X.env.qual none .none (some X.env)) (fun cenv s4=>
   codeAny (model X.prog X.w) X.A (.compStart (.ListComp elt [⟨tg, iter, ifs, 0⟩] scope pos) 0 (.ref it) acc { cenv with scope := relabel scope X.env }) (Z acc cenv.locals) s4) X.xe s3) X.xe s := by
 refine Au (wpAny_newFunctionEnv S.nocell (by intro y hy;simp at hy) (fun h1 ns1 sb1=>?_) S.kind)
 have I3:Inv X pins σ (upd H s.heap.objs.size (.lst [])) { s with heap:=s.heap.push { cls:=.type "list",data:=.seq ([]:List Value).toArray },toks:=s.toks }:=I.lnew (ys:=[]) (its:=[]) .nil (A6 _)
 generalize hs3:({ s with heap:=s.heap.push { cls:=.type "list",data:=.seq ([]:List Value).toArray } }:Shared)=s3 at ns1 sb1 ⊢
 have I3:Inv X pins σ (upd H s.heap.objs.size (.lst [])) s3:=by rw[<- hs3];exact I3
 have hsz:s3.heap.objs.size=s.heap.objs.size+1:=by rw[<- hs3];exact CK _ _
 have st3:tn 0 s3.heap:=by
  rw[<- hs3]
  exact T.keep _ _ _ st fun b _ o e=>AC _ e
 have blw:∀ b ∈ fp,b < s.heap.objs.size:=fun b hb=>by
  obtain⟨o,e,_⟩:=T.obj _ _ st b hb
  exact AL e
 have hf3:∀ b ∈ fp,J7 X pins (upd H s.heap.objs.size (.lst [])) b:=fun b hb=>⟨by rw[zx (AU (blw b hb))];exact (hf b hb).1,(hf b hb).2⟩
 obtain⟨W,⟨m0,w0⟩,turn⟩:=h s.heap.objs.size I.fresh
 have kp:∀ b o,s3.heap.get? b=some o->h1.get? b=some o:=fun b o e=>(sb1.2 b (AU (AL e))).trans (AC _ e)
 have J0:=yZ (tk:=s3.toks+([]:List (Str×Value)).length) S I3 hf3 (fun b hb=>by rw[hsz];exact B9 (blw b hb)) ns1 kp
 have st4:tn 0 h1:=T.keep _ _ _ st3 fun b _ o e=>kp b o e
 have stat:∀ {H':Hp} {pl:List (Addr×Obj)},(∀ b ∈ fp,H' b=none)->(∀ b ∈ fp,∀ p ∈ pl,p.1 ≠ b)->∀ b ∈ fp,J7 (jf X N' scope s3.heap.objs.size fp s3 (upd H s.heap.objs.size (.lst []))) pl H' b:=fun hn hp b hb=>
  ⟨hn b hb,(J0.ok.exf b hb).1,J0.ok.exfs b hb,.inl hb,(J0.ok.exf b hb).2,fun p q=>hp b hb p q⟩
 have loop:codeAny (model X.prog X.w) X.A (.compLoop (.ListComp elt [⟨tg,iter,ifs,0⟩] scope pos) 0 (.ref it) (.ref s.heap.objs.size) (jf X N' scope s3.heap.objs.size fp s3 (upd H s.heap.objs.size (.lst []))).env) (Z (.ref s.heap.objs.size) s3.heap.objs.size)
   { s3 with heap:=h1,toks:=s3.toks+([]:List (Str×Value)).length }:=by
  refine ZT (fun n s'=>∃ i σ' H',Inv (jf X N' scope s3.heap.objs.size fp s3 (upd H s.heap.objs.size (.lst []))) [] σ' H' s'/\tn i s'.heap/\(∀ b ∈ fp,H' b=none)/\W i n σ' H') ?_ m0
   ⟨0,_,_,J0,st4,fun b hb=>(hf3 b hb).1,w0⟩
  rintro n s5 ⟨i,σ5,H5,I5,st5,fr5,w5⟩
  rcases turn i n σ5 H5 w5 with ⟨stop,q⟩ | ⟨go,step⟩
  ·refine thn (T.done (jf X N' scope s3.heap.objs.size fp s3 (upd H s.heap.objs.size (.lst []))) rfl rfl rfl hc i [] s5 σ5 H5 NoX I5 (stat (pl:=[]) fr5 (fun _ _ p hp=>absurd hp (by simp))) st5 stop) fun r s6 ⟨hr,I6⟩=>?_
   subst hr
   have I7:Inv X pins σ H5 s6:=I3.call' (ch:=fp) I6.os I6.base I6.hok I6.bare fun b hb=>⟨(hf3 b hb).2.2.2.1,(hf3 b hb).2.1,(hf3 b hb).2.2.2.2.1,(hf3 b hb).2.2.2.2.2⟩
   obtain⟨m6,n6,_⟩:=I6.loc
   exact hZ _ _ H5 s6 m6 I7 n6 I6.free (by rw[hsz];exact CH _) q
  ·refine thn (T.item (jf X N' scope s3.heap.objs.size fp s3 (upd H s.heap.objs.size (.lst []))) rfl rfl rfl hc i [] s5 σ5 H5 NoX I5 (stat (pl:=[]) fr5 (fun _ _ p hp=>absurd hp (by simp))) st5 go) fun r s6 ⟨u,hr,h6⟩=>?_
   subst hr
   refine thn h6 fun _ s7 ⟨x,H7,I7,r7,y7,st7,fr7⟩=>?_
   have I7':=I7.pinned (stat (pl:=[]) fr7 (fun _ _ p hp=>absurd hp (by simp))) (T.obj _ _ st7)
   refine thn (hg _ _ _ _ _ s7 σ5 H7 x u _ I7' r7 (step x H7 y7)) fun _ s8 ⟨σ8,H8,I8,q8⟩=>?_
   refine thn (ht _ _ _ _ _ s8 σ8 H8 _ I8 q8) fun b s9 ⟨H9,I9,q9⟩=>?_
   have again:∀ {σ':St} {H':Hp} {s':Shared} {m':Nat},Inv (jf X N' scope s3.heap.objs.size fp s3 (upd H s.heap.objs.size (.lst []))) ([]++Jk fp s7.heap) σ' H' s'->m' < n->W (i+1) m' σ' H' ->
     ∃ m,m < n/\∃ i σ' H',Inv (jf X N' scope s3.heap.objs.size fp s3 (upd H s.heap.objs.size (.lst []))) [] σ' H' s'/\tn i s'.heap/\(∀ b ∈ fp,H' b=none)/\W i m σ' H':=fun {σ' H' s' m'} I' hm w'=>by
    refine⟨m',hm,i+1,σ',H',I'.unpinned,T.keep _ _ _ st7 fun b hb o e=>(I'.pin (b,o) (Ac _ (Ac _ (jz hb e)))).1,fun b hb=>?_,w'⟩
    obtain⟨o,e,d⟩:=T.obj _ _ st7 b hb
    exact (I'.pin (b,o) (Ac _ (Ac _ (jz hb e)))).2.1
   cases b with
   | false=>
    obtain⟨m',hm,w'⟩:=(show ∃ m',m' < n/\W (i+1) m' σ8 H9 from q9)
    exact again I9 hm w'
   | true=>
    refine thn (he _ _ _ _ _ s9 σ8 H9 _ I9 q9) fun v s10 ⟨y,H10,I10,r10,q10⟩=>?_
    obtain⟨xs,hx,hl,m',hm,w'⟩:=q10
    refine thn (qG _ s10 σ8 H10 (.ref s.heap.objs.size) [y] (.ref s.heap.objs.size) [v] (fun _ H'=>W (i+1) m' σ8 H') I10 rfl (.cons r10 .nil) ⟨_,xs,y,rfl,rfl,hx,hl,w'⟩) fun _ s11 ⟨_,H11,I11,_,q11⟩=>?_
    exact again I11 hm q11
 exact codeAny_compStart_list loop (T.self _ _ _ _ _ st4 loop)
theorem zY {elt tg iter:Expr} {ifs:List Expr} {pos:Pos} {wi:TI} {g:TG} {tt:TT} {te:TE} (S:zN X.N X.env.scope N' ix scope) (hc:X.calm=true) (hi:PI X tg iter wi)
  (hg:∀ C fp s₀ H₀,PG (jf X N' scope C fp s₀ H₀) tg g) (ht:∀ C fp s₀ H₀,PF (jf X N' scope C fp s₀ H₀) ifs tt) (he:∀ C fp s₀ H₀,PE (jf X N' scope C fp s₀ H₀) elt te)
  (hs:∀ x,foldedSetIterable iter X.env x=pure x:=by intro _;rfl):PE X (.ListComp elt [⟨tg,iter,ifs,0⟩] scope pos) (tComp ix wi g tt te):=by
 intro pins s σ H Q I h
 rw[eval_ListComp]
 refine Do (use:=none) rfl hs (Z8 (S.has I.ok)) S.kind S.locs (thn (hi pins s σ H _ I h) fun v s1 h1=>thn h1 fun itv s2 h2=>?_)
 obtain⟨it,fp,tn,J,H2,e,I2,T,st2,f2,q⟩:=h2
 subst e
 refine Jn (Z:=fun acc C=>compPost (model X.prog X.w) X.A X.xe none (EP X pins σ Q) acc C) S hc hg ht he I2 T st2 f2 q ?_
 intro D C H' s' m I' hn hC hz qD
 refine⟨m,hn,fun h' sb=>?_⟩
 have I'':Inv X pins σ H' { s' with heap:=h',toks:=s'.toks }:=I'.turned (it:=C) (fun b o hb e=>(sb.2 b hb).trans e) hC (fun z=>absurd (AS I2.lt (by rw[<- z];exact hz)) (Ax _))
  (.inr (Aq I2.sz hz)) (fun x c e z=>by obtain⟨v,w⟩:=I2.cell x c e;exact absurd (AS w.lt (by rw[z];exact hz)) (Ax _)) (fun p hp z=>absurd (AS (AL (I2.pin p hp).1) (by rw[z];exact hz)) (Ax _))
 exact⟨.ref D,H',I'',rfl,qD⟩
theorem jA {i:Nat} {y:Str} {py spos:Pos} {elt tg iter:Expr} {ifs:List Expr} {pos:Pos} {wi:TI} {g:TG} {tt:TT} {te:TE} (S:zN X.N X.env.scope N' ix scope) (hc:X.calm=true) (hi:PI X tg iter wi)
  (hg:∀ C fp s₀ H₀,PG (jf X N' scope C fp s₀ H₀) tg g) (ht:∀ C fp s₀ H₀,PF (jf X N' scope C fp s₀ H₀) ifs tt) (he:∀ C fp s₀ H₀,PE (jf X N' scope C fp s₀ H₀) elt te)
  (hN:X.N.Nodup) (hy:X.N[i]? = some y) (hl:X.env.scope.names.lookup y=some .local) (hsw:swapsWith (.ListComp elt [⟨tg,iter,ifs,0⟩] scope pos) (some (.Name y py)) spos.line X.env=pure true)
  (hs:∀ x,foldedSetIterable iter X.env x=pure x:=by intro _;rfl):PS X (.Assign [.Name y py] (.ListComp elt [⟨tg,iter,ifs,0⟩] scope pos) spos) (tAsg (tComp ix wi g tt te) (jm i)):=by
 intro pins s σ H D I h
 rw[exec_Assign_Name_used _ _ _ _ hsw]
 refine AA (Ec (AA ?_))
 rw[arm_evalThenUse_ListComp]
 refine AA (thn (Do (use:=some (assign (.Name y py) X.env)) (Q:=fun _ s'=>SP X pins D .next s') rfl hs (Z8 (S.has I.ok)) S.kind S.locs
  (thn (hi pins s σ H _ I h) fun v s1 h1=>thn h1 fun itv s2 h2=>?_)) fun _ s' q=>AF (AF q))
 obtain⟨it,fp,tn,J,H2,e,I2,T,st2,f2,q⟩:=h2
 subst e
 refine Jn (Q:=fun x H1=>jm i x σ H1 D.nx) (Z:=fun acc C=>compPost (model X.prog X.w) X.A X.xe (some (assign (.Name y py) X.env)) (fun _ s'=>SP X pins D .next s') acc C) S hc hg ht he I2 T st2 f2 q ?_
 intro Dl C H' s' m I' hn hC hz qD
 have neL:C ≠ X.env.locals:=fun z=>absurd (AS I2.lt (by rw[<- z];exact hz)) (Ax _)
 have neC:∀ x c,X.env.cells.lookup x=some c->c ≠ C:=fun x c e z=>by obtain⟨v,w⟩:=I2.cell x c e;exact absurd (AS w.lt (by rw[z];exact hz)) (Ax _)
 show wpAny (model X.prog X.w) X.A (assign (.Name y py) X.env (.ref Dl)) _ X.xe s'
 refine Ek (Qu I' hN hy (.inl hl) (show RelV (.ref Dl) (.ref Dl) from rfl) (fun s'' J' ⟨a,sb,ha⟩=>?_) (.inr hl))
 have na:C ≠ a:=by
  rcases ha with z | z
  ·rw[z];exact neL
  ·exact Af (neC y a z)
 refine⟨m,hn.sameBut sb na,fun h' sb'=>?_⟩
 have I'':Inv X pins (σ.set i (some (.ref Dl))) H' { s'' with heap:=h',toks:=s''.toks }:=J'.turned (it:=C) (fun b o hb e=>(sb'.2 b hb).trans e) hC neL (.inr (Aq I2.sz hz)) neC
  (fun p hp z=>absurd (AS (AL (I2.pin p hp).1) (by rw[z];exact hz)) (Ax _))
 exact⟨_,H',I'',qD⟩
end
theorem bt_abs:bootBuiltins "abs" = some (.builtin "abs"):=by ac_rfl
theorem qH:bootBuiltins "len" = some (.builtin "len"):=by ac_rfl
theorem YV:bootBuiltins "all" = some (.builtin "all"):=by ac_rfl
theorem zu:bootBuiltins "isinstance" = some (.builtin "isinstance"):=by ac_rfl
theorem YW:bootBuiltins "int" = some (.type "int"):=by ac_rfl
theorem bt_bool:bootBuiltins "bool" = some (.type "bool"):=by ac_rfl
theorem YX:bootBuiltins "str" = some (.type "str"):=by ac_rfl
theorem zW:bootBuiltins "tuple" = some (.type "tuple"):=by ac_rfl
theorem ZI:bootBuiltins "list" = some (.type "list"):=by ac_rfl
def Def (P:Program) (w:World) (K:Fs) (mg:Str->Option Value) (base:Heap) (k:Nat) (x:Str) (ps:List Str) (sp:Sp):Prop:=
 ∃ (f:Addr) (fd:FuncData),jO P w K mg base CX0 k f fd ps sp/\mg x=some (.ref f)/\PySem.W.keepIn K (.ref f)=true/\Binds K fd ps []
section
variable {X:Cx}
theorem zG {k k':Nat} {x:Str} {ps:List Str} {sp:Sp} {e:Expr} {es:List Expr} {t:TA} {p pos:Pos} (D:Def X.prog X.w X.K X.mg X.base k x ps sp) (hr:jY k' X.A) (hk:k<=k') (hg:Gl X x) (ha:PA X (e :: es) t)
  (hdb:(x == ("__debug__" : Str))=false:=by decide) (he:starEach (e :: es) X.env=(false,eval e X.env) :: starEach es X.env:=by rfl) (hpl:(backTo pos (starEach es X.env)).any (·.1)=false:=by rfl) :
  PE X (.Call (.Name x p) (e :: es) [] pos) (tCall sp [] E0 t):=by
 obtain⟨f,fd,F,m,kp,b⟩:=D
 exact YM F (hr.mono hk) hg m kp b .nil pass0 ha hdb he hpl
theorem YY:qQ X (.builtin "isinstance") (fun xs H Q=>∃ x n t b,xs=[x,.ty n]/\yi X.K H x t/\PySem.W.kitOne X.K t (.type n)=some b/\Q (.bl b) H):=by
 intro pins s σ H xs us Q I r h
 obtain⟨x,n,t,b,rfl,ty,e,q⟩:=h
 obtain⟨u,w',rfl,r1,r2⟩:=Ws r
 cases r2
 exact YL I r1 ty e fun tk=>⟨.bl b,H,I.tok tk,rfl,q⟩
theorem ju {K:Fs} (n:String):PySem.W.kitOne K (.type n) (.type n)=some true:=by simp[PySem.W.kitOne]
theorem wD {K:Fs}:PySem.W.kitOne K (.type "int") (.type "bool")=some false:=by rfl
def Its (z:Str):It:=⟨fun i _=>i < z.cps.size,fun i H x H'=>H'=H/\∃ c,z.cps[i]? = some c/\x=.str ⟨#[c]⟩,fun i _=>z.cps.size<=i⟩
def iStr (tl:TE):TI:=fun σ H R=>tl σ H fun x H1=>∃ z,x=.str z/\R (Its z) H1
theorem turn_str {P:Program} {w:World} {K:Fs} {tg:Expr} {z:Str} {tk:Tok} {it:Addr} {ty:String} (hty:ty = "str_ascii_iterator" \/ ty = "str_iterator") :
  Turn P w K tg (Its z) [it] it (fun i h=>h.IsStrIter it ty z tk i/\i<=z.cps.size) where
 mem:=by simp
 obj:=fun i h st b hb=>by
  have e:b=it:=by simpa using hb
  subst e
  obtain⟨⟨o,h1,h2,h3⟩,_⟩:=st
  exact⟨o,h1,fun v q=>by rw[h3] at q;cases q⟩
 keep:=fun i h h' st k=>by
  obtain⟨⟨o,h1,h2⟩,h3⟩:=st
  exact⟨⟨o,k it (by simp) o h1,h2⟩,h3⟩
 item:=by
  intro X hP hw hK hc i pins s σ H E I hf st hg
  subst hP hw hK
  obtain⟨f0,f1,f2,f3,f4,f5⟩:=hf it (by simp)
  have fin:∀ (v:Value) (h':Heap) (tk':Nat),SignAt z i v->h'.IsStrIter it ty z tk (i+1)->(∀ b o,b ∉ [it]->s.heap.get? b=some o->h'.get? b=some o) ->
    ∃ u,some v=some u/\wpAny (model X.prog X.w) X.A (letOwnedTupleGo tg (.ref it) u) (fun _ s2=>∃ x H',Inv X pins σ H' s2/\RelV x u/\(Its z).yld i H x H'/\(s2.heap.IsStrIter it ty z tk (i+1)/\i+1<=z.cps.size)/\∀ b ∈ [it],H' b=none) E { s with heap:=h',toks:=tk' }:=by
   intro v h' tk' hv st' kk
   obtain⟨c,t,hcx,rfl⟩:=hv
   have I1:Inv X pins σ H { s with heap:=h',toks:=tk' }:=I.turned (fun b o hb e=>kk b o (by simpa using hb) e) f0 f1 f3 f4 f5
   obtain⟨o,h1,h2,h3⟩:=id st'
   refine⟨_,rfl,YB (s:={ s with heap:=h',toks:=tk' }) (n:=ty) h1 h2 h3 ?_ ⟨.str ⟨#[c]⟩,H,I1,⟨t,rfl⟩,⟨rfl,c,hcx,rfl⟩,⟨st',hg⟩,fun b hb=>(hf b hb).1⟩⟩
   rcases hty with rfl | rfl <;> decide
  rcases hty with rfl | rfl
  ·exact (Walks.strAscii (I.ok.hd hc) it z tk).item i s _ _ hg st.1 fun v h' tk' hv st' kk=>fin v h' tk' hv st' kk
  ·exact (Walks.strWide (I.ok.hd hc) it z tk).item i s _ _ hg st.1 fun v h' tk' hv st' kk=>fin v h' tk' hv st' kk
 done:=by
  intro X hP hw hK hc i pins s σ H E I hf st hg
  subst hP hw hK
  obtain⟨f0,f1,f2,f3,f4,f5⟩:=hf it (by simp)
  have e:i=z.cps.size:=Nat.le_antisymm st.2 hg
  subst e
  rcases hty with rfl | rfl
  ·exact (Walks.strAscii (I.ok.hd hc) it z tk).done s _ _ st.1 fun h' tk' kk=>⟨rfl,I.turned (fun b o hb e=>kk b o (by simpa using hb) e) f0 f1 f3 f4 f5⟩
  ·exact (Walks.strWide (I.ok.hd hc) it z tk).done s _ _ st.1 fun h' tk' kk=>⟨rfl,I.turned (fun b o hb e=>kk b o (by simpa using hb) e) f0 f1 f3 f4 f5⟩
 self:=fun A i s Q E st h=>by
  rcases hty with rfl | rfl
  ·exact wpAny_pyIter_striter_ascii st.1 h
  ·exact wpAny_pyIter_striter_wide st.1 h
theorem pi_str {tg l:Expr} {tl:TE} (hl:PE X l tl):PI X tg l (iStr tl):=by
 intro pins s σ H R I h
 refine thn (hl pins s σ H _ I h) fun v s1 ⟨x,H1,I1,r1,q1⟩=>?_
 obtain⟨z,rfl,q⟩:=q1
 obtain⟨t,rfl⟩:=r1
 have fin:∀ ty:String,ty = "str_ascii_iterator" \/ ty = "str_iterator" -> PIE X pins σ tg R (.ref s1.heap.objs.size) { s1 with heap:=s1.heap.push { cls:=.type ty,data:=.fields #[.str z t,.int 0 0] } }:=fun ty hty=>by
  refine⟨s1.heap.objs.size,[s1.heap.objs.size],_,_,H1,rfl,I1.kept (t':=s1.toks) fun b o e=>AC _ e,turn_str (z:=z) (tk:=t) hty,⟨⟨_,AK _ rfl,rfl,rfl⟩,A6 _⟩,fun b hb=>?_,q⟩
  have e:b=s1.heap.objs.size:=by simpa using hb
  subst e
  exact I1.fpOk (AG _) (I1.hok.fresh (AG _))
 cases ha:z.cps.all (· < 128)
 ·exact wpAny_pyIter_wide ha (fin _ (.inr rfl))
 ·exact wpAny_pyIter_ascii ha (fin _ (.inl rfl))
def rSlS:V->Option Int->Option Int->Hp->VK->Prop:=fun x lo hi H Q=>∃ z,x=.str z/\z.length<=sizeLine/\Q (.str (PySem.Txt.slice z lo hi)) H
theorem sl_str:SlR X rSlS:=by
 intro pins s σ H x v vl vu lo hi sl Q I rx hs pl pu h
 obtain⟨z,rfl,hz,q⟩:=h
 obtain⟨t,rfl⟩:=rx
 refine⟨"str",_,F.slot_str_getitem.lookup,typeIs_str _ _ _,?_⟩
 cases pl with
 | none=>
  cases pu with
  | none=>exact C3 (l:=none) (u:=none) (st:=none) hs rfl (D9 ⟨Aq (DM z _ _) hz,fun t' k=>⟨.str _,H,I.tok k,⟨t',rfl⟩,q⟩⟩)
  | int j uj=>exact C3 (l:=none) (u:=some (j,uj)) (st:=none) hs rfl (D9 ⟨Aq (DM z _ _) hz,fun t' k=>⟨.str _,H,I.tok k,⟨t',rfl⟩,q⟩⟩)
 | int i ui=>
  cases pu with
  | none=>exact C3 (l:=some (i,ui)) (u:=none) (st:=none) hs rfl (D9 ⟨Aq (DM z _ _) hz,fun t' k=>⟨.str _,H,I.tok k,⟨t',rfl⟩,q⟩⟩)
  | int j uj=>exact C3 (l:=some (i,ui)) (u:=some (j,uj)) (st:=none) hs rfl (D9 ⟨Aq (DM z _ _) hz,fun t' k=>⟨.str _,H,I.tok k,⟨t',rfl⟩,q⟩⟩)
theorem sl_any:SlR X (fun x lo hi H Q=>rSlL X.K x lo hi H Q\/(rSlT X.K x lo hi H Q\/rSlS x lo hi H Q)):=sl_list.or (sl_tup.or sl_str)
end
def cW (R:St->Prop) (P:Nat->List V->Hp->Prop) (n:Nat) (D:Addr):Nat->Nat->St->Hp->Prop:=fun i m σ' H=>m=n - i/\i<=n/\R σ'/\∃ ys,P i ys H/\H D=some (.lst ys)
def YZ (R:St->Prop) (P:Nat->List V->Hp->Prop) (n:Nat) (D:Addr) (σ:St) (i:Nat):VK:=fun v H5=>∃ xs,H5 D=some (.lst xs)/\xs.length < sizeLine/\∃ m',m' < n - i/\cW R P n D (i+1) m' σ (upd H5 D (.lst (xs++[v])))
def cNo (R:St->Prop) (P:Nat->List V->Hp->Prop) (n:Nat) (D:Addr) (σ:St) (i:Nat):Hp->Prop:=fun H4=>∃ m',m' < n - i/\cW R P n D (i+1) m' σ H4
theorem ZP {R:St->Prop} {P:Nat->List V->Hp->Prop} {n:Nat} {D:Addr} {σ:St} {i:Nat} {ys:List V} {v:V} {H:Hp} (hi:i < n) (r:R σ) (h:H D=some (.lst ys)) (hl:ys.length < sizeLine) (p:P (i+1) (ys++[v]) (upd H D (.lst (ys++[v])))):YZ R P n D σ i v H:=
 ⟨ys,h,hl,n - (i+1),by omega,rfl,hi,r,_,p,zd⟩
theorem cno {R:St->Prop} {P:Nat->List V->Hp->Prop} {n:Nat} {D:Addr} {σ:St} {i:Nat} {ys:List V} {H:Hp} (hi:i < n) (r:R σ) (h:H D=some (.lst ys)) (p:P (i+1) ys H):cNo R P n D σ i H:=
 ⟨n - (i+1),by omega,rfl,hi,r,_,p,h⟩
theorem j4 {J:It} {g:TG} {tt:TT} {te:TE} {σ0:St} {H1:Hp} {Q:VK} {D:Addr} {n:Nat} {xv:Nat->V} {st:Nat->St} (R:St->Prop) (P:Nat->List V->Hp->Prop) (r0:R σ0) (h0:P 0 [] (upd H1 D (.lst [])))
  (hj:∀ i ys H,i < n->P i ys H->H D=some (.lst ys)->J.go i H/\∀ x H2,J.yld i H x H2->H2=H/\x=xv i) (he:∀ ys H,P n ys H->H D=some (.lst ys)->J.stop n H)
  (hg:∀ i ys σ' H (K:St->Hp->Prop),i < n->R σ'->P i ys H->K (st i) H->g (xv i) σ' H K)
  (hs:∀ i ys H,i < n->P i ys H->H D=some (.lst ys)->tt (st i) H fun b H4=>if b=true then te (st i) H4 (YZ R P n D (st i) i) else cNo R P n D (st i) i H4)
  (hd:∀ ys H,P n ys H->H D=some (.lst ys)->Q (.ref D) H) :
  jt J g tt te σ0 H1 Q D:=by
 refine⟨cW R P n D,⟨n,by simp[cW,r0];exact⟨_,h0,zd⟩⟩,?_⟩
 rintro i m σ' H' ⟨rfl,hi,r,ys,p,hD⟩
 by_cases hlt:i < n
 ·obtain⟨g1,g2⟩:=hj i ys H' hlt p hD
  refine .inr ⟨g1,fun x H2 y=>?_⟩
  obtain⟨rfl,rfl⟩:=g2 x H2 y
  exact hg i ys σ' H2 _ hlt r p (hs i ys H2 hlt p hD)
 ·have e:i=n:=by omega
  subst e
  exact .inl ⟨he ys H' p hD,hd ys H' p hD⟩
def wE (t:Nat) (σ0:St):St->Prop:=fun σ'=>∀ v,σ'.set t v=σ0.set t v
theorem Y0 {t:Nat} {σ0:St}:wE t σ0 σ0:=fun _=>rfl
theorem jg {t:Nat} {σ0:St} {x:Option V}:wE t σ0 (σ0.set t x):=fun v=>by rw[List.set_set]
theorem qc {t:Nat} {tt:TT} {te:TE} {σ0:St} {H1:Hp} {Q:VK} {D:Addr} {lo:Int} {n:Nat} (P:Nat->List V->Hp->Prop) (h0:P 0 [] (upd H1 D (.lst [])))
  (hs:∀ i ys H,i < n->P i ys H->H D=some (.lst ys)->tt (σ0.set t (some (.int (lo+i)))) H fun b H4=>if b=true then te (σ0.set t (some (.int (lo+i)))) H4 (YZ (wE t σ0) P n D (σ0.set t (some (.int (lo+i)))) i) else cNo (wE t σ0) P n D (σ0.set t (some (.int (lo+i)))) i H4)
  (hd:∀ ys H,P n ys H->H D=some (.lst ys)->Q (.ref D) H) :
  jt (Itr lo n) (jm t) tt te σ0 H1 Q D:=
 j4 (xv:=fun i=>.int (lo+i)) (st:=fun i=>σ0.set t (some (.int (lo+i)))) (wE t σ0) P Y0 h0 (fun i _ H hi _ _=>⟨hi,fun x H2 y=>y⟩) (fun _ _ _ _=>AG n)
  (fun i _ σ' H K _ r _ k=>by show K (σ'.set t (some (.int (lo+i)))) H;rw[r];exact k) hs hd
theorem Zp {K:Fs} {a:Addr} {xs:List V} {t:Nat} {tt:TT} {te:TE} {σ0:St} {H1:Hp} {Q:VK} {D:Addr} (P:Nat->List V->Hp->Prop) (h0:P 0 [] (upd H1 D (.lst []))) (hl:∀ i ys H,P i ys H->H D=some (.lst ys)->SqL K H a xs)
  (hs:∀ i ys H x,xs[i]? = some x->P i ys H->H D=some (.lst ys)->tt (σ0.set t (some x)) H fun b H4=>if b=true then te (σ0.set t (some x)) H4 (YZ (wE t σ0) P xs.length D (σ0.set t (some x)) i) else cNo (wE t σ0) P xs.length D (σ0.set t (some x)) i H4)
  (hd:∀ ys H,P xs.length ys H->H D=some (.lst ys)->Q (.ref D) H) :
  jt (Itl K a) (jm t) tt te σ0 H1 Q D:=by
 have get:∀ i,i < xs.length->xs[i]? = some (xs.getD i .non):=fun i hi=>by simp[List.getD,hi]
 refine j4 (xv:=fun i=>xs.getD i .non) (st:=fun i=>σ0.set t (some (xs.getD i .non))) (wE t σ0) P Y0 h0 (fun i ys H hi p hD=>⟨⟨xs,_,hl i ys H p hD,get i hi⟩,fun x H2 y=>⟨y.1,?_⟩⟩) (fun ys H p hD=>⟨xs,hl _ ys H p hD,AG _⟩)
  (fun i _ σ' H K _ r _ k=>by show K (σ'.set t (some (xs.getD i .non))) H;rw[r];exact k) (fun i ys H hi p hD=>hs i ys H _ (get i hi) p hD) hd
 have e:=y.2 xs (hl i ys H p hD)
 rw[get i hi] at e
 exact (AH e).symm
theorem Qm {K:Fs} {a:Addr} {xs:List V} {t:Nat} {tt:TT} {te:TE} {σ0:St} {H1:Hp} {Q:VK} {D:Addr} (P:Nat->List V->Hp->Prop) (h0:P 0 [] (upd H1 D (.lst []))) (hl:∀ i ys H,P i ys H->H D=some (.lst ys)->SqT K H a xs)
  (hs:∀ i ys H x,xs[i]? = some x->P i ys H->H D=some (.lst ys)->tt (σ0.set t (some x)) H fun b H4=>if b=true then te (σ0.set t (some x)) H4 (YZ (wE t σ0) P xs.length D (σ0.set t (some x)) i) else cNo (wE t σ0) P xs.length D (σ0.set t (some x)) i H4)
  (hd:∀ ys H,P xs.length ys H->H D=some (.lst ys)->Q (.ref D) H) :
  jt (Itt K a) (jm t) tt te σ0 H1 Q D:=by
 have get:∀ i,i < xs.length->xs[i]? = some (xs.getD i .non):=fun i hi=>by simp[List.getD,hi]
 refine j4 (xv:=fun i=>xs.getD i .non) (st:=fun i=>σ0.set t (some (xs.getD i .non))) (wE t σ0) P Y0 h0 (fun i ys H hi p hD=>⟨⟨xs,_,hl i ys H p hD,get i hi⟩,fun x H2 y=>⟨y.1,?_⟩⟩) (fun ys H p hD=>⟨xs,hl _ ys H p hD,AG _⟩)
  (fun i _ σ' H K _ r _ k=>by show K (σ'.set t (some (xs.getD i .non))) H;rw[r];exact k) (fun i ys H hi p hD=>hs i ys H _ (get i hi) p hD) hd
 have e:=y.2 xs (hl i ys H p hD)
 rw[get i hi] at e
 exact (AH e).symm
theorem comp_str {z:Str} {t:Nat} {tt:TT} {te:TE} {σ0:St} {H1:Hp} {Q:VK} {D:Addr} (P:Nat->List V->Hp->Prop) (h0:P 0 [] (upd H1 D (.lst [])))
  (hs:∀ i ys H c,z.cps[i]? = some c->P i ys H->H D=some (.lst ys)->tt (σ0.set t (some (.str ⟨#[c]⟩))) H fun b H4=>if b=true then te (σ0.set t (some (.str ⟨#[c]⟩))) H4 (YZ (wE t σ0) P z.cps.size D (σ0.set t (some (.str ⟨#[c]⟩))) i) else cNo (wE t σ0) P z.cps.size D (σ0.set t (some (.str ⟨#[c]⟩))) i H4)
  (hd:∀ ys H,P z.cps.size ys H->H D=some (.lst ys)->Q (.ref D) H) :
  jt (Its z) (jm t) tt te σ0 H1 Q D:=by
 have get:∀ i,i < z.cps.size->z.cps[i]? = some (z.cps.getD i 0):=fun i hi=>by simp[Array.getD,hi]
 refine j4 (xv:=fun i=>.str ⟨#[z.cps.getD i 0]⟩) (st:=fun i=>σ0.set t (some (.str ⟨#[z.cps.getD i 0]⟩))) (wE t σ0) P Y0 h0 (fun i ys H hi p hD=>⟨hi,fun x H2 y=>⟨y.1,?_⟩⟩) (fun ys H p hD=>AG _)
  (fun i _ σ' H K _ r _ k=>by show K (σ'.set t (some (.str ⟨#[z.cps.getD i 0]⟩))) H;rw[r];exact k) (fun i ys H hi p hD=>hs i ys H _ (get i hi) p hD) hd
 obtain⟨c,e,ex⟩:=y.2
 rw[get i hi] at e
 rw[ex,<- AH e]
theorem yes {σ:St} {H:Hp} {A B:Hp->Prop} (h:A H):tYes σ H fun b H4=>if b=true then A H4 else B H4:=by
 show if true=true then A H else B H
 rw[if_pos rfl]
 exact h
section
variable {X:Cx} (K:Fs)
theorem zr (hK:X.K=K:=by rfl):IxR X (rIx K):=hK ▸ ix_seq
theorem Zq (hK:X.K=K:=by rfl):SlR X (fun x lo hi H Q=>rSlL K x lo hi H Q\/(rSlT K x lo hi H Q\/rSlS x lo hi H Q)):=hK ▸ sl_any
theorem zS (hK:X.K=K:=by rfl):qQ X (.builtin "len") (fun xs H Q=>∃ x n,xs=[x]/\LenV K x H n/\Q (.int n) H):=hK ▸ call_len
theorem ZU (hK:X.K=K:=by rfl):qQ X (.type "list") (fun xs H Q=>∃ p ys,xs=[.ref p]/\(SqL K H p ys\/SqT K H p ys)/\∀ l,H l=none->Q (.ref l) (upd H l (.lst ys))):=hK ▸ wx
theorem zw (hK:X.K=K:=by rfl):qQ X (.type "tuple") (fun xs H Q=>∃ p ys,xs=[.ref p]/\((SqL K H p ys/\∀ l,H l=none->Q (.ref l) (upd H l (.tup ys)))\/(SqT K H p ys/\Q (.ref p) H))):=hK ▸ JE
theorem qM (hK:X.K=K:=by rfl):qQ X (.builtin "isinstance") (fun xs H Q=>∃ x n t b,xs=[x,.ty n]/\yi K H x t/\PySem.W.kitOne K t (.type n)=some b/\Q (.bl b) H):=hK ▸ YY
theorem qk {tg l:Expr} {tl:TE} (hl:PE X l tl) (hK:X.K=K:=by rfl):PI X tg l (iList K tl):=hK ▸ pi_list hl
theorem qS {tg l:Expr} {tl:TE} (hl:PE X l tl) (hK:X.K=K:=by rfl):PI X tg l (iTup K tl):=hK ▸ pi_tup hl
theorem jU {o e:Expr} {es:List Expr} {to:TE} {t:TA} {name:Str} {apos cpos:Pos} {T id:String} {r:V->List V->Hp->VK->Prop} (pa:PlainAttrs T) (slot:Slot T name id) (hty:typeOf (.builtin id)=pure (.type "method_descriptor")) (hm:MtR X id r) (ho:PE X o to) (ha:PA X (e :: es) t)
  (hbase:attributeBase o name X.env (eval o X.env)=eval o X.env:=by rfl)
  (hfew:((backTo cpos (starEach (e :: es) X.env)).all (fun x=>!x.1) && (backToKw cpos (keywordEach [] X.env)).all (fun x=>x.1.isSome)
   && decide ((e :: es).length+([]:List Keyword).length+(if ([]:List Keyword).isEmpty then 0 else 1) < 30))=true:=by rfl)
  (hline:(apos.endLine == cpos.line)=true:=by rfl) (hs:starEach (e :: es) X.env=(false,eval e X.env) :: starEach es X.env:=by rfl) (hplain:(backTo cpos (starEach es X.env)).any (·.1)=false:=by rfl) (hK:X.K=K:=by rfl) :
  PE X (.Call (.Attribute o name apos) (e :: es) [] cpos) (tBM K T r to t):=hK ▸ pe_bm pa slot hty hm ho ha hbase hfew hline hs hplain
theorem kpe_bm0 {o:Expr} {to:TE} {name:Str} {apos cpos:Pos} {T id:String} {r:V->List V->Hp->VK->Prop} (pa:PlainAttrs T) (slot:Slot T name id) (hty:typeOf (.builtin id)=pure (.type "method_descriptor")) (hm:MtR X id r) (ho:PE X o to)
  (hbase:attributeBase o name X.env (eval o X.env)=eval o X.env:=by rfl) (hline:(apos.endLine == cpos.line)=true:=by rfl) (hK:X.K=K:=by rfl):PE X (.Call (.Attribute o name apos) [] [] cpos) (tBM0 K T r to):=hK ▸ pe_bm0 pa slot hty hm ho hbase hline
theorem jp {es:List Expr} {k:Nat} {pos:Pos} {t:TGs} {n:Nat} (hc:X.calm=true) (h:PGs X es t) (hn:(assignEach es X.env).length=n:=by rfl) (hst:(assignEach es X.env).findIdx? (·.1)=none:=by rfl) (hK:X.K=K:=by rfl):PG X (.Tuple es k pos) (gTup K n t):=hK ▸ pg_tup hc h hn hst
end
section
variable {X:Cx}
end
structure Fly (l:List Env) (H':Hp) (old:Heap) (e:Addr) (cls:Value) (h:Heap):Prop where
 ex:∃ B a0,Heap.FlyingW B l e cls a0 h/\∀ b o,h.get? b=some o->b ∉ frs l->((∃ u,H' b=some u)\/∃ u,old.get? b=some u)->B.get? b=some o
 new:H' e=none
 nold:old.get? e=none
def CX1 (P:Program) (w:World):CXT:=fun outer H s E e s'=>∃ (ea:Addr) (cls:Value) (H':Hp),e=.ref ea/\s'.os=s.os/\AllBare s'.gens/\Un (frs outer) [] H H' s.heap s'.heap/\HOk P w H' s'.heap/\Fly outer H' s.heap ea cls s'.heap/\E cls none H'
theorem qd.some {P:Program} {w:World} {H:Hp} {h:Heap} {a:Addr} {o:HO} (x:qd P w H h a o):∃ ob,h.get? a=some ob:=by
 cases o with
 | lst xs=>obtain⟨_,_,_,_,e⟩:=x;exact⟨_,e⟩
 | tup xs=>obtain⟨_,_,_,o,e,_⟩:=x;exact⟨_,e⟩
 | dK kvs=>obtain⟨_,_,_,_,o,_,_,e,_⟩:=x;exact⟨_,e⟩
 | dT kvs=>obtain⟨_,_,_,_,o,_,_,e,_⟩:=x;exact⟨_,e⟩
 | set S n=>obtain⟨o,_,_,_,e,_⟩:=x;exact⟨_,e⟩
 | ins C dx fs=>obtain⟨_,_,_,e,_⟩:=x;exact⟨_,e⟩
 | own y=>exact x
 | xd fs=>obtain⟨_,⟨_,_,_,e,_⟩,_⟩:=x;exact⟨_,e⟩
 | rng lo hi=>obtain⟨_,_,_,e⟩:=x;exact⟨_,e⟩
 | frz ob u=>obtain⟨e,_⟩:=x;exact⟨_,e⟩
 | tbl ps=>exact⟨_,x⟩
 | met f y=>exact⟨_,x⟩
 | ext φ=>obtain⟨_,z,_⟩:=x;exact z
section
variable {X:Cx} {pins:List (Addr × Obj)} {σ:St} {H H':Hp} {s s':Shared} {h2:Heap}
theorem Inv.left (I:Inv X pins σ H s) (hex:X.ex=[]) (k:∀ b o,s.heap.get? b=some o->b ∉ frs X.stack->((∃ u,H b=some u)\/∃ u,X.s₀.heap.get? b=some u)->h2.get? b=some o)
  (sl:∀ b o,s.heap.get? b=some o->b ∈ frs X.outer->∃ q,h2.get? b=some { o with slots:=q }):Un (frs X.outer) [] X.H₀ H X.s₀.heap h2/\HOk X.prog X.w H h2:=by
 have nx:∀ b,b ∉ X.ex:=fun b z=>by rw[hex] at z;exact absurd z (by simp)
 have neL:∀ b o,X.s₀.heap.get? b=some o->b ≠ X.env.locals:=fun b o e=>AU (AS (AL e) I.ok.above)
 have nst:∀ b,b ≠ X.env.locals->b ∉ frs X.outer->b ∉ frs X.stack:=fun b h1 h3 z=>(Al.mp (I.stkSub b z)).elim h1 h3
 refine⟨⟨fun b o e n nf _=>?_,fun b o e n hb _=>?_,fun b o e n _=>I.base.free b o e n (nx b),fun b o e _=>?_,I.base.tups,I.base.frzs,I.base.tbls⟩,fun a o e=>?_⟩
 ·exact k b o (I.base.keep b o e n nf (nx b)) (nst b (neL b o e) nf) (.inr ⟨o,e⟩)
 ·obtain⟨q,e1⟩:=I.base.slot b o e n hb (nx b)
  obtain⟨q',e2⟩:=sl b _ e1 hb
  exact⟨q',e2⟩
 ·obtain⟨o',e1⟩:=I.base.there b o e (nx b)
  by_cases hb:b ∈ frs X.outer
  ·obtain⟨q,e2⟩:=sl b o' e1 hb
   exact⟨_,e2⟩
  ·exact⟨o',k b o' e1 (nst b (neL b o e) hb) (.inr ⟨o,e⟩)⟩
 ·refine (I.hok a o e).stay (fun b u hb q=>?_) (fun _ q=>q) fun _ _ q=>q
  have ht:∃ u,H b=some u:=by
   rcases hb with z | z
   ·exact⟨o,by rw[z];exact e⟩
   ·exact⟨_,z⟩
  refine k b u q (fun z=>?_) (.inl ht)
  obtain⟨v,hv⟩:=ht
  rw[I.stkFree b z] at hv
  cases hv
theorem Inv.cov (I:Inv X pins σ H s) (hex:X.ex=[]) {b:Addr} (h:(∃ u,H b=some u)\/∃ u,X.s₀.heap.get? b=some u):(∃ o,s.heap.get? b=some o)/\b ≠ X.env.locals:=by
 rcases h with ⟨u,e⟩ | ⟨u,e⟩
 ·refine⟨(I.hok b u e).some,fun z=>?_⟩
  rw[z,I.free] at e
  cases e
 ·exact⟨I.base.there b u e (by rw[hex];simp),AU (AS (AL e) I.ok.above)⟩
end
def Thrown (X:Cx) (E:XK):Prop:=∀ (pins:List (Addr×Obj)) (σ:St) (H:Hp) (s:Shared) (h':Heap) (e:Addr) (cls:Value) (vs:List Value),Inv X pins σ H s->Heap.MadeExcOf s.heap h' e cls vs->E cls none H->X.xe (.ref e) { s with heap:=h' }
section
variable {P:Program} {w:World} {K:Fs} {mg:Str->Option Value} {base:Heap} {N:List Str} {qual:Str} {scope:Scope} {f:Addr} {cd:Value} {A:Around} {outer:List Env} {s:Shared} {H:Hp} {E:XK}
theorem frs_mem {l:List Env}:∀ env ∈ l,∀ b,env.frame=some b->b ∈ frs l:=fun env he b hb=>EK.mpr ⟨env,he,hb⟩
theorem thrown1:Thrown (Yt (CX1 P w) P w K mg base N qual scope f cd A outer s H E) E:=by
 intro pins σ H1 s1 h' e cls vs I hm q
 have hex:(Yt (CX1 P w) P w K mg base N qual scope f cd A outer s H E).ex=[]:=rfl
 have hst:(Yt (CX1 P w) P w K mg base N qual scope f cd A outer s H E).stack=envOfC qual scope s.heap.objs.size f cd :: outer:=rfl
 have fin:∀ b o,s1.heap.get? b=some o->b ∉ frs (envOfC qual scope s.heap.objs.size f cd :: outer)->(PySem.W.hideAll s1.heap (frs (envOfC qual scope s.heap.objs.size f cd :: outer))).get? b=some o:=fun b o e1 nb=>PySem.W.hideAll_get _ e1 nb
 refine wpAny_leaves_madeW (base:=PySem.W.hideAll s1.heap (frs (envOfC qual scope s.heap.objs.size f cd :: outer))) (h:=s1.heap) (L:=s.heap.objs.size) I.ok.frames rfl (fun b o z=>PySem.W.of_hideAll _ z)
  (PySem.W.funFrames_hide I.stack frs_mem) hm fun h'' t fl tp bt up=>?_
 have k:∀ b o,s1.heap.get? b=some o->b ∉ frs (envOfC qual scope s.heap.objs.size f cd :: outer)->((∃ u,H1 b=some u)\/∃ u,s.heap.get? b=some u)->h''.get? b=some o:=fun b o e1 nb _=>fl.1 b o (fin b o e1 nb)
 obtain⟨un,hok⟩:=I.left (h2:=h'') hex k (fun b o e1 hb=>up b o (hm.keeps b o e1) (by
  obtain⟨_,o2,e2,nf⟩:=I.funs.mem hb
  rw[e1] at e2
  cases e2
  exact nf))
 have hnew:H1 e=none:=by
  cases z:H1 e with
  | none=>rfl
  | some u=>
   obtain⟨ob,eo⟩:=(I.hok e u z).some
   rw[hm.new] at eo
   cases eo
 refine⟨e,cls,H1,rfl,I.os,I.bare,un,hok,⟨⟨_,_,fl,fun b o e1 nb hc=>?_⟩,hnew,?_⟩,q⟩
 ·obtain⟨⟨o',eo⟩,neL⟩:=I.cov hex hc
  have nb':b ∉ frs (envOfC qual scope s.heap.objs.size f cd :: outer):=fun z=>(Al.mp (I.stkSub b z)).elim neL nb
  have e2:=fl.1 b o' (fin b o' eo nb')
  have e3:o=o':=AH (e1.symm.trans e2)
  rw[e3]
  exact fin b o' eo nb'
 ·cases z:s.heap.get? e with
  | none=>rfl
  | some u=>
   obtain⟨ob,eo⟩:=I.base.there e u z (by rw[hex];simp)
   rw[hm.new] at eo
   cases eo
theorem pass1 {E':XK} (hE:∀ c d H,E' c d H->E c d H):wm (CX1 P w) (Yt (CX1 P w) P w K mg base N qual scope f cd A outer s H E) E':=by
 intro pins σ Hc sc e s' I h
 obtain⟨ea,cls,H',rfl,os,bare,un,hok,fly,q⟩:=h
 have hex:(Yt (CX1 P w) P w K mg base N qual scope f cd A outer s H E).ex=[]:=rfl
 have I':=I.call' os un hok bare (fun b z=>absurd z (by simp))
 obtain⟨B,a0,fl,cv⟩:=fly.ex
 have cv':∀ b o,s'.heap.get? b=some o->b ∉ frs (envOfC qual scope s.heap.objs.size f cd :: outer)->((∃ u,H' b=some u)\/∃ u,s.heap.get? b=some u)->B.get? b=some o:=fun b o e1 nb hc=>cv b o e1 nb (by
  rcases hc with z | ⟨u,z⟩
  ·exact .inl z
  ·exact .inr (I.base.there b u z (by rw[hex];simp)))
 refine wpAny_leaves_onW (L:=s.heap.objs.size) I'.ok.frames rfl fl fun h'' fl2 up=>?_
 obtain⟨un2,hok2⟩:=I'.left (h2:=h'') hex (fun b o e1 nb hc=>fl2.1 b o (cv' b o e1 nb hc)) (fun b o e1 hb=>up b o e1 (by
  obtain⟨_,o2,e2,nf⟩:=I'.funs.mem hb
  rw[e1] at e2
  cases e2
  exact nf))
 refine⟨ea,cls,H',rfl,I'.os,I'.bare,un2,hok2,⟨⟨B,a0,fl2,fun b o e1 nb hc=>?_⟩,fly.new,?_⟩,hE _ _ _ q⟩
 ·obtain⟨⟨o',eo⟩,neL⟩:=I'.cov hex hc
  have nb':b ∉ frs (envOfC qual scope s.heap.objs.size f cd :: outer):=fun z=>(Al.mp (I'.stkSub b z)).elim neL nb
  have e2:=fl2.1 b o' (cv' b o' eo nb' hc)
  have e3:o=o':=AH (e1.symm.trans e2)
  rw[e3]
  exact cv' b o' eo nb' hc
 ·cases z:s.heap.get? ea with
  | none=>rfl
  | some u=>
   obtain⟨ob,eo⟩:=I.base.there ea u z (by rw[hex];simp)
   rw[fly.nold] at eo
   cases eo
end
theorem exc_obj {K:Fs} {g:Heap} {C:Addr} {bmB:List Value} {newId:String} (X:K.In g) (q:PySem.W.excIn K C bmB newId=true) :
  ∃ tl N nm qn bs hd sn sub ab col dd k0 k1 k2 k3 k5 mN,g.get? C=some (excClassObj nm qn C N bs tl hd sn sub ab col dd k0 k1 k2 k3 k5 newId)/\g.Ns N mN/\mN "__init__" = none/\OwnTail g bmB tl:=by
 unfold PySem.W.excIn at q
 split at q
 ·rename_i d1 c1 l1 at1
  split at q
  ·rename_i C1 tl j0 j1 j2 j3 n1 j5 hm1 hs1
   simp only[Bool.and_eq_true,beq_iff_eq,Bool.not_eq_true'] at q
   obtain⟨⟨⟨⟨⟨r1,r2⟩,r3⟩,r4⟩,r5⟩,r6⟩:=q
   subst r1 r2
   obtain⟨nm,bs,mro,ns,qn,hd,sn,sub,ab,col,del⟩:=c1
   have hm2:mro=_:=hm1
   have r3':del=false:=r3
   subst hm2 r3'
   have sl2:l1 = #[j0,j1,j2,j3,some (.builtin n1),j5]:=by
    cases l1 with
    | mk ls=>
     have:ls=_:=hs1
     rw[this]
   subst sl2
   exact⟨tl,ns,nm,qn,bs,hd,sn,sub,ab,col,d1,j0,j1,j2,j3,j5,_,X _ _ at1,.of_isNs (PySem.W.isNs_of_in X r5),PySem.W.nsMap_none_of_in X r5 r6,PySem.W.tail_of_in X r4⟩
  ·cases q
 ·cases q
section
variable {X:Cx}
def tRaise (C:Addr) (E:XK) (t:TA):TS:=fun _ σ H=>t σ H fun vs H1=>vs.length<=sizeLine/\E (.ref C) none H1
theorem ps_raise {x:Str} {C:Addr} {bmB bmN:List Value} {newId nid initId inN Bn B0:String} {E:XK} {e0:Expr} {es:List Expr} {t:TA} {np cpos pos:Pos} (hg:Gl X x) (hm:X.mg x=some (.ref C)) (q:PySem.W.excIn X.K C bmB newId=true)
  (Fn:ExcBaseFacts Bn newId inN bmN) (hBn:bmB.contains (.type Bn)=true) (FB:ExcBaseFacts B0 nid initId bmB) (hc:X.calm=true) (hx:Thrown X E) (ha:PA X (e0 :: es) t) (hdb:(x == ("__debug__" : Str))=false:=by decide)
  (he:starEach (e0 :: es) X.env=(false,eval e0 X.env) :: starEach es X.env:=by rfl) (hpl:(backTo cpos (starEach es X.env)).any (·.1)=false:=by rfl) :
  PS X (.Raise (some (.Call (.Name x np) (e0 :: es) [] cpos)) none pos) (tRaise C E t):=by
 intro pins s σ H D I h
 obtain⟨tl,N,nm,qn,bs,hd,sn,sub,ab,col,dd,k0,k1,k2,k3,k5,mN,hC,hN,hni,T⟩:=exc_obj I.mod.kin q
 have ha':=ha cpos pins s σ H _ I h
 rw[he] at ha'
 refine wpAny_Raise_call_subU (C:=C) (nm:=nm) (q:=qn) (N:=N) (bs:=bs) (bm:=tl) (hdct:=hd) (sn:=sn) (sub:=sub) (ab:=ab) (col:=col) (dd:=dd) (k0:=k0) (k1:=k1) (k2:=k2) (k3:=k3) (k5:=k5)
  Fn hBn FB (mN:=mN) (T.hasType FB.hasBase) (I.ok.hd hc) (by rw[he];show (false || (backTo cpos (starEach es X.env)).any (·.1))=false;rw[hpl];rfl) hni (Qw I hg hm ⟨rfl,?_⟩ hdb)
 rw[he]
 refine Calls.evalArgs_plain (Bp ha' (fun us s2 ⟨vs,H2,I2,r,hz,qE⟩=>⟨rfl,?_,I2.bk _ _ hC,hN.keeps I2.bk,T.keeps I2.bk,fun h' e hm=>?_⟩) fun _ _ y=>y)
 ·rw[<- r.length];exact hz
 ·exact hx pins σ H2 s2 h' e _ _ I2 hm qE
end
def ExcO (e:Addr) (cls:Value):HO:=.ext fun h=>∃ o vs,h.get? e=some o/\o.cls=cls/\o.data=.fields vs
def ZV (X:Cx) (pins:List (Addr×Obj)) (R:Value->St->Hp->Prop):Value->Shared->Prop:=fun e s'=>∃ σ' Hc sc,Inv X pins σ' Hc sc/\CX1 X.prog X.w X.stack Hc sc (fun cls _ H'=>R cls σ' H') e s'
abbrev TSx:=Wr->St->Hp->(Value->St->Hp->Prop)->Prop
abbrev TEx:=St->Hp->VK->(Value->Hp->Prop)->Prop
def PSx (X:Cx) (st:Stmt) (t:TSx):Prop:=∀ (E:Value->Shared->Prop) (pins:List (Addr×Obj)) (s:Shared) (σ:St) (H:Hp) (D:Wr) (R:Value->St->Hp->Prop),Inv X pins σ H s->t D σ H R->(∀ e s',ZV X pins R e s'->E e s') ->
 wpAny (model X.prog X.w) X.A (exec st X.env) (SP X pins D) E s
def PEx (X:Cx) (e:Expr) (t:TEx):Prop:=∀ (E:Value->Shared->Prop) (pins:List (Addr×Obj)) (s:Shared) (σ:St) (H:Hp) (Q:VK) (R:Value->Hp->Prop),Inv X pins σ H s->t σ H Q R->(∀ e s',ZV X pins (fun cls σ' H'=>σ'=σ/\R cls H') e s'->E e s') ->
 wpAny (model X.prog X.w) X.A (eval e X.env) (EP X pins σ Q) E s
theorem CX1.imp {P:Program} {w:World} {l:List Env} {H:Hp} {s:Shared} {E E':XK} {e:Value} {s':Shared} (h:CX1 P w l H s E e s') (k:∀ c d H,E c d H->E' c d H):CX1 P w l H s E' e s':=by
 obtain⟨ea,cls,H',a,b,c,d,f,g,q⟩:=h
 exact⟨ea,cls,H',a,b,c,d,f,g,k _ _ _ q⟩
section
variable {X:Cx}
def tCallX (sp:Sp) (t:TA):TEx:=fun σ H Q R=>t σ H fun vs H1=>sp vs H1 Q fun cls _ H'=>R cls H'
theorem pex_call {k:Nat} {f:Addr} {fd:FuncData} {ps:List Str} {sp:Sp} {x:Str} {p pos:Pos} {e:Expr} {es:List Expr} {t:TA} (F:jO X.prog X.w X.K X.mg X.base (CX1 X.prog X.w) k f fd ps sp) (hr:jY k X.A) (hg:Gl X x) (hm:X.mg x=some (.ref f))
  (hk:PySem.W.keepIn X.K (.ref f)=true) (hb:Binds X.K fd ps []) (ha:PA X.nox (e :: es) t) (hdb:(x == ("__debug__" : Str))=false:=by decide)
  (he:starEach (e :: es) X.env=(false,eval e X.env) :: starEach es X.env:=by rfl) (hpl:(backTo pos (starEach es X.env)).any (·.1)=false:=by rfl):PEx X (.Call (.Name x p) (e :: es) [] pos) (tCallX sp t):=by
 intro E pins s σ H Q R I h hE
 refine DY (Qw I hg hm ?_ hdb)
 refine PySem.W.callWith_K (h₀:=X.base) I.ok.mod.kin hk (Bp (ha pos pins s σ H _ (I.wish _) h) (fun us s1 ⟨vs,H1,I1',r,q⟩=>⟨I1'.unwish.kIn,?_⟩) fun _ _ z=>False.elim z) he hpl
 have I1:=I1'.unwish
 have hl:us.length=ps.length:=by rw[<- r.length];exact F.len _ _ _ _ q
 have hb':BindsTo s1 fd ⟨us,[]⟩ (ps.zip us):=by
  have z:=hb s1 us I1.kIn (by rw[Ap];exact hl)
  rw[Ap] at z
  exact z
 refine wpAny_call (D6 (F.run X.A X.stack s1 H1 ⟨us,[]⟩ us vs Q _ hr I1.env0 hb' r q) fun res s' hq=>?_)
 cases res with
 | error e=>
  have hq':CX1 X.prog X.w X.stack H1 s1 (fun cls _ H'=>R cls H') e s':=hq
  exact hE e s' ⟨σ,H1,s1,I1,CX1.imp hq' fun _ _ _ z=>⟨rfl,z⟩⟩
 | ok fl=>
  cases fl with
  | ret u=>exact I1.after hq
  | next=>exact False.elim hq
  | brk=>exact False.elim hq
  | cont=>exact False.elim hq
theorem psx_set {i:Nat} {y:Str} {py spos:Pos} {e:Expr} {t:TEx} (hN:X.N.Nodup) (hy:X.N[i]? = some y) (hl:Loc X.env.scope y) (he:PEx X e t) (hsw:swapsWith e (some (.Name y py)) spos.line X.env=pure false:=by rfl)
  (hf:X.fn y=true\/X.env.scope.names.lookup y=some .local:=by first | exact .inl rfl | exact .inr rfl | assumption) :
  PSx X (.Assign [.Name y py] e spos) (fun D σ H R=>t σ H (fun v H1=>D.nx (σ.set i (some v)) H1) fun cls H'=>R cls σ H'):=by
 intro E pins s σ H D R I h hE
 refine wpAny_Assign_Name (Bp (he E pins s σ H _ _ I h fun e s' ⟨σ',Hc,sc,I',c⟩=>hE e s' ⟨σ',Hc,sc,I',c.imp fun cls d H2 z=>?_⟩) (fun v s1 ⟨x,H1,I1,r1,q1⟩=>Ql I1 hN hy hl r1 (fun s2 I2=>⟨_,_,I2,q1⟩) hf) fun _ _ z=>z) hsw
 rw[z.1]
 exact z.2
end
section
variable {X:Cx} {pins:List (Addr × Obj)} {σ:St} {H:Hp} {s:Shared}
theorem Inv.adopt {e:Addr} {u:HO} (I:Inv X pins σ H s) (hn:H e=none) (h0:X.s₀.heap.get? e=none) (nL:e ≠ X.env.locals) (nC:∀ x c,X.env.cells.lookup x=some c->c ≠ e) (nP:∀ p ∈ X.pn++pins,p.1 ≠ e)
  (ok:qd X.prog X.w (upd H e u) s.heap e u):Inv X pins σ (upd H e u) s:=by
 have ne:∀ {b:Addr} {v:HO},H b=some v->b ≠ e:=fun q=>zE q hn
 refine⟨I.ok,I.os,I.bare,⟨I.base.keep,I.base.slot,fun b o q n hx=>?_,I.base.there,fun b xs q=>?_,fun b o v q=>?_,fun b ps q=>?_⟩,I.loc,I.cell,?_,fun x c q=>?_,fun p hp=>?_,fun a o q=>?_,I.len⟩
 ·have z:b ≠ e:=fun z=>by rw[z,h0] at q;cases q
  rw[zx z]
  exact I.base.free b o q n hx
 ·have q1:=I.base.tups b xs q
  rw[zx (ne q1)]
  exact q1
 ·have q1:=I.base.frzs b o v q
  rw[zx (ne q1)]
  exact q1
 ·obtain⟨more,q1⟩:=I.base.tbls b ps q
  exact⟨more,by rw[zx (ne q1)];exact q1⟩
 ·rw[zx (Af nL)]
  exact I.free
 ·rw[zx (nC x c q)]
  exact I.freeC x c q
 ·obtain⟨p1,p2,p3⟩:=I.pin p hp
  exact⟨p1,by rw[zx (nP p hp)];exact p2,p3⟩
 ·by_cases z:a=e
  ·subst z
   rw[zd] at q
   cases q
   exact ok
  ·rw[zx z] at q
   exact (I.hok a o q).stay (fun _ _ _ r=>r) (fun c r=>by rw[zx (ne r)];exact r) fun c xs r=>by rw[zx (ne r)];exact r
theorem ZW {M:Model} {A:Around} {E:Value->Shared->Prop} {i:Nat} {n:Str} {pos:Pos} {Q:Unit->Shared->Prop} (I:Inv X pins σ H s) (hN:X.N.Nodup) (hi:X.N[i]? = some n) (hk:X.env.scope.names.lookup n=some .local)
  (h:∀ s',Inv X pins (σ.set i none) H s'->Q () s'):wpAny M A (do bindName X.env n .none;unbindBehindTheSuite X.env n pos) Q E s:=by
 obtain⟨m,hn,hl⟩:=id I.loc
 have hcls:(X.env.scope.kind == .class || (X.env.scope.kind == .module && X.env.locals != X.env.globals))=false:=by rw[I.ok.kind];rfl
 have hiσ:i < σ.length:=by rw[I.len];exact (AE.mp hi).1
 refine wpAny_nameGoes_keeps hk hn hcls fun h' v hn' hs=>?_
 have old:∀ b o,X.s₀.heap.get? b=some o->b ≠ X.env.locals:=fun b o e=>AU (AS (AL e) I.ok.above)
 refine h _ ⟨I.ok,I.os,I.bare,⟨fun b o e n hb hx=>?_,fun b o e n hb hx=>?_,I.base.free,fun b o e hx=>?_,I.base.tups,I.base.frzs,I.base.tbls⟩,⟨_,hn',fun j y v' e1 e2 e3=>?_⟩,fun y c e=>?_,I.free,I.freeC,fun p hp=>?_,fun b ob e=>?_,by simpa using I.len⟩
 ·exact (hs.2 b (old b o e)).trans (I.base.keep b o e n hb hx)
 ·obtain⟨q,e1⟩:=I.base.slot b o e n hb hx
  exact⟨q,(hs.2 b (old b o e)).trans e1⟩
 ·obtain⟨o',e1⟩:=I.base.there b o e hx
  exact⟨o',(hs.2 b (old b o e)).trans e1⟩
 ·by_cases hj:j=i
  ·subst hj
   rw[Cp hiσ] at e2
   cases e2
  ·rw[CU (Af hj)] at e2
   obtain⟨u',r',q⟩:=hl j y v' e1 e2 e3
   refine⟨u',r',?_⟩
   rcases q with ⟨k,e⟩ | ⟨k,c,e,z⟩
   ·refine .inl ⟨k,?_⟩
    have ny:y ≠ n:=fun e=>hj (JB hN e1 (e ▸ hi))
    show (if y=n then v else m y)=some u'
    rw[if_neg ny]
    exact e
   ·exact .inr ⟨k,c,e,z.sameBut hs (I.cne y c e)⟩
 ·obtain⟨w',z⟩:=I.cell y c e
  exact⟨w',z.sameBut hs (I.cne y c e)⟩
 ·obtain⟨p1,p2,p3,p4⟩:=I.pin p hp
  exact⟨(hs.2 p.1 p3).trans p1,p2,p3,p4⟩
 ·refine (I.hok b ob e).stay (fun c w' hc q=>(hs.2 c ?_).trans q) (fun _ q=>q) fun _ _ q=>q
  rintro rfl
  rcases hc with rfl | hc
  ·rw[I.free] at e;cases e
  ·rw[I.free] at hc;cases hc
end
section
variable {X:Cx} {pins:List (Addr × Obj)} {R:Value->St->Hp->Prop} {e:Value} {s':Shared}
theorem ZV.see (h:ZV X pins R e s'):∃ ea cls σ' H',e=.ref ea/\Inv X pins σ' H' s'/\H' ea=none/\R cls σ' H'/\(∃ oe vs,s'.heap.get? ea=some oe/\oe.cls=cls/\oe.data=.fields vs) /\
  (X.ex=[]->X.s₀.heap.get? ea=none)/\ea ≠ X.env.locals/\(∀ x c,X.env.cells.lookup x=some c->c ≠ ea)/\∀ p ∈ X.pn++pins,p.1 ≠ ea:=by
 obtain⟨σ',Hc,sc,I,ea,cls,H',rfl,os,bare,un,hok,fly,q⟩:=h
 have I':=I.call' os un hok bare (fun b z=>absurd z (by simp))
 obtain⟨B,a0,fl,cv⟩:=fly.ex
 obtain⟨oe,vs,h1,h2,h3,_⟩:=fl.first
 have no:∀ o,sc.heap.get? ea=some o->False:=fun o z=>by rw[fly.nold] at z;cases z
 refine⟨ea,cls,σ',H',rfl,I',fly.new,q,⟨oe,vs,h1,h2,h3⟩,fun hex=>?_,fun z=>?_,fun x c e z=>?_,fun p hp z=>?_⟩
 ·cases z:X.s₀.heap.get? ea with
  | none=>rfl
  | some u=>
   obtain⟨o,e1⟩:=I.base.there ea u z (by rw[hex];simp)
   exact (no o e1).elim
 ·obtain⟨m,⟨o,_,_,ho,_⟩,_⟩:=I.loc
  exact no o (by rw[z];exact ho)
 ·obtain⟨v,o,ho,_⟩:=I.cell x c e
  exact no o (by rw[<- z];exact ho)
 ·exact no p.2 (by rw[<- z];exact (I.pin p hp).1)
theorem QF {ea:Addr} {cls a0:Value} {σ':St} {Hc H':Hp} {sc:Shared} {B h5:Heap} (I:Inv X pins σ' Hc sc) (os:s'.os=sc.os) (bare:AllBare s'.gens) (un:Un (frs X.stack) [] Hc H' sc.heap s'.heap) (hok:HOk X.prog X.w H' s'.heap)
  (new:H' ea=none) (nold:sc.heap.get? ea=none) (fl:Heap.FlyingW B X.stack ea cls a0 s'.heap) (cv:∀ b o,s'.heap.get? b=some o->b ∉ frs X.stack->((∃ u,H' b=some u)\/∃ u,sc.heap.get? b=some u)->B.get? b=some o)
  (fl5:Heap.FlyingW B X.stack ea cls a0 h5) (up:s'.heap.UpToSlots h5) (q:R cls σ' H'):ZV X pins R (.ref ea) { s' with heap:=h5 }:=by
 have I':=I.call' os un hok bare (fun b z=>absurd z (by simp))
 have sl:∀ b o,s'.heap.get? b=some o->b ∈ frs X.stack->∃ q,h5.get? b=some { o with slots:=q }:=fun b o e1 hb=>up b o e1 (by
  obtain⟨_,o2,e2,nf⟩:=fl.2.2.1.mem hb
  rw[e1] at e2
  cases e2
  exact nf)
 refine⟨σ',Hc,sc,I,ea,cls,H',rfl,os,bare,⟨fun b o e n nf _=>?_,fun b o e n hb hx=>?_,un.free,fun b o e hx=>?_,un.tups,un.frzs,un.tbls⟩,fun a o e=>?_,⟨⟨B,a0,fl5,fun b o e1 nb hc=>?_⟩,new,nold⟩,q⟩
 ·exact fl5.1 b o (cv b o (un.keep b o e n nf (by simp)) nf (.inr ⟨o,e⟩))
 ·obtain⟨q1,e1⟩:=un.slot b o e n hb hx
  obtain⟨q2,e2⟩:=sl b _ e1 hb
  exact⟨q2,e2⟩
 ·obtain⟨o',e1⟩:=un.there b o e hx
  by_cases hb:b ∈ frs X.stack
  ·obtain⟨q2,e2⟩:=sl b o' e1 hb
   exact⟨_,e2⟩
  ·exact⟨o',fl5.1 b o' (cv b o' e1 hb (.inr ⟨o,e⟩))⟩
 ·refine (hok a o e).stay (fun b u hb q=>?_) (fun _ q=>q) fun _ _ q=>q
  have ht:∃ u,H' b=some u:=by
   rcases hb with z | z
   ·exact⟨o,by rw[z];exact e⟩
   ·exact⟨_,z⟩
  refine fl5.1 b u (cv b u q (fun z=>?_) (.inl ht))
  obtain⟨v,hv⟩:=ht
  rw[I'.stkFree b z] at hv
  cases hv
 ·have ho:∃ o',s'.heap.get? b=some o':=by
   rcases hc with ⟨u,z⟩ | ⟨u,z⟩
   ·exact (hok b u z).some
   ·exact un.there b u z (by simp)
  obtain⟨o',eo⟩:=ho
  have eB:=cv b o' eo nb hc
  have e3:o=o':=AH (e1.symm.trans (fl5.1 b o' eB))
  rw[e3]
  exact eB
theorem land1 {E:Value->Shared->Prop} {A:Around} {M:Model} {rest:Sem Flow} {Q:Flow->Shared->Prop} (hst:X.stack=X.env :: X.outer) (hf:X.env.frame=some X.env.locals) (hfr:A.frames=some X.stack) (h:ZV X pins R e s')
  (k:∀ h5,ZV X pins R e { s' with heap:=h5 }->wpAny M A rest Q E { s' with heap:=h5 }):wpAny M A (noteFrame e X.env) (fun _ s2=>wpAny M A (setFlight e none) (fun _ s3=>wpAny M A rest Q E s3) E s2) E s':=by
 obtain⟨σ',Hc,sc,I,ea,cls,H',rfl,os,bare,un,hok,fly,q⟩:=h
 obtain⟨B,a0,fl,cv⟩:=fly.ex
 refine wpAny_looks_onW (base:=B) (outer:=X.outer) (by rw[hfr,hst]) hf (by rw[<- hst];exact fl) fun h4 held up4=>wpAny_landsW held fun h5 fl5 up5=>k h5 ?_
 exact QF I os bare un hok fly.new fly.nold fl cv (by rw[hst];exact fl5) (up4.trans up5) q
theorem land2 {E:Value->Shared->Prop} {A:Around} {M:Model} {Q:Unit->Shared->Prop} (h:ZV X pins R e s') (k:∀ h5,ZV X pins R e { s' with heap:=h5 }->Q () { s' with heap:=h5 }):wpAny M A (setFlight e none) Q E s':=by
 obtain⟨σ',Hc,sc,I,ea,cls,H',rfl,os,bare,un,hok,fly,q⟩:=h
 obtain⟨B,a0,fl,cv⟩:=fly.ex
 exact lands_againW fl fun h5 fl5 up5=>k h5 (QF I os bare un hok fly.new fly.nold fl cv fl5 up5 q)
end
def Cx.inEx (X:Cx) (ea:Addr):Cx:={ X with A:=X.A.mark (some (.ref ea)),calm:=false,xe:=fun _ _=>False }
section
variable {X:Cx} {pins:List (Addr × Obj)} {σ:St} {H:Hp} {s:Shared} {ea:Addr}
theorem Inv.inEx (I:Inv X pins σ H s) (ea:Addr):Inv (X.inEx ea) pins σ H s:=⟨⟨I.ok.mod,I.ok.kind,I.ok.glob,I.ok.blt,I.ok.above,I.ok.inj,I.ok.has,I.ok.cab,fun z=>absurd (show false=true from z) (by simp),I.ok.frames,I.ok.stk,I.ok.exf,I.ok.bs,I.ok.bsz,I.ok.noex,I.ok.exfs,I.ok.funs,I.ok.frf⟩,
 I.os,I.bare,I.base,I.loc,I.cell,I.free,I.freeC,I.pin,I.hok,I.len⟩
theorem Inv.outEx (ok:X.Ok) (I:Inv (X.inEx ea) pins σ H s):Inv X pins σ H s:=⟨ok,I.os,I.bare,I.base,I.loc,I.cell,I.free,I.freeC,I.pin,I.hok,I.len⟩
def Wr.drop (D:Wr) (i:Nat):Wr:={ nx:=fun σ H=>D.nx (σ.set i none) H,rt:=D.rt,bk:=fun σ H=>D.bk (σ.set i none) H,ct:=fun σ H=>D.ct (σ.set i none) H }
def tTryAs (K:Fs) (C:Addr) (i:Nat) (tb:TSx) (ts:TS):TS:=fun D σ H=>tb D σ H fun cls σ' H'=>PySem.W.exmOne K cls (.ref C)=some true/\∀ ea,H' ea=none->ts (D.drop i) (σ'.set i (some (.ref ea))) (upd H' ea (ExcO ea cls))
theorem excO_ok {P:Program} {w:World} {H:Hp} {h:Heap} {ea:Addr} {cls:Value} (z:∃ oe vs,h.get? ea=some oe/\oe.cls=cls/\oe.data=.fields vs):qd P w H h ea (ExcO ea cls):=by
 refine⟨z,?_,fun h1 h2 ⟨o,vs,a,b,c⟩ k=>⟨o,vs,k o a,b,c⟩⟩
 obtain⟨oe,_,a,_⟩:=z
 exact⟨oe,a⟩
theorem yo {M:Model} {h:Heap} {ea:Addr} {cls:Value} (z:∃ oe vs,h.get? ea=some oe/\oe.cls=cls/\oe.data=.fields vs):PySem.W.Looks M h (typeOf (.ref ea)) cls:=by
 obtain⟨oe,vs,a,b,_⟩:=z
 subst b
 exact (PySem.W.Looks.ld a).andThen .now
theorem ps_tryAs {x n:Str} {C:Addr} {i:Nat} {st b0:Stmt} {suite:List Stmt} {np hpos pos:Pos} {tb:TSx} {ts:TS} (hst:X.stack=X.env :: X.outer) (hf:X.env.frame=some X.env.locals) (hex:X.ex=[]) (hN:X.N.Nodup) (hi:X.N[i]? = some n) (hl:X.env.scope.names.lookup n=some .local)
  (hg:Gl X x) (hm:X.mg x=some (.ref C)) (hb:PSx X st tb) (hs:∀ ea,PSs (X.inEx ea) (b0 :: suite) ts) (hdb:(x == ("__debug__" : Str))=false:=by decide) :
  PS X (.Try [st] [.ExceptHandler (some (.Name x np)) (some n) (b0 :: suite) hpos] [] [] pos) (tTryAs X.K C i tb ts):=by
 intro pins s σ H D I h
 refine wpAny_Try_except (wpAny_execs_cons (Bp (hb _ pins s σ H D _ I h (fun e s' hc=>?_)) (fun f s1 q=>?_) fun _ _ z=>z))
 rotate_left
 ·cases f with
  | next=>exact Cw (Cw q)
  | ret v=>exact q
  | brk=>exact q
  | cont=>exact q
 refine land1 hst hf I.ok.frames hc fun h5 hc5=>?_
 obtain⟨ea,cls,σ',H',rfl,I5,hn,⟨hx,hR⟩,hob,h0,nL,nC,nP⟩:=hc5.see
 refine wpAny_handleBy_cons (codeAny_handlers_test (Qw (X:=X.inEx ea) (I5.inEx ea) hg hm ((PySem.W.exm_one I5.kIn (yo hob) hx).here ?_) hdb)) (by intro q;cases q)
 refine codeAny_handlers_suite_as (land2 hc5 fun h6 hc6=>?_)
 obtain⟨ea',cls',σ2,H2,e2,I6,hn6,⟨hx6,hR6⟩,hob6,h06,nL6,nC6,nP6⟩:=hc6.see
 cases e2
 have I7:=(I6.adopt hn6 (h06 hex) nL6 nC6 nP6 (excO_ok (H:=upd H2 ea (ExcO ea cls')) hob6)).inEx ea
 refine Ql (X:=X.inEx ea) (v:=.ref ea) I7 hN hi (.inl hl) rfl (fun s8 I8=>?_) (.inr hl)
 refine Bp (hs ea pins s8 _ _ (D.drop i) I8 (hR6 ea hn6)) (fun f s9 q=>?_) fun _ _ z=>False.elim z
 cases f with
 | next=>
  obtain⟨σ9,H9,I9,q9⟩:=q
  exact ZW (I9.outEx I.ok) hN hi hl fun s10 I10=>⟨_,_,I10,q9⟩
 | brk=>
  obtain⟨σ9,H9,I9,q9⟩:=q
  exact ZW (I9.outEx I.ok) hN hi hl fun s10 I10=>⟨_,_,I10,q9⟩
 | cont=>
  obtain⟨σ9,H9,I9,q9⟩:=q
  exact ZW (I9.outEx I.ok) hN hi hl fun s10 I10=>⟨_,_,I10,q9⟩
 | ret u=>
  obtain⟨v,σ9,H9,I9,r9,q9⟩:=q
  exact ZW (I9.outEx I.ok) hN hi hl fun s10 I10=>⟨_,_,_,I10,r9,q9⟩
end
def Def1 (P:Program) (w:World) (K:Fs) (mg:Str->Option Value) (base:Heap) (k:Nat) (x:Str) (ps:List Str) (sp:Sp):Prop:=
 ∃ (f:Addr) (fd:FuncData),jO P w K mg base (CX1 P w) k f fd ps sp/\mg x=some (.ref f)/\PySem.W.keepIn K (.ref f)=true/\Binds K fd ps []
section
theorem JG {E:XK} (D:Def1 X.prog X.w X.K X.mg X.base k x ps sp) (hr:jY k' X.A) (hk:k<=k') (hg:Gl X x) (hp:wm (CX1 X.prog X.w) X E) (ha:PA X (e :: es) t)
  (hdb:(x == ("__debug__" : Str))=false:=by decide) (he:starEach (e :: es) X.env=(false,eval e X.env) :: starEach es X.env:=by rfl) (hpl:(backTo pos (starEach es X.env)).any (·.1)=false:=by rfl) :
  PE X (.Call (.Name x p) (e :: es) [] pos) (tCall sp [] E t):=by
 obtain⟨f,fd,F,m,kp,b⟩:=D
 exact YM F (hr.mono hk) hg m kp b .nil hp ha hdb he hpl
theorem pex_def (D:Def1 X.prog X.w X.K X.mg X.base k x ps sp) (hr:jY k' X.A) (hk:k<=k') (hg:Gl X x) (ha:PA X.nox (e :: es) t)
  (hdb:(x == ("__debug__" : Str))=false:=by decide) (he:starEach (e :: es) X.env=(false,eval e X.env) :: starEach es X.env:=by rfl) (hpl:(backTo pos (starEach es X.env)).any (·.1)=false:=by rfl) :
  PEx X (.Call (.Name x p) (e :: es) [] pos) (tCallX sp t):=by
 obtain⟨f,fd,F,m,kp,b⟩:=D
 exact pex_call F (hr.mono hk) hg m kp b ha hdb he hpl
end
section
variable {P:Program} {w:World} {K:Fs} {mg:Str->Option Value} {base:Heap}
theorem Fun.ok1 {x qual:Str} {st:Stmt} {f:Addr} {fd:FuncData} {N ps:List Str} {k:Nat} {sp:Sp} (F:Fun K x qual st f fd) (S:zI N ps (zj st)) (len:∀ vs H Q E,sp vs H Q E->vs.length=ps.length)
  (hbody:∀ (cdv:Value) (A:Around) (outer:List Env) (s:Shared) (H:Hp) (vs:List V) (Q:VK) (E:XK),jY k (A.deeper (envOfC qual (zj st) s.heap.objs.size f cdv))->sp vs H Q E ->
   ∃ t,PSs (Yt (CX1 P w) P w K mg base N qual (zj st) f cdv A outer s H E) (jB st) t/\t { nx:=fun _ H'=>Q .non H',rt:=Q } (start N vs) H):jO P w K mg base (CX1 P w) (k+1) f fd ps sp:=by
 obtain⟨oc,od,kV,doc,pm,an,cdv,ct,osl,rfl,lk,hcd⟩:=F.ex
 exact fn_of lk hcd S len fun A outer s H vs Q E hr hsp=>hbody cdv A outer s H vs Q E hr hsp
end
def qK (K:Fs) (C:Addr):Bool:=
 PySem.W.findIn K (.ref C) "__getattribute__" == some (some (.builtin "BaseException.__getattribute__")) && PySem.W.findIn K (.ref C) "__getattr__" == some none && PySem.W.findIn K (.ref C) "__class__" == some (some (.builtin "object.__class__"))
  && PySem.W.specialIn K (.builtin "object.__class__") "__get__" == some (some (.builtin "getset_descriptor.__get__")) && PySem.W.takesIn K (.builtin "object.__class__") == some true && PySem.W.mroIn K C (.type "object") == some true
  && PySem.W.mroIn K C (.type "BaseException") == some true && (PySem.W.clsIn K C).isSome
def y1 (e:Addr) (cls:Value) (h:Heap):Prop:=∃ o vs,h.get? e=some o/\o.cls=cls/\o.data=.fields vs
section
variable {prog:Program} {w:World} {A:Around} {E:Value->Shared->Prop} {s:Shared} {K:Fs} {e C:Addr} {h:Heap}
theorem exc_find {M:Model} (X:K.In h) (l:qK K C=true):PySem.W.Looks M h (Builtin.ObjectAttr.find (.ref e) (.ref C) "__class__") (.bind (.builtin "getset_descriptor.__get__") (.builtin "object.__class__")):=by
 simp only[qK,Bool.and_eq_true,beq_iff_eq] at l
 obtain⟨⟨⟨⟨⟨⟨⟨_,_⟩,l3⟩,l4⟩,l5⟩,_⟩,_⟩,_⟩:=l
 refine (Du X l3).andThen ?_
 have g1:PySem.W.Looks M h (Builtin.ObjectAttr.getOf (some (.builtin "object.__class__"))) (some (.builtin "getset_descriptor.__get__")):=PySem.W.looks_specialIn X l4
 refine g1.andThen ?_
 have g2:PySem.W.Looks M h (Builtin.ObjectAttr.dataDescriptor? (some (.builtin "object.__class__")) (some (.builtin "getset_descriptor.__get__"))) (some (.builtin "getset_descriptor.__get__",.builtin "object.__class__")):=(PySem.W.looks_takesIn X l5).andThen .now
 exact g2.andThen (PySem.W.Looks.tag .now)
theorem Qn {M:Model} (z:y1 e (.ref C) h):PySem.W.Looks M h (typeOf (.ref e)) (.ref C):=yo z
theorem y2 {R:Result->Shared->Prop} {tp:Value} (X:K.In s.heap) (l:qK K C=true) (z:y1 e (.ref C) s.heap) (hq:R (.ok (.ret (.ref C))) s) :
  codeAny (model prog w) A (.call (.builtin "getset_descriptor.__get__") ⟨[.builtin "object.__class__",.ref e,tp],[]⟩) R s:=by
 simp only[qK,Bool.and_eq_true,beq_iff_eq] at l
 obtain⟨⟨⟨⟨⟨⟨⟨_,_⟩,_⟩,_⟩,_⟩,l6⟩,_⟩,_⟩:=l
 obtain⟨hh,g,dr,t,os⟩:=s
 have T0:=Qn (M:=model prog w) z
 have T1:=PySem.W.looks_mroIn (M:=model prog w) X l6
 refine codeAny_call_builtin PySem.W.KF.slot_gs.plain PySem.W.KF.entry_gs (PySem.W.KF.slot_gs.check _ _ _ _ _ _ _ _ PySem.W.KF.type_class (PySem.W.KF.args_gs _ _ _) ?_)
 unfold Builtin.«getset_descriptor.__get__» Builtin.Getset_descriptor.descrGet
 rw[PySem.W.dga_obj]
 refine AA (AF ?_);unfold Builtin.Getset_descriptor.descrGetter Builtin.Getset_descriptor.descrCheckInstance Builtin.Getset_descriptor.descrNameAndClass isInstance
 simp only[PySem.W.KF.owner_class];repeat lk
 refine⟨Code.quiet_builtin _ (by ac_rfl),B2 PySem.W.KF.entry_class ?_⟩;unfold Builtin.«object.__class__» shownTypeOf
 repeat lk
 exact hq
theorem exc_ga {tk:Tok} {R:Result->Shared->Prop} (X:K.In s.heap) (l:qK K C=true) (z:y1 e (.ref C) s.heap) (hq:R (.ok (.ret (.ref C))) s) :
  codeAny (model prog w) A (.call (.builtin "BaseException.__getattribute__") ⟨[.ref e,.str "__class__" tk],[]⟩) R s:=by
 have hk:builtinKind "BaseException.__getattribute__" = some .slot:=by ac_rfl
 have hsp:splitId "BaseException.__getattribute__" = some ("BaseException", "__getattribute__"):=by ac_rfl
 have l':=l
 simp only[qK,Bool.and_eq_true,beq_iff_eq] at l'
 obtain⟨⟨⟨⟨⟨⟨⟨_,_⟩,_⟩,_⟩,_⟩,_⟩,l7⟩,_⟩:=l'
 refine codeAny_call_builtin F.attr_ValueError.ga.plain F.entry_bexc_ga ?_
 obtain⟨hh,g,dr,t,os⟩:=s
 have T0:=Qn (M:=model prog w) z
 have T1:=PySem.W.looks_mroIn (M:=model prog w) X l7
 have T2:=exc_find (M:=model prog w) (e:=e) X l
 have ha:=F.args_bexc_ga (.ref e) (.str "__class__" tk)
 simp only[checkBuiltinCall,hk,hsp]
 unfold isInstance
 refine AA (AA (T0.at (T1.at ?_)))
 simp only[Bool.not_true,Bool.false_eq_true,if_false]
 have hfin:wpAny (model prog w) A.in1 (Builtin.«object.__getattribute__» ⟨[.ref e,.str "__class__" tk],[]⟩) (fun fin s'=>match fin with | .done f=>R (.ok f) s' | .again c'=>c'.quiet=true/\codeAny (model prog w) A c' R s') (fun e s'=>R (.error e) s') ⟨hh,g,dr,t,os⟩:=by
  unfold Builtin.«object.__getattribute__»
  refine AA (AF ?_)
  refine AA (AF (AA (T0.at (AA (T2.at ?_)))))
  show wpAny _ _ (holding [Value.builtin "object.__class__"] (call (.builtin "getset_descriptor.__get__") [.builtin "object.__class__",.ref e,.ref C]) >>= ret) _ _ _
  exact AA (A4 (wpAny_call (y2 (s:=⟨hh,g,dr,t,os⟩) X l z (AF hq))))
 cases hs:Manifest.signature? "BaseException.__getattribute__" with
 | none=>exact AF hfin
 | some sig=>
  simp only[argsOk,hs] at ha
  have h2:Bind.checkArgs "BaseException.__getattribute__" sig ⟨[.ref e,.str "__class__" tk],[]⟩=pure ():=ha
  show wpAny _ _ (Bind.checkArgs "BaseException.__getattribute__" sig _) _ _ _
  rw[h2]
  exact AF hfin
theorem Y2 {Q:Option Value->Shared->Prop} (X:K.In s.heap) (l:qK K C=true) (z:y1 e (.ref C) s.heap) (hq:Q (some (.ref C)) { s with toks:=s.toks+1 }):wpAny (model prog w) A (getAttr? (.ref e) "__class__") Q E s:=by
 have l':=l
 simp only[qK,Bool.and_eq_true,beq_iff_eq] at l'
 obtain⟨⟨⟨⟨⟨⟨⟨l1,l2⟩,_⟩,_⟩,_⟩,_⟩,_⟩,_⟩:=l'
 obtain⟨hh,g,dr,t,os⟩:=s
 have T0:=Qn (M:=model prog w) z
 have T1:=Du (M:=model prog w) X l1
 have T2:=Du (M:=model prog w) X l2
 unfold getAttr? getAttrBy? getAttrBy
 refine AA (wpAny_mkText (AA (BQ (A4 (AA (T0.at (AA (T1.at ?_))))))))
 show wpAny _ _ (getAttrByItsOwn _ _ _ _ _ _) _ _ _
 unfold getAttrByItsOwn
 have T3:PySem.W.Looks (model prog w) hh (hookBefore (.ref C)) none:=T2
 refine AA (T3.at ?_)
 refine AA (BQ (A4 ?_))
 show wpAny _ _ (boundAndCalled (.builtin "BaseException.__getattribute__") (.ref e) _) _ _ _
 unfold boundAndCalled
 refine AA (Bh (F.attr_ValueError.ga.bind (.ref e)) ?_)
 refine wpAny_call (exc_ga (s:=⟨hh,g,dr,t+1,os⟩) X l z ?_)
 exact PySem.W.handed_on (v:=.ref C) rfl (AF hq)
theorem yp (l:qK K C=true):PySem.W.KitX K (.ref e) (.ref C) (y1 e (.ref C)) where
 ty:=fun _ _ _ z=>Qn z
 it:=fun _ _ X _=>by
  simp only[qK,Bool.and_eq_true,beq_iff_eq] at l
  have lc:=l.2
  unfold PySem.W.clsIn at lc
  split at lc
  ·rename_i ho
   intro A' Q' E' s' k q
   unfold isType loadHead;exact AA (wpAny_loadPart (k _ _ (X _ _ ho)) (AF q))
  ·cases lc
 ne:=fun h tp dd its n sl X htp=>by
  simp only[qK,Bool.and_eq_true,beq_iff_eq] at l
  have lc:=l.2
  refine Bool.eq_false_iff.mpr fun q=>?_
  have ec:C=tp:=Value.ref.inj (beq_iff_eq.mp q)
  subst ec
  unfold PySem.W.clsIn at lc
  split at lc
  ·rename_i ho
   have zz:=(X _ _ ho).symm.trans htp
   cases zz
  ·cases lc
 ca:=fun X z k=>Y2 X l z k
end
def QG (xs ys:List V):Bool:=(xs.zip ys).all (fun p=>eqV p.1 p.2) && xs.length == ys.length
def rEqL (K:Fs):R2:=fun x y H Q=>∃ p q xs ys,x=.ref p/\y=.ref q/\SqL K H p xs/\SqL K H q ys/\xs.all Zm=true/\ys.all Zm=true/\Q (.bl (QG xs ys)) H
theorem Qo {A:Around} {s:Shared} {xs ys:List V} {us vs:List Value} (rx:qi xs us) (ry:qi ys vs) (fx:xs.all Zm=true) (fy:ys.all Zm=true) (j:Nat) (h1:j < us.toArray.size) (h2:j < vs.toArray.size) :
  SeqAt.EqAt A s us.toArray[j] vs.toArray[j] (eqV (xs.getD j .non) (ys.getD j .non)):=by
 have l1:=rx.length
 have l2:=ry.length
 have g1:j < us.length:=by simpa using h1
 have g2:j < vs.length:=by simpa using h2
 have k1:xs[j]? = some (xs.getD j .non):=by simp[List.getD,show j < xs.length by omega]
 have k2:ys[j]? = some (ys.getD j .non):=by simp[List.getD,show j < ys.length by omega]
 obtain⟨u,e1,r1⟩:=rx.get k1
 obtain⟨v,e2,r2⟩:=ry.get k2
 have f1:=Bf.mp fx _ (AN k1)
 have f2:=Bf.mp fy _ (AN k2)
 have w1:us.toArray[j]=u:=by
  rw[AD g1] at e1
  simpa using AH e1
 have w2:vs.toArray[j]=v:=by
  rw[AD g2] at e2
  simpa using AH e2
 rw[w1,w2]
 exact YQ r1 r2 f1 f2
theorem Zr:∀ (xs ys:List V),xs.length=ys.length->((List.range xs.length).all fun j=>eqV (xs.getD j .non) (ys.getD j .non))=(xs.zip ys).all fun p=>eqV p.1 p.2
 | [],[],_=>rfl
 | [],_ :: _,h=>by cases h
 | _ :: _,[],h=>by cases h
 | x :: xs,y :: ys,h=>by
  have ih:=Zr xs ys (by simpa using h)
  rw[Az,List.range_succ_eq_map,C9,List.all_map,EJ,C9,<- ih]
  rfl
section
variable {X:Cx}
theorem op_eqL (K:Fs) {k:Nat} (hr:jY k X.A) (hK:X.K=K:=by rfl):OpR X (compareOp .Eq) (rEqL K):=by
 subst hK
 intro pins s σ H x y v u Q I rx ry h
 obtain⟨p,q,xs,ys,rfl,rfl,h1,h2,f1,f2,hq⟩:=h
 cases rx
 cases ry
 obtain⟨us,r1,pl1,_⟩:=I.list h1
 obtain⟨vs,r2,pl2,_⟩:=I.list h2
 have hu:X.A.units < cLine:=EV (hu_of hr)
 have l1:=r1.length
 have l2:=r2.length
 by_cases hz:xs.length=ys.length
 ·have hz':us.toArray.size=vs.toArray.size:=by simp;omega
  refine SeqAt.eq_listAt pl1.isList pl2.isList hz' hu (Qo r1 r2 f1 f2) ⟨.bl _,H,I,rfl,?_⟩
  have e:us.toArray.size=xs.length:=by simp;omega
  rw[e,Zr xs ys hz]
  unfold QG at hq
  rw[hz] at hq
  simpa using hq
 ·have hz':(us.toArray.size != vs.toArray.size)=true:=by simp;omega
  refine SeqAt.eq_list_lengthsAt pl1.isList pl2.isList hz' hu ⟨.bl _,H,I,rfl,?_⟩
  have e:QG xs ys=false:=by
   unfold QG
   simp[hz]
  rw[e] at hq
  exact hq
theorem bools_at {bs:List Bool}:∀ {us:List Value},qi (bs.map V.bl) us->us=bs.map Value.bool:=by
 induction bs with
 | nil=>intro us r;rw[EX] at r;cases r;rfl
 | cons b bs ih=>
  intro us r
  rw[Ai] at r
  cases r with
  | cons r1 r2=>rw[Ai,<- ih r2];cases r1;rfl
theorem QH:∀ bs:List Bool,((List.range bs.length).all fun i=>bs.getD i true)=bs.all id
 | []=>rfl
 | b :: bs=>by
  have ih:=QH bs
  rw[Az,List.range_succ_eq_map,C9,List.all_map,C9,<- ih]
  rfl
theorem call_all (hc:X.calm=true):qQ X (.builtin "all") (fun xs H Q=>∃ (p:Addr) (bs:List Bool),xs=[.ref p]/\SqL X.K H p (bs.map V.bl)/\Q (.bl (bs.all id)) H):=by
 intro pins s σ H xs us Q I r h
 obtain⟨p,bs,rfl,hq,q⟩:=h
 obtain⟨u,rfl,ru⟩:=vals1 r
 cases ru
 obtain⟨its,rv,pl,_⟩:=I.list hq
 have hl:s.heap.IsList p its.toArray:=pl.isList
 have hlt:p < s.heap.objs.size:=by obtain⟨_,e,_⟩:=hl;exact AL e
 refine call_all_walk (DA hl ⟨_,_,_,_,_,_,fun i=>bs.getD i true,rfl,Walks.list (A:=X.A.in1) (I.ok.hd hc) _ p (AU hlt) its.toArray,⟨⟨_,AK _ rfl,rfl,rfl⟩,hl.push _⟩,fun i v s' Q' E' hv hQ=>?_,fun h' tk hk=>⟨.bl _,H,I.kept (old_kept hk),rfl,?_⟩⟩)
 ·have hv':its[i]? = some v:=by simpa using hv
  rw[bools_at rv,AR] at hv'
  obtain⟨b,hb,rfl⟩:=At.mp hv'
  have e:bs.getD i true=b:=by simp[List.getD,hb]
  have z:Q' (bs.getD i true) s':=hQ
  rw[e] at z
  exact CZ z
 ·have e1:its.toArray.size=bs.length:=by
   have:=rv.length
   rw[AB] at this
   simp;omega
  rw[e1]
  have e2:=QH bs
  rw[e2]
  exact q
theorem exc_at {pins:List (Addr×Obj)} {σ:St} {H:Hp} {s:Shared} {e:Addr} {cls:Value} (I:Inv X pins σ H s) (h:H e=some (ExcO e cls)):y1 e cls s.heap:=(I.hok e _ h).1
theorem qj (K:Fs) {C:Addr} (l:qK K C=true) (hK:X.K=K:=by rfl):qQ X (.builtin "isinstance") (fun xs H Q=>∃ e D b,xs=[.ref e,.ref D]/\H e=some (ExcO e (.ref C))/\PySem.W.kitOne K (.ref C) (.ref D)=some b/\Q (.bl b) H):=by
 subst hK
 intro pins s σ H xs us Q I r h
 obtain⟨e,D,b,rfl,he,hb,q⟩:=h
 obtain⟨u,w',rfl,r1,r2⟩:=Ws r
 cases r1
 cases r2
 exact BM (yp l) I.kIn (exc_at I he) hb (fun z=>nomatch z) fun tk=>⟨.bl b,H,I.tok tk,rfl,q⟩
theorem Wv (K:Fs) {C:Addr} (l:qK K C=true) (hK:X.K=K:=by rfl):qQ X (.builtin "isinstance") (fun xs H Q=>∃ e n b,xs=[.ref e,.ty n]/\H e=some (ExcO e (.ref C))/\PySem.W.kitOne K (.ref C) (.type n)=some b/\Q (.bl b) H):=by
 subst hK
 intro pins s σ H xs us Q I r h
 obtain⟨e,D,b,rfl,he,hb,q⟩:=h
 obtain⟨u,w',rfl,r1,r2⟩:=Ws r
 cases r1
 cases r2
 exact BM (yp l) I.kIn (exc_at I he) hb (fun z=>nomatch z) fun tk=>⟨.bl b,H,I.tok tk,rfl,q⟩
theorem JH:bootBuiltins "ValueError" = some (.type "ValueError"):=by ac_rfl
theorem bt_max:bootBuiltins "max" = some (.builtin "max"):=by ac_rfl
theorem QI (K:Fs) (hc:X.calm=true) (hK:X.K=K:=by rfl):qQ X (.builtin "all") (fun xs H Q=>∃ (p:Addr) (bs:List Bool),xs=[.ref p]/\SqL K H p (bs.map V.bl)/\Q (.bl (bs.all id)) H):=hK ▸ call_all hc
end
section
variable {X:Cx} {tg:Expr}
theorem y3 (K:Fs) (hc:X.calm=true):qQ X (.builtin "max") (fun xs H Q=>∃ i j,xs=[.int i,.int j]/\Q (.int (if j > i then j else i)) H):=YI hc
end
section
variable {prog:Program} {w:World} {A:Around} {E:Value->Shared->Prop} {s:Shared}
end
section
variable {X:Cx}
end
section
variable {prog:Program} {w:World} {A:Around} {E:Value->Shared->Prop} {s:Shared}
theorem Ww {it t:Addr} {k:Nat} {items:Array Value} {x:Value} {Q:Value->Shared->Prop} (hi:s.heap.IsTupleIter it t k) (ht:s.heap.IsTuple t items) (hx:items[k]? = some x)
  (q:∀ h',h'.IsTupleIter it t (k+1)->Heap.SameBut it s.heap h'->Q x { s with heap:=h' }):wpAny (model prog w) A (Builtin.SmallTypes.nextOf (.ref it)) Q E s:=by
 obtain⟨oi,a1,a2,a3⟩:=id hi
 obtain⟨ot,b1,_,nt,b3⟩:=ht
 unfold Builtin.SmallTypes.nextOf
 refine AA (wpAny_callSpecial?_slot (name:=Str.ofString "__next__") hi.typeIs B8 (A1 B8 hi.typeIs EM ?_ (EH _)))
 refine AA (m:=field (.ref it) 0) (A9 a1 a3 (x:=.ref t) rfl ?_)
 show wpAny _ _ (if (Value.ref t == Value.none)=true then _ else field (.ref it) 1 >>= _) _ _ s
 rw[if_neg (show ¬ ((Value.ref t == Value.none)=true) from AX)]
 refine AA (A9 a1 a3 (x:=.int k 0) rfl (AA (m:=seqItems? (.ref t)) (BZ b1 b3 ?_)))
 simp only[Int.toNat_natCast,hx]
 refine AA (B6 a1 a3 (by simp) (AF ⟨x,rfl,AF (q _ ⟨_,A8 _ a1 (CV (Bb a3 _)),(Dj ..).trans a2,?_⟩ (B4 ..))⟩))
 rw[Bb a3];simp[rawInt]
theorem Wx {it t:Addr} {k:Nat} {items:Array Value} {Q:Value->Shared->Prop} (hh:A.handled=none) (hi:s.heap.IsTupleIter it t k) (ht:s.heap.IsTuple t items) (hx:items[k]? = none)
  (q:∀ h' e,Heap.ExtBut it s.heap h'->(∃ o,h'.get? e=some o/\o.cls=.type "StopIteration")->E (.ref e) { s with heap:=h' }):wpAny (model prog w) A (Builtin.SmallTypes.nextOf (.ref it)) Q E s:=by
 obtain⟨oi,a1,a2,a3⟩:=id hi
 obtain⟨ot,b1,_,nt,b3⟩:=ht
 unfold Builtin.SmallTypes.nextOf
 refine AA (wpAny_callSpecial?_slot (name:=Str.ofString "__next__") hi.typeIs B8 (A1 B8 hi.typeIs EM ?_ (EH _)))
 refine AA (m:=field (.ref it) 0) (A9 a1 a3 (x:=.ref t) rfl ?_)
 show wpAny _ _ (if (Value.ref t == Value.none)=true then _ else field (.ref it) 1 >>= _) _ _ s
 rw[if_neg (show ¬ ((Value.ref t == Value.none)=true) from AX)]
 refine AA (A9 a1 a3 (x:=.int k 0) rfl (AA (m:=seqItems? (.ref t)) (BZ b1 b3 ?_)))
 simp only[Int.toNat_natCast,hx]
 refine AA (Ba (AA (B6 a1 a3 (by simp) (wpAny_bind (m:=newExc (.type "StopIteration") []) ?_))))
 simp only[newExc,newTuple];refine AA (Au (AA (m:=firstArgMember _ _) (Bh (a:=Value.none) (by first | rfl | (simp only[firstArgMember];rfl)) (Au ?_ (by size_fits)))) (by size_fits))
 simp only[raiseNew];refine AA (Ee ?_)
 first | rw[show A.in1.handled=none from hh] | rw[hh]
 exact AA (AF (wpAny_throw (q _ _ (((B4 ..).extBut.push _).push _) ⟨_,AK _ rfl,rfl⟩)))
structure Far (z TI TO i1 i2 t1 t2:Addr):Prop where
 nd:[z,TI,TO,i1,i2].Nodup
 f1:t1 ∉ [z,TO,i1,i2]
 f2:t2 ∉ [z,TO,i1,i2]
def y4 (z TO i1 i2:Addr) (h h':Heap):Prop:=∀ c o,c ∉ [z,TO,i1,i2]->h.get? c=some o->h'.get? c=some o
variable {z TI TO i1 i2 t1 t2:Addr} {xs ys:Array Value} {k1 k2:Nat}
end
theorem Inv.zipped {X:Cx} {pins:List (Addr×Obj)} {σ:St} {H:Hp} {s:Shared} {z TO i1 i2:Addr} {h':Heap} {t':Nat} (I:Inv X pins σ H s) (hf:∀ b ∈ [z,TO,i1,i2],J7 X pins H b) (k:y4 z TO i1 i2 s.heap h'):Inv X pins σ H { s with heap:=h',toks:=t' }:=by
 have nt:∀ b u,H b=some u->b ∉ [z,TO,i1,i2]:=fun b u e hb=>by
  rw[(hf b hb).1] at e
  cases e
 have nl:X.env.locals ∉ [z,TO,i1,i2]:=fun hb=>(hf _ hb).2.1 rfl
 refine I.step (g':=s.gens) (d':=s.drawn) (ch:=[z,TO,i1,i2]) (fun b hb=>⟨(hf b hb).2.2.2.1,(hf b hb).2.1,(hf b hb).2.2.2.2.1,(hf b hb).2.2.2.2.2⟩) (fun b o _ _ hc e _=>k b o hc e) (fun b o _ _ hc e _=>⟨o.slots,k b o hc e⟩) (fun _ _ _ _ n=>n)
  (fun b o hc e=>⟨o,k b o hc e⟩) (fun _ _ e=>e) (fun _ _ _ e=>e) (fun b ps e=>⟨#[],by rw[e];simp⟩) (fun m hm=>?_) (fun b u e=>?_) I.bare
 ·obtain⟨o,es,ep,ho,r⟩:=hm
  exact⟨o,es,ep,k _ o nl ho,r⟩
 ·refine (I.hok b u e).stay (fun c v hc q=>k c v ?_ q) (fun _ q=>q) fun _ _ q=>q
  rcases hc with z | z
  ·rw[z];exact nt b u e
  ·exact nt c _ z
section
variable {X:Cx}
theorem bt_zip:bootBuiltins "zip" = some (.type "zip"):=by ac_rfl
end
section
variable {X:Cx}
theorem wF:OpR X (compareOp .LtE) (fun x y H Q=>∃ i j,x=.str i/\y=.str j/\Q (.bl (!decide (j.cps.toList < i.cps.toList))) H):=by
 intro pins s σ H x y v u Q I rx ry h
 obtain⟨i,j,rfl,rfl,q⟩:=h
 obtain⟨t,rfl⟩:=rx
 obtain⟨t',rfl⟩:=ry
 exact PySem.P.le_str (qa I q rfl)
end
def Wy (H:Hp):Nat->V->V->Prop
 | 0,v,u=>v=u/\Zm v=true
 | n+1,v,u=>(v=u/\Zm v=true)\/∃ a b xs ys,v=.ref a/\u=.ref b/\H a=some (.tup xs)/\H b=some (.tup ys)/\Paired (Wy H n) xs ys
theorem JI {v:V} (h:Zm v=true):eqV v v=true:=by
 cases v with
 | non=>rfl
 | bl b=>simp[eqV]
 | int i=>simp[eqV]
 | str x=>simp[eqV]
 | _=>cases h
theorem Paired.at {α β:Type} {F:α->β->Prop}:∀ {l₁:List α} {l₂:List β},Paired F l₁ l₂->∀ (i:Nat) (x:α) (y:β),l₁[i]? = some x->l₂[i]? = some y->F x y
 | _,_,.nil,i,x,y,h,_=>by simp at h
 | _,_,.cons r t,0,x,y,h,k=>by simp at h k;subst h k;exact r
 | _,_,.cons r t,i+1,x,y,h,k=>Paired.at t i x y (by simpa using h) (by simpa using k)
section
variable {X:Cx} {pins:List (Addr × Obj)} {σ:St} {H:Hp} {s:Shared}
theorem QJ {A:Around} {n:Nat} {xs ys:List V} {us vs:List Value} (ih:∀ {v u:V} {v' u':Value},RelV v v'->RelV u u'->Wy H n v u->SeqAt.EqAt A s v' u' true) (r1:qi xs us) (r2:qi ys vs) (pr:Paired (Wy H n) xs ys) (j:Nat) (h1:j < us.toArray.size) (h2:j < vs.toArray.size) :
  SeqAt.EqAt A s us.toArray[j] vs.toArray[j] true:=by
 have l1:=r1.length
 have l2:=r2.length
 have g1:j < us.length:=by simpa using h1
 have g2:j < vs.length:=by simpa using h2
 have k1:xs[j]? = some (xs.getD j .non):=by simp[List.getD,show j < xs.length by omega]
 have k2:ys[j]? = some (ys.getD j .non):=by simp[List.getD,show j < ys.length by omega]
 obtain⟨u,e1,q1⟩:=r1.get k1
 obtain⟨v,e2,q2⟩:=r2.get k2
 have w1:us.toArray[j]=u:=by
  rw[AD g1] at e1
  simpa using AH e1
 have w2:vs.toArray[j]=v:=by
  rw[AD g2] at e2
  simpa using AH e2
 rw[w1,w2]
 exact ih q1 q2 (Paired.at pr j _ _ k1 k2)
theorem yq (I:Inv X pins σ H s):∀ (n:Nat) {A:Around} {v u:V} {v' u':Value},A.units+n < cLine->RelV v v'->RelV u u'->Wy H n v u->SeqAt.EqAt A s v' u' true
 | 0,A,v,u,v',u',_,r1,r2,h=>by
  obtain⟨rfl,f⟩:=h
  have:=YQ (A:=A) (s:=s) r1 r2 f f
  rw[JI f] at this
  exact this
 | n+1,A,v,u,v',u',hu,r1,r2,h=>by
  rcases h with ⟨rfl,f⟩ | ⟨a,b,xs,ys,rfl,rfl,ha,hb,pr⟩
  ·have:=YQ (A:=A) (s:=s) r1 r2 f f
   rw[JI f] at this
   exact this
  ·cases r1
   cases r2
   by_cases ab:a=b
   ·subst ab
    exact EB _
   ·obtain⟨_,us,q1,p1⟩:=I.hok a _ ha
    obtain⟨_,vs,q2,p2⟩:=I.hok b _ hb
    have ln:=AQ pr
    have l1:=q1.length
    have l2:=q2.length
    have z:=DB (A:=A) (s:=s) (e:=fun _=>true) p1.isTup p2.isTup (by omega) (QJ (A:=A.in1) (fun {v u v' u'} a1 a2 a3=>yq I n (A:=A.in1) (by show A.units+1+n < cLine;omega) a1 a2 a3) q1 q2 pr)
    have e:((List.range (min us.toArray.size vs.toArray.size)).all (fun _=>true) && us.toArray.size == vs.toArray.size)=true:=by
     simp;omega
    rw[e] at z
    exact Eg ab z
def rNeD (n:Nat):R2:=fun x y H Q=>∃ a b xs ys,x=.ref a/\y=.ref b/\H a=some (.tup xs)/\H b=some (.tup ys)/\Paired (Wy H n) xs ys/\Q (.bl false) H
theorem op_neD (n:Nat) {k:Nat} (hr:jY k X.A) (hn:n<=20):OpR X (compareOp .NotEq) (rNeD n):=by
 intro pins s σ H x y v u Q I rx ry h
 obtain⟨a,b,xs,ys,rfl,rfl,ha,hb,pr,q⟩:=h
 cases rx
 cases ry
 have hu:X.A.units+64 < cLine:=hr.units
 obtain⟨_,us,q1,p1⟩:=I.hok a _ ha
 obtain⟨_,vs,q2,p2⟩:=I.hok b _ hb
 have ln:=AQ pr
 have l1:=q1.length
 have l2:=q2.length
 have z:=SeqAt.RcNeAt.tuples (A:=X.A) (s:=s) (e:=fun _=>true) p1.isTup p2.isTup (by omega) (QJ (A:=X.A.in1) (fun {v u v' u'} a1 a2 a3=>yq I n (A:=X.A.in1) (by show X.A.units+1+n < cLine;omega) a1 a2 a3) q1 q2 pr)
 have e:(!((List.range (min us.toArray.size vs.toArray.size)).all (fun _=>true) && us.toArray.size == vs.toArray.size))=false:=by
  simp;omega
 rw[e] at z
 exact z X.prog X.w _ _ ⟨.bl _,H,I,rfl,q⟩
end
end L2
namespace L4
open PySem L2
def Off (p:Addr) (H H':Hp):Prop:=∀ b o,b ≠ p->H b=some o->H' b=some o
def Tk (H H':Hp):Prop:=∀ b xs,H b=some (.tup xs)->H' b=some (.tup xs)
theorem Off.refl {p:Addr} {H:Hp}:Off p H H:=fun _ _ _ h=>h
theorem Off.trans {p:Addr} {H H1 H2:Hp} (a:Off p H H1) (b:Off p H1 H2):Off p H H2:=fun c o n h=>b c o n (a c o n h)
theorem Off.put {p:Addr} {H:Hp} {o:HO}:Off p H (upd H p o):=fun c u n h=>by rw[zx n];exact h
theorem Off.new {p t:Addr} {H:Hp} {o:HO} (h:H t=none):Off p H (upd H t o):=fun c u n q=>by rw[zx (zE q h)];exact q
theorem Tk.trans {H H1 H2:Hp} (a:Tk H H1) (b:Tk H1 H2):Tk H H2:=fun c xs h=>b c xs (a c xs h)
theorem Tk.refl {H:Hp}:Tk H H:=fun _ _ h=>h
theorem Tk.put {t:Addr} {H:Hp} {xs:List V} {o:HO} (h:H t=some (.lst xs)):Tk H (upd H t o):=fun c u q=>by rw[zx (yR q h (by intro z;cases z))];exact q
theorem ze {H:Hp} {p:Addr} (h:H p=none) (o:HO):zL H (upd H p o):=fun b u q=>by rw[zx (zE q h)];exact q
theorem Off.fresh {p f:Addr} {H H':Hp} {o:HO} (h:Off p H H') (n:H f=none):Off p H (upd H' f o):=fun b u hb q=>by rw[zx (zE q n)];exact h b u hb q
theorem Off.of {p:Addr} {H H':Hp} (s:zL H H'):Off p H H':=fun b o _ q=>s b o q
theorem Tk.of {H H':Hp} (s:zL H H'):Tk H H':=fun b xs q=>s b _ q
theorem take_snoc {α:Type} {xs:List α} {i:Nat} {x:α} (h:xs[i]? = some x):xs.take (i+1)=xs.take i++[x]:=by rw[List.take_add_one,h];rfl
theorem zt {n:Nat} (h:n<=1000):n<=sizeLine:=CI (zo h)
end L4
namespace Fr
end Fr
namespace Fr
end Fr
namespace L4
open PySem L2
theorem _root_.L2.zL.put {H H':Hp} {l:Addr} {o:HO} (h:zL H H') (n:H l=none):zL H (upd H' l o):=fun b u e=>by rw[zx (zE e n)];exact h b u e
end L4
namespace L2
open PySem PySem.Spec PyProof.Rows
variable {X:Cx}
theorem pe_globR {x:Str} {v:V} {pos:Pos} (hg:Gl X x) (hm:∃ u,X.mg x=some u/\RelV v u) (hd:(x == ("__debug__" : Str))=false:=by decide):PE X (.Name x pos) (tC v):=by
 obtain⟨u,h,r⟩:=hm
 exact jk hg h r hd
end L2
namespace HT
open PySem PyProof.Rows
open PySem.SeqAt
open PySem.AutoSeq1 (wpAny_loadPart')
open PySem.MeetsSeq PySem.MeetsSeq2 PySem.MeetsSeq3
variable {prog:Program} {w:World} {A:Around} {E:Value->Shared->Prop} {s:Shared}
theorem getItem_tuple_whole {t sl:Addr} {items:Array Value} {vl vu:Value} {lo hi:Option Int} {Q:Value->Shared->Prop} (ht:IsTup s.heap t items) (hs:s.heap.IsSliceOf sl vl vu .none) (pl:IsPart vl lo) (pu:IsPart vu hi)
  (hw:sIx items.size 0 lo=0/\sIx items.size items.size hi=items.size)
  (h:Q (.ref t) s):wpAny (model prog w) A (getItem (.ref t) (.ref sl)) Q E s:=by
 obtain⟨os,hos,hcs,hds⟩:=id hs
 have hTs:s.TypeIs (.ref sl) "slice":=⟨os,hos,hcs⟩
 unfold getItem
 try with_reducible refine A4 ?_
 first | refine AA (AF ?_) | skip
 refine AA (wpAny_sequenceKey ht.typeIs (by decide) ?_)
 refine AA (wpAny_callSpecial?_slot (name:=Str.ofString "__getitem__") ht.typeIs BT
  (A1 BT ht.typeIs entry_tuple_getitem ?_ (args_tuple_getitem _ _)))
 show wpAny _ _ (Builtin.Tuple.tupleItemsOf (.ref t) >>= _) _ _ s
 refine AA (tupleItemsOf_ ht ?_)
 refine AA (Bo hTs ?_)
 rw[if_pos (by decide)]
 refine AA (sliceApplied_gen hs pl pu ?_)
 have hyes:(((sIx items.size 0 lo:Nat):Int) == 0 && (1:Int) == 1 && (sIx items.size items.size hi - sIx items.size 0 lo) == items.size)=true:=by
  rw[hw.1,hw.2]
  simp
 show wpAny _ _ (if (((sIx items.size 0 lo:Nat):Int) == 0 && (1:Int) == 1 && (sIx items.size items.size hi - sIx items.size 0 lo) == items.size)=true then _ else _) _ _ s
 rw[if_pos hyes]
 refine AA (m:=Builtin.Tuple.tupleIsExact _) (AA (Bo ht.typeIs (AF ?_)))
 rw[if_pos (by decide)]
 first
  | exact AA (Ba (AF ⟨_,rfl,AF h⟩))
  | exact Ba (AF ⟨_,rfl,AF h⟩)
  | exact AA (Ba ⟨_,rfl,AF h⟩)
  | exact AF ⟨_,rfl,AF h⟩
end HT
namespace L2
open PySem PySem.Spec PyProof.Rows
variable {X:Cx}
def rSlTW (K:Fs):V->Option Int->Option Int->Hp->VK->Prop:=fun x lo hi H Q=>∃ a xs,x=.ref a/\SqT K H a xs /\
 (HT.sIx xs.length 0 lo=0/\HT.sIx xs.length xs.length hi=xs.length)/\Q (.ref a) H
theorem sl_tupW:SlR X (rSlTW X.K):=by
 intro pins s σ H x v vl vu lo hi sl Q I rx hs pl pu h
 obtain⟨a,xs,rfl,hx,hw,q⟩:=h
 cases rx
 obtain⟨its,r,ht,hz⟩:=I.tuple hx
 have hlen:its.toArray.size=xs.length:=by rw[Aa];exact r.length.symm
 refine⟨"tuple",_,BT.lookup,ht.typeIs,?_⟩
 exact HT.getItem_tuple_whole ht hs pl pu (by rw[hlen];exact hw) ⟨.ref a,H,I,rfl,q⟩
section
variable {X:Cx}
def rCatA (K:Fs):R2:=fun x y H Q=>∃ a b xs ys,x=.ref a/\y=.ref b/\SqT K H a xs/\SqT K H b ys/\xs.length+ys.length<=sizeLine /\
 (xs=[]->Q (.ref b) H)/\(xs ≠ []->ys=[]->Q (.ref a) H)/\(xs ≠ []->ys ≠ []->∀ p,H p=none->Q (.ref p) (upd H p (.tup (xs++ys))))
theorem Y3 (K:Fs) (hK:X.K=K:=by rfl):OpR X (binaryOp .Add) (rCatA K):=by
 subst hK
 intro pins s σ H x y v u Q I rx ry h
 obtain⟨a,b,xs,ys,rfl,rfl,ha,hb,hz,q0,q1,q2⟩:=h
 by_cases hx:xs=[]
 ·cases rx
  cases ry
  obtain⟨its,r1,p1,_⟩:=I.tuple ha
  obtain⟨its2,r2,p2,_⟩:=I.tuple hb
  obtain⟨⟨cls,dd,data,sl⟩,ho,hc,n,hd⟩:=id p1
  obtain⟨⟨cls2,dd2,data2,sl2⟩,ho2,hc2,n2,hd2⟩:=id p2
  simp only at hc hd hc2 hd2
  subst hc hd hc2 hd2
  have hv:its=[]:=(qi.nil_iff r1).mpr hx
  exact concat_meets ⟨_,ho,rfl⟩ ⟨_,ho2,rfl⟩ noFill_tuple_add seq_tuple_add Dd Da (DV _ _)
   (tuple_addW0 a b its.toArray its2.toArray n n2 dd dd2 sl sl2 (by simp[hv])) ⟨ho,ho2,⟨.ref b,H,I,rfl,q0 hx⟩⟩
 ·exact op_catT pins s σ H _ _ v u Q I rx ry ⟨a,b,xs,ys,rfl,rfl,ha,hb,hx,hz,q1 hx,q2 hx⟩
def rNeE:R2:=fun x y H Q=>∃ a b xs,x=.ref a/\y=.ref b/\H a=some (.tup xs)/\H b=some (.tup [])/\Q (.bl (!xs.isEmpty)) H
theorem op_neE {k:Nat} (hr:jY k X.A):OpR X (compareOp .NotEq) rNeE:=by
 intro pins s σ H x y v u Q I rx ry h
 obtain⟨a,b,xs,rfl,rfl,ha,hb,q⟩:=h
 cases rx
 cases ry
 have hu:X.A.units+64 < cLine:=hr.units
 obtain⟨_,us,q1,p1⟩:=I.hok a _ ha
 obtain⟨_,vs,q2,p2⟩:=I.hok b _ hb
 have l1:=q1.length
 have l2:=q2.length
 have z:=SeqAt.RcNeAt.tuples (A:=X.A) (s:=s) (e:=fun _=>true) p1.isTup p2.isTup (by omega) (fun j h1 h2=>by
  rw[Aa,<- l2] at h2
  exact absurd h2 (CJ _))
 have e:(!((List.range (min us.toArray.size vs.toArray.size)).all (fun _=>true) && us.toArray.size == vs.toArray.size)) = !xs.isEmpty:=by
  rw[Aa,Aa,<- l1,<- l2]
  cases xs with
  | nil=>rfl
  | cons x xs=>simp
 rw[e] at z
 exact z X.prog X.w _ _ ⟨.bl _,H,I,rfl,q⟩
end
end L2
namespace L4
open PySem L2
open PySem L2 PySem.StrLaws
def Small (x:Str):Prop:=∀ c ∈ x.cps.toList,97<=c/\c<=122
theorem map_tup {α:Type} {K:Fs} {a D:Addr} {t:Nat} {te:TE} {σ0:St} {H1:Hp} {Q:VK} (as:List α) (g h:α->V) (ha:H1 a=some (.tup (as.map g))) (hl:as.length<=1000) (hD:H1 D=none)
  (he:∀ z ∈ as,∀ H' Q',zL H1 H'->(∀ H'',zL H' H''->Q' (h z) H'')->te (σ0.set t (some (g z))) H' Q')
  (q:∀ H',zL H1 H'->H' D=some (.lst (as.map h))->Q (.ref D) H'):jt (Itt K a) (jm t) tYes te σ0 H1 Q D:=by
 refine Qm (xs:=as.map g) (fun i ys H'=>zL H1 H'/\ys=(as.take i).map h) ⟨ze hD _,rfl⟩ (fun i ys H' hh _=>SqT.of (hh.1 _ _ ha)) ?_ ?_
 ·rintro i ys H' x hx ⟨s1,rfl⟩ hD'
  have hi:i < (as.map g).length:=(AE.mp hx).1
  rw[AR] at hx
  obtain⟨z,hz,rfl⟩:=At.mp hx
  refine yes (he z (AN hz) H' _ s1 fun H'' s2=>?_)
  rw[AB] at hi
  refine ZP (by rw[AB];exact hi) jg (s2 _ _ hD') (by rw[AB,Ae];exact zo (by omega)) ⟨fun b o qb=>?_,?_⟩
  ·rw[zx (zE qb hD)]
   exact s2 b o (s1 b o qb)
  ·rw[take_snoc hz,AM]
   rfl
 ·rintro ys H' ⟨s1,rfl⟩ hD'
  rw[AB,Ad] at hD'
  exact q H' s1 hD'
theorem map_list {α:Type} {K:Fs} {a D:Addr} {t:Nat} {te:TE} {σ0:St} {H1:Hp} {Q:VK} (as:List α) (g h:α->V) (ha:H1 a=some (.lst (as.map g))) (hl:as.length<=1000) (hD:H1 D=none)
  (he:∀ z ∈ as,∀ H' Q',zL H1 H'->(∀ H'',zL H' H''->Q' (h z) H'')->te (σ0.set t (some (g z))) H' Q')
  (q:∀ H',zL H1 H'->H' D=some (.lst (as.map h))->Q (.ref D) H'):jt (Itl K a) (jm t) tYes te σ0 H1 Q D:=by
 refine Zp (xs:=as.map g) (fun i ys H'=>zL H1 H'/\ys=(as.take i).map h) ⟨ze hD _,rfl⟩ (fun i ys H' hh _=>SqL.of (hh.1 _ _ ha)) ?_ ?_
 ·rintro i ys H' x hx ⟨s1,rfl⟩ hD'
  have hi:i < (as.map g).length:=(AE.mp hx).1
  rw[AR] at hx
  obtain⟨z,hz,rfl⟩:=At.mp hx
  refine yes (he z (AN hz) H' _ s1 fun H'' s2=>?_)
  rw[AB] at hi
  refine ZP (by rw[AB];exact hi) jg (s2 _ _ hD') (by rw[AB,Ae];exact zo (by omega)) ⟨fun b o qb=>?_,?_⟩
  ·rw[zx (zE qb hD)]
   exact s2 b o (s1 b o qb)
  ·rw[take_snoc hz,AM]
   rfl
 ·rintro ys H' ⟨s1,rfl⟩ hD'
  rw[AB,Ad] at hD'
  exact q H' s1 hD'
theorem map_str {z:Str} {D:Addr} {t:Nat} {te:TE} {σ0:St} {H1:Hp} {Q:VK} (h:Nat->V) (hl:z.length<=1000) (hD:H1 D=none)
  (he:∀ c ∈ z.cps.toList,∀ H' Q',zL H1 H'->(∀ H'',zL H' H''->Q' (h c) H'')->te (σ0.set t (some (.str ⟨#[c]⟩))) H' Q')
  (q:∀ H',zL H1 H'->H' D=some (.lst (z.cps.toList.map h))->Q (.ref D) H'):jt (Its z) (jm t) tYes te σ0 H1 Q D:=by
 refine comp_str (fun i ys H'=>zL H1 H'/\ys=(z.cps.toList.take i).map h) ⟨ze hD _,rfl⟩ ?_ ?_
 ·rintro i ys H' c hc ⟨s1,rfl⟩ hD'
  have hi:i < z.cps.size:=(Array.getElem?_eq_some_iff.mp hc).1
  have hc':z.cps.toList[i]? = some c:=by simpa using hc
  have hs:z.cps.size=z.length:=rfl
  refine yes (he c (AN hc') H' _ s1 fun H'' s2=>?_)
  refine ZP hi jg (s2 _ _ hD') (by rw[AB,Ae];exact zo (by omega)) ⟨fun b o qb=>?_,?_⟩
  ·rw[zx (zE qb hD)]
   exact s2 b o (s1 b o qb)
  ·rw[take_snoc hc',AM]
   rfl
 ·rintro ys H' ⟨s1,rfl⟩ hD'
  rw[BY (by simp)] at hD'
  exact q H' s1 hD'
theorem trues {α:Type} (as:List α):as.map (fun _=>V.bl true)=(as.map fun _=>true).map V.bl:=by rw[BA];rfl
theorem Y4 {α:Type} (as:List α):(as.map fun _=>true).all id=true:=by
 rw[Bf]
 intro x hx
 obtain⟨_,_,rfl⟩:=AW.mp hx
 rfl
theorem zL.rfl' {H:Hp}:zL H H:=fun _ _ h=>h
inductive Th where
 | non
 | bl (b:Bool)
 | int (i:Int)
 | str (x:Str)
 | lst
 | dct
 | tup (ts:List Th)
def tyTh:Th->Value
 | .non=>.type "NoneType"
 | .bl _=>.type "bool"
 | .int _=>.type "int"
 | .str _=>.type "str"
 | .lst=>.type "list"
 | .dct=>.type "dict"
 | .tup _=>.type "tuple"
def isStrB:Th->Bool
 | .str _=>true
 | _=>false
theorem Y5 {K:Fs} (t:Th):PySem.W.kitOne K (tyTh t) (.type "str")=some (isStrB t):=by cases t <;> first | rfl | exact ju _
open Classical in
section
variable {X:Addr->Prop} {H0:Hp} {σ:St}
end
end L4
namespace L2
open PySem PySem.Spec PyProof.Rows
open Builtin
theorem jq:fillsNumberSlot (.type "tuple") "mul" = pure false:=
 PySem.fillsNumberSlot_seq (id := "tuple.__mul__") (r:=some (.builtin "tuple.__rmul__")) DL.lookup (by ac_rfl) F.slot_tuple_rmul.lookup (by ac_rfl)
theorem Zs:seqRepeat? (.type "tuple")=pure (some (.builtin "tuple.__mul__")):=by
 unfold seqRepeat?
 rw[PySem.seqSlot_of (T := "tuple") (name := "__mul__") (id := "tuple.__mul__") DL.lookup (by ac_rfl),PySem.seqSlot_of (T := "tuple") (name := "__rmul__") (id := "tuple.__rmul__") F.slot_tuple_rmul.lookup (by ac_rfl)]
 rfl
theorem jP (a:Int) (t:Tok) (l:Addr) (items:Array Value) (n:Nat) (dd:Option Addr) (sl:Array (Option Value)) :
  Meets (Builtin.«int.__rmul__» ⟨[.int a t,.ref l],[]⟩) (fun _ R s=>s.heap.get? l=some { cls:=.type "tuple",dict:=dd,data:=.seq items n,slots:=sl }/\R (.ok (.ret Value.notImplemented)) s):=
 .of_wp fun prog w A R s h=>by obtain⟨hp,g,d,tk,os⟩:=s;obtain⟨hl,h⟩:=h;wp_walk;exact⟨_,rfl,h⟩
theorem JJ (l:Addr) (items:Array Value) (n:Nat) (dd:Option Addr) (sl:Array (Option Value)) (x:Int) (u:Tok) (hc0:¬ (decide (x < -(2 ^ 63)) || decide (x ≥ 2 ^ 63))=true) (hc1:¬ (items.isEmpty || x == 1)=true) (hc2:¬ (decide (x<=0) || items.isEmpty)=true) (hc3:¬ (items.size:Int) * x > (2 ^ 63 - 1) / 8) (hc4:¬ Builtin.Tuple.tupleTooMany (items.size * x)=true) (hsz:(List.foldl (fun x1 x2=>x1++x2) #[] (List.replicate x.toNat items)).size<=sizeLine) :
  Meets (Builtin.«tuple.__mul__» ⟨[.ref l,.int x u],[]⟩) (fun _ R s=>s.heap.get? l=some { cls:=.type "tuple",dict:=dd,data:=.seq items n,slots:=sl }/\R (.ok (.ret (Value.ref s.heap.objs.size))) { s with heap:=s.heap.push { cls:=Value.type "tuple",data:=Data.seq (List.foldl (fun x1 x2=>x1++x2) #[] (List.replicate x.toNat items)) },toks:=s.toks }):=
 .of_wp fun prog w A R s h=>by
  obtain⟨hp,g,d,tk,os⟩:=s;obtain⟨hl,h⟩:=h
  wp_walk
  refine Cv (AY hc0) ?_
  wp_walk
  first | refine Cv (AY hc1) ?_ | skip
  wp_walk
  first | refine Cv (AY hc2) ?_ | skip
  wp_walk
  refine Cv (AY hc3) ?_
  wp_walk
  first | refine Cv (AY hc4) ?_ | skip
  wp_walk
  first | refine Cv (AY (Df.mpr hsz)) ?_ | skip
  wp_walk
  exact⟨_,rfl,h⟩
section
variable {X:Cx}
def rRepT (K:Fs):R2:=fun x y H Q=>∃ a xs k,x=.ref a/\y=.int k/\SqT K H a xs/\xs ≠ []/\2<=k/\k<=1000/\xs.length * k.toNat<=1000/\∀ p,H p=none->Q (.ref p) (upd H p (.tup (List.replicate k.toNat xs).flatten))
theorem op_repT (K:Fs) (hK:X.K=K:=by rfl):OpR X (binaryOp .Mult) (rRepT K):=by
 subst hK
 intro pins s σ H x y v u Q I rx ry h
 obtain⟨a,xs,k,rfl,rfl,ha,hne,k2,k1000,hz,q⟩:=h
 cases rx
 obtain⟨t,rfl⟩:=ry
 obtain⟨its,r1,p1,_⟩:=I.tuple ha
 obtain⟨⟨cls,dd,data,sl⟩,ho,hc,n,hd⟩:=id p1
 simp only at hc hd
 subst hc hd
 have hil:its.length=xs.length:=r1.length.symm
 have hin:its ≠ []:=fun z=>hne ((qi.nil_iff r1).mp z)
 have hie:its.toArray.isEmpty=false:=by simpa using hin
 have hnew:List.foldl (fun x1 x2=>x1++x2) #[] (List.replicate k.toNat its.toArray)=(List.replicate k.toNat its).flatten.toArray:=by
  have:=QD its k.toNat []
  rw[Bw] at this
  exact this
 have hlen:(List.replicate k.toNat its).flatten.length<=1000:=by
  rw[List.length_flatten]
  simp
  rw[hil,ET]
  exact hz
 have hmul:(its.toArray.size:Int) * k<=1000:=by
  have e:((xs.length * k.toNat:Nat):Int)<=1000:=by exact_mod_cast hz
  rw[Aa,hil]
  have hk:((k.toNat:Nat):Int)=k:=by omega
  rw[B5,hk] at e
  exact e
 refine Ch (T := "tuple") (U := "int") (by decide) ⟨_,ho,rfl⟩ (fun s'=>Cz s' k t) jq EE CC Zs Dw.lookup
  (Bs CC (Cz s k t) Dx (Dn _ _) (jP k t a its.toArray n dd sl)
   ⟨ho,rfl,⟨_,ho,rfl⟩,Bs DL ⟨_,ho,rfl⟩ Ep (Eh _ _) (JJ a its.toArray n dd sl k t ?_ ?_ ?_ ?_ ?_ ?_) ⟨ho,?_⟩⟩)
 ·simp
  omega
 ·rw[hie]
  simp
  omega
 ·rw[hie]
  simp
  omega
 ·omega
 ·show ¬ (decide _)=true
  rw[decide_eq_true_iff]
  have:(1000:Int)<=(sizeLine:Nat):=by ac_rfl
  omega
 ·rw[hnew,Aa]
  exact CI (zo hlen)
 ·rw[hnew]
  refine⟨.ref s.heap.objs.size,_,I.laid (t':=s.toks) (o:=.tup (List.replicate k.toNat xs).flatten) (fun b ob q=>AC _ q) (AG _) ?_,rfl,q _ (I.hok.fresh (AG _))⟩
  exact⟨by rw[YS];exact CI (zo (by rw[ET];exact hz)),_,r1.rep k.toNat,Ys.new _ _⟩
end
end L2
namespace L4
open PySem L2
section
variable {B:Th->Bool} {H0 H:Hp} {l:Addr} {n:Nat} {σ:St}
end
open PySem L2 PySem.StrLaws
end L4
namespace L2
open PySem PySem.Spec PyProof.Rows
open PySem PySem.Spec PyProof.Rows PySem.Builtin PySem.Builtin.Str
section
variable {X:Cx} {e:Expr} {es:List Expr} {te ta tb:TE} {t:TA} {pos:Pos} {a b:Expr} {st:Stmt} {rest:List Stmt} {ts us:TS}
end
section
variable {X:Cx}
theorem JK:OpR X (binaryOp .Mult) (fun x y H Q=>∃ (i:Str) (n:Int),x=.str i/\y=.int n/\0<=n/\n<=100/\i.length<=10/\Q (.str (Txt.mul i n)) H):=by
 intro pins s σ H x y v u Q I rx ry h
 obtain⟨i,n,rfl,rfl,n0,n1,il,q⟩:=h
 obtain⟨t,rfl⟩:=rx
 obtain⟨t',rfl⟩:=ry
 refine SB.mul ⟨by simp;omega,fun h1 _=>?_,fun h1 _=>?_⟩ fun t' k=>⟨.str _,H,I.tok _,⟨_,rfl⟩,q⟩
 ·have h2:(2 ^ 63 - 1:Int) / 100<=(2 ^ 63 - 1) / n:=by
   rw[Int.le_ediv_iff_mul_le (by omega)]
   have h3:(2 ^ 63 - 1:Int) / 100 * n<=(2 ^ 63 - 1:Int) / 100 * 100:=Int.mul_le_mul_of_nonneg_left n1 (by decide)
   have h4:(2 ^ 63 - 1:Int) / 100 * 100<=2 ^ 63 - 1:=by decide
   omega
  have h5:(10:Int)<=(2 ^ 63 - 1:Int) / 100:=by decide
  omega
 ·have:i.length * n.toNat<=10 * 100:=Nat.mul_le_mul il (by omega)
  unfold tooLong sizeLine
  exact AY (by omega)
end
end L2
namespace L4
open PySem L2 PySem.StrLaws
section
end
open PySem L2
section
variable {X:Addr->Prop} {H0 H:Hp} {σ:St} {B:Th->Bool} {l:Addr} {n:Nat}
end
section
end
section
variable {X:Addr->Prop} {H0:Hp} {σ:St} {K:Fs}
end
section
end
section
end
end L4
namespace L2
open PySem PySem.Spec PyProof.Rows
section
variable {X:Cx}
theorem bt_min:bootBuiltins "min" = some (.builtin "min"):=by ac_rfl
theorem y6 (K:Fs) (hc:X.calm=true):qQ X (.builtin "min") (fun xs H Q=>∃ i j,xs=[.int i,.int j]/\Q (.int (if j < i then j else i)) H):=YJ hc
end
theorem y8 {c A B:Prop} [Decidable c] (hc:decide c=true) (h:A):if decide c=true then A else B:=by rw[if_pos hc];exact h
theorem Wz {c A B:Prop} [Decidable c] (hc:decide c=false) (h:B):if decide c=true then A else B:=by rw[if_neg (by rw[hc];exact AX)];exact h
theorem comp_tt2 {K:Fs} {a:Addr} {n:Nat} {xs:List V} {ad:Nat->Addr} {v1 v2:Nat->V} {tt:TT} {te:TE} {H1:Hp} {Q:VK} {D:Addr} {more:St} (P:Nat->List V->Hp->Prop) (h0:P 0 [] (upd H1 D (.lst []))) (hn:xs.length=n) (hx:∀ i,i < n->xs[i]? = some (.ref (ad i)))
  (hl:∀ i ys H,P i ys H->H D=some (.lst ys)->SqT K H a xs) (ht:∀ i ys H,i < n->P i ys H->SqT K H (ad i) [v1 i,v2 i])
  (hs:∀ i ys H,i < n->P i ys H->H D=some (.lst ys)->tt (some (v1 i) :: some (v2 i) :: more) H fun b H4=>if b=true then te (some (v1 i) :: some (v2 i) :: more) H4 (YZ (fun σ=>∃ x y,σ=x :: y :: more) P n D (some (v1 i) :: some (v2 i) :: more) i) else cNo (fun σ=>∃ x y,σ=x :: y :: more) P n D (some (v1 i) :: some (v2 i) :: more) i H4)
  (hd:∀ ys H,P n ys H->H D=some (.lst ys)->Q (.ref D) H) :
  jt (Itt K a) (gTup K 2 (we (jm 0) (we (jm 1) gNil))) tt te (none :: none :: more) H1 Q D:=by
 refine j4 (xv:=fun i=>.ref (ad i)) (st:=fun i=>some (v1 i) :: some (v2 i) :: more) (fun σ=>∃ x y,σ=x :: y :: more) P ⟨_,_,rfl⟩ h0 (fun i ys H hi p hD=>⟨⟨xs,_,hl i ys H p hD,hx i hi⟩,fun x H2 y=>⟨y.1,?_⟩⟩) (fun ys H p hD=>⟨xs,hl _ ys H p hD,Nat.le_of_eq hn⟩)
  (fun i ys σ' H K' hi r p k=>?_) hs hd
 ·have e:=y.2 xs (hl i ys H p hD)
  rw[hx i hi] at e
  exact (AH e).symm
 ·obtain⟨x,y,rfl⟩:=r
  exact⟨ad i,_,rfl,ht i ys H hi p,rfl,_,_,rfl,_,_,rfl,rfl,k⟩
end L2
namespace L4
open PySem L2
end L4
namespace Fr
end Fr
namespace PySem
open Sem (wp)
section
variable {prog:Program} {w:World} {A:Around} {E:Value->Shared->Prop} {s:Shared}
theorem wpAny_collect_range {Q:List Value->Shared->Prop} {it:Addr} {a b c:Int} {t u v:Tok} {n:Nat} (hh:A.handled=none) (hr:IsRange s.heap it a b c t u v) (hsmall:Builtin.Range.small a b c=true)
  (hn:Builtin.Range.rangeSize a b c=n) (hlen:n<=2 ^ 24)
  (hQ:∀ h' tk (acc:Array Value),(∀ b o',s.heap.get? b=some o'->h'.get? b=some o')->ItemsOf (fun i v=>∃ t,v=.int (a+i * c) t) acc n->Q acc.toList { s with heap:=h',toks:=tk }) :
  wpAny (model prog w) A (collect (.ref it)) Q E s:=by
 unfold collect
 refine AA (wpAny_runValue (B2 F.entry_proto_collect ?_))
 rw[Bj F.plain_proto_collect _]
 show wpAny _ A.in1 (newList [] >>= fun l=>again (.builtin "list.__iadd__" ⟨[l,.ref it],[]⟩)) _ _ s
 refine AA (Au ?_)
 refine AF ⟨Bv F.plain_list_iadd _,B2 F.entry_list_iadd ?_⟩
 rw[Bj F.plain_list_iadd _]
 show wpAny _ A.in1 (Builtin.List.listExtendWith (.ref s.heap.objs.size) (.ref it) (.ref s.heap.objs.size)) _ _ _
 have hS:(s.heap.push { cls:=.type "list",data:=.seq ([]:List Value).toArray }).get? s.heap.objs.size=some { cls:=.type "list",data:=.seq #[] 0 }:=AK _ rfl
 have fin':∀ (s':Shared),(∃ h' tk acc c',s' = { s with heap:=h',toks:=tk }/\(∀ b o,b ≠ s.heap.objs.size->(s.heap.push { cls:=.type "list",data:=.seq ([]:List Value).toArray }).get? b=some o->h'.get? b=some o)/\h'.get? s.heap.objs.size=some { cls:=.type "list",dict:=none,data:=.seq acc c',slots:=#[] }/\ItemsOf (fun i v=>∃ t,v=.int (a+i * c) t) acc n)->wpAny (model prog w) A (match Value.ref s.heap.objs.size with
   | Value.ref a=>do
    match (<- load a).data with
     | Data.seq xs _=>pure xs.toList
     | _=>unsupported "internal:collect"
   | _=>unsupported "internal:collect") Q E s':=by
  rintro s' ⟨h',tk,acc,c',rfl,kp,e,hacc⟩
  show wpAny _ A (load s.heap.objs.size >>= _) _ _ _
  refine AA (wpAny_load e ?_)
  refine AF ?_
  exact hQ h' tk acc (fun b o' hb=>kp b o' (AU (AL hb)) (AC _ hb)) hacc
 refine Bp (wpAny_extend_range (A:=A) (R:=fun r s'=>r=.ok (.ret (.ref s.heap.objs.size))/\∃ h' tk acc c',s' = { s with heap:=h',toks:=tk }/\(∀ b o,b ≠ s.heap.objs.size->(s.heap.push { cls:=.type "list",data:=.seq ([]:List Value).toArray }).get? b=some o->h'.get? b=some o)/\h'.get? s.heap.objs.size=some { cls:=.type "list",dict:=none,data:=.seq acc c',slots:=#[] }/\ItemsOf (fun i v=>∃ t,v=.int (a+i * c) t) acc n)
  (s:={ s with heap:=s.heap.push { cls:=.type "list",data:=.seq ([]:List Value).toArray } }) hh (AC _ hr) hsmall hn hlen _ _ 0 hS fun h' tk acc' c' k1 k2 k3=>⟨rfl,h',tk,acc',c',rfl,k1,k2,k3⟩) (fun fin s' h=>?_) (fun e s' h=>?_)
 ·cases fin with
  | done f=>
   obtain⟨e,h⟩:=h
   cases e
   exact fin' _ h
  | again c'=>exact⟨h.1,D6 h.2 fun r s'' hr=>by obtain⟨rfl,hr⟩:=hr;exact fin' _ hr⟩
 ·exact absurd h.1 (by simp)
end
theorem meets_tuple_new_range (l:Addr) (a b c:Int) (t u v:Tok) (n:Nat) (hsmall:Builtin.Range.small a b c=true) (hn:Builtin.Range.rangeSize a b c=n) (hlen:n<=2 ^ 20) :
  Meets (Builtin.«tuple.__new__» ⟨[.type "tuple",.ref l],[]⟩)
   (fun A R s=>A.handled=none/\IsRange s.heap l a b c t u v/\∀ (h':Heap) (tk:Nat) (acc:Array Value),(∀ b o',s.heap.get? b=some o'->h'.get? b=some o')->ItemsOf (fun i v=>∃ t,v=.int (a+i * c) t) acc n->R (.ok (.ret (.ref h'.objs.size))) { s with heap:=h'.push { cls:=.type "tuple",data:=.seq acc },toks:=tk }):=
 .of_wp fun prog w A R s h=>by
  obtain⟨hp,g,d,tk,os⟩:=s;obtain⟨hh,ht,h⟩:=h
  have hsub:=sub_tuple_self
  have hinit:=init_tuple_lookup
  have hmh:=madeHere_tuple
  have hT:Shared.TypeIs ⟨hp,g,d,tk,os⟩ (.ref l) "range":=⟨_,ht,rfl⟩
  wp_walk using AutoSeq1.wpAny_loadPart' ht,Bo hT,wpAny_collect_range (A:=A.in1) hh ht hsmall hn (by omega)
  intro h' tk' acc hk hacc
  show wpAny _ _ (Builtin.Tuple.tupleExact acc.toList.toArray >>= fun v=>ret v) _ _ _
  unfold Builtin.Tuple.tupleExact
  have hsz:acc.size<=sizeLine:=by rw[hacc.1];exact Aq hlen (by ac_rfl)
  refine AA (Au ?_ (by show acc.toList.toArray.size<=sizeLine;simpa using hsz))
  refine AF ⟨_,rfl,?_⟩
  have e:acc.toList.toArray=acc:=by simp
  rw[e]
  exact h h' tk' acc hk hacc
section
variable {prog:Program} {w:World} {A:Around} {E:Value->Shared->Prop} {s:Shared}
theorem call_tuple_range {l:Addr} {a b c:Int} {t u v:Tok} {n:Nat} {Q:Value->Shared->Prop} (hh:A.handled=none) (hr:IsRange s.heap l a b c t u v) (hsmall:Builtin.Range.small a b c=true) (hn:Builtin.Range.rangeSize a b c=n) (hlen:n<=2 ^ 20)
  (h:∀ (h':Heap) (tk:Nat) (acc:Array Value),(∀ b o',s.heap.get? b=some o'->h'.get? b=some o')->ItemsOf (fun i v=>∃ t,v=.int (a+i * c) t) acc n->Q (.ref h'.objs.size) { s with heap:=h'.push { cls:=.type "tuple",data:=.seq acc },toks:=tk }) :
  wpAny (model prog w) A (call (.type "tuple") [.ref l]) Q E s:=
 callType_new F.called_tuple (by decide) (F.typeCall_tuple_1 _) (F.newCall_tuple_1 _) (fun obj=>F.args_object_init_2 obj _) F.entry_tuple_new
  (meets_tuple_new_range l a b c t u v n hsmall hn hlen) ⟨hh,hr,fun h' tk acc hk hacc=>⟨⟨_,AK _ rfl,rfl⟩,h h' tk acc hk hacc⟩⟩
end
end PySem
namespace PySem.SeqAt
open PySem
theorem wpAny_forRange {M:Model} {A:Around} {E:Value->Shared->Prop} {s:Shared} {β:Type} {a b:Nat} (f:Nat->β->Sem (ForInStep β)) (I:Nat->β->Shared->Prop) (Q:β->Shared->Prop)
  (turn:∀ i c s,a<=i->i < b->I i c s->wpAny M A (f i c) (fun r s'=>match r with | .yield c'=>I (i+1) c' s' | .done c'=>Q c' s') E s)
  (fin:∀ c s,I (max a b) c s->Q c s) (c:β) (h:I a c s):wpAny M A (forIn [a:b] c f) Q E s:=by
 rw[Std.Legacy.Range.forIn_eq_forIn_range']
 have hsz:([a:b]:Std.Legacy.Range).size=b - a:=by simp[Std.Legacy.Range.size]
 show wpAny M A (forIn (List.range' a ([a:b]:Std.Legacy.Range).size 1) c f) Q E s
 rw[hsz]
 refine wpAny_forIn_list f (fun l c st=>∃ i,a<=i/\i<=max a b/\l=List.range' i (max a b - i) 1/\I i c st) Q ?_ ?_ _ c ⟨a,AG _,by omega,by congr 1;omega,h⟩
 ·rintro x rest c st ⟨i,hai,hib,hl,hI⟩
  have hlt:i < max a b:=by
   rcases DK i (max a b) with h' | h'
   ·exact h'
   ·rw[show max a b - i=0 by omega] at hl;simp at hl
  obtain⟨n,hn⟩:∃ n,max a b - i=n+1:=⟨max a b - i - 1,by omega⟩
  rw[hn,List.range'_succ] at hl
  obtain⟨rfl,rfl⟩:=CB hl
  refine Bp (turn x c st hai (by omega) hI) (fun r st' h'=>?_) fun _ _ h'=>h'
  cases r with
  | done c'=>exact h'
  | yield c'=>exact⟨x+1,by omega,by omega,by congr 1;omega,h'⟩
 ·rintro c st ⟨i,hai,hib,hl,hI⟩
  have:i=max a b:=by
   rcases DK i (max a b) with h' | h'
   ·obtain⟨n,hn⟩:∃ n,max a b - i=n+1:=⟨max a b - i - 1,by omega⟩
    rw[hn,List.range'_succ] at hl
    cases hl
   ·omega
  rw[this] at hI
  exact fin c st hI
theorem tuple_indexAt (l:Addr) (items:Array Value) (n:Nat) (dd:Option Addr) (sl:Array (Option Value)) (x:Value) (e:Value->Bool) (j:Nat) (hj:j < items.size)
  (hit:e items[j]=true) (hno:∀ m (hm:m < items.size),m < j->e items[m]=false) :
  Meets (Builtin.«tuple.index» ⟨[.ref l,x],[]⟩)
   (fun A R s=>s.heap.get? l=some { cls:=.type "tuple",dict:=dd,data:=.seq items n,slots:=sl }/\(∀ y,y ∈ items->EqAt A.in1 s y x (e y))/\R (.ok (.ret (.int j s.toks))) { s with toks:=s.toks+1 }):=
 .of_wp fun prog w A R s h=>by
  obtain⟨hp,g,d,tk,os⟩:=s;obtain⟨hl,he,h⟩:=h
  wp_walk using AutoSeq1.wpAny_loadPart' hl,wpAny_forRange _ (fun i c s'=>c=(none,())/\s'=⟨hp,g,d,tk,os⟩/\i<=j) _
  case turn=>
   rintro i c s' hi1 hi2 ⟨rfl,rfl,hij⟩
   have hi:i < items.size:=by omega
   rw[BK hi]
   refine AA (he _ (Array.getElem_mem hi) prog w _ _ ?_)
   rcases DK i j with h' | h'
   ·rw[hno i hi h']
    wp_walk
    exact⟨rfl,rfl,h'⟩
   ·have e1:i=j:=by omega
    subst e1
    rw[hit]
    wp_walk
    exact⟨_,rfl,h⟩
  case fin=>
   rintro c s' ⟨rfl,rfl,hij⟩
   omega
  case h=>
   exact⟨rfl,rfl,A6 _⟩
end PySem.SeqAt
namespace L2
open PySem PySem.Spec PyProof.Rows
theorem yr:∀ {ns:List Int} {us:List Value},qi (ns.map V.int) us->IntsAre us ns
 | [],us,h=>by cases h;exact .nil
 | n :: ns,us,h=>by
  rw[Ai] at h
  cases h with
  | cons r t=>
   obtain⟨tk,rfl⟩:=r
   exact .cons n tk (yr t)
theorem Y6 {ns:List Int} {us:List Value} (h:IntsAre us ns):qi (ns.map V.int) us:=by
 induction h with
 | nil=>exact .nil
 | cons n t _ ih=>exact .cons ⟨t,rfl⟩ ih
theorem yt:∀ {xs:List V} {us:List Value},xs.length=us.length->(∀ (i:Nat) x u,xs[i]? = some x->us[i]? = some u->RelV x u)->qi xs us
 | [],[],_,_=>.nil
 | [],_ :: _,h,_=>by cases h
 | _ :: _,[],h,_=>by cases h
 | x :: xs,u :: us,h,k=>.cons (k 0 x u rfl rfl) (yt (by simpa using h) fun i y v a b=>k (i+1) y v (by simpa using a) (by simpa using b))
section
variable {X:Cx}
def rRepL (K:Fs):R2:=fun x y H Q=>∃ a xs n,x=.ref a/\y=.int n/\H a=some (.lst xs)/\0<=n/\n<=1000/\xs.length * n.toNat<=1000/\∀ p,H p=none->Q (.ref p) (upd H p (.lst (List.replicate n.toNat xs).flatten))
theorem op_repL (K:Fs):OpR X (binaryOp .Mult) (rRepL K):=by
 intro pins s σ H x y v u Q I rx ry h
 obtain⟨a,xs,k,rfl,rfl,ha,k0,k1,hz,q⟩:=h
 cases rx
 obtain⟨t,rfl⟩:=ry
 obtain⟨z,its,n,r,hl,e⟩:=I.lstM ha
 have e1:List.foldl (fun x1 x2=>x1++x2) #[] (List.replicate k.toNat its.toArray)=(List.replicate k.toNat its).flatten.toArray:=by
  have:=QD its k.toNat []
  rw[Bw] at this
  exact this
 have hnew:List.foldl (fun x1 x2=>x1++x2) #[] (List.replicate (if its.toArray.isEmpty=true then 0 else k.toNat) its.toArray)=(List.replicate k.toNat its).flatten.toArray:=by
  cases hi:its with
  | nil=>simp
  | cons b bs=>
   rw[<- hi]
   have:its.toArray.isEmpty=false:=by rw[hi];rfl
   rw[this]
   exact e1
 refine Ch (T := "list") (U := "int") (by decide) ⟨_,e,rfl⟩ (fun s'=>Cz s' k t) noFill_list_mul EE CC repeat_list Dw.lookup
  (Bs CC (Cz s k t) Dx (Dn _ _) (int___rmul___int_list k t a its.toArray n)
   ⟨e,rfl,⟨_,e,rfl⟩,Bs F.slot_list_mul ⟨_,e,rfl⟩ F.entry_list_mul (F.args_list_mul_2 _ _)
    (AutoListH.list___mul___list_int_3 a its.toArray n k t (by simp[Builtin.List.listFitsIndex];omega) (by
     have h1:its.length * k.toNat<=1000:=by rw[<- hl];exact hz
     have h2:((its.length * k.toNat:Nat):Int)<=1000:=by exact_mod_cast h1
     rw[B5,show ((k.toNat:Nat):Int)=k by omega] at h2
     simp only[List.size_toArray]
     omega) (by
     have h1:its.length * k.toNat<=1000:=by rw[<- hl];exact hz
     have h2:((its.length * k.toNat:Nat):Int)<=1000:=by exact_mod_cast h1
     rw[B5,show ((k.toNat:Nat):Int)=k by omega] at h2
     simp[Builtin.List.listTooLong,sizeLine]
     omega))
    ⟨e,?_⟩⟩)
 rw[hnew]
 refine⟨.ref s.heap.objs.size,_,I.laid (t':=s.toks) (o:=.lst (List.replicate k.toNat xs).flatten) (fun b ob q=>AC _ q) (AG _) ?_,rfl,q _ (I.hok.fresh (AG _))⟩
 exact⟨by rw[YS];exact CI (zo (by rw[ET];exact hz)),_,0,r.rep k.toNat,AK _ rfl⟩
theorem piOr {tg l:Expr} {w1 w2:TI} (h1:PI X tg l w1) (h2:PI X tg l w2):PI X tg l (fun σ H R=>w1 σ H R\/w2 σ H R):=fun pins s σ H R I h=>by
 rcases h with h | h
 ·exact h1 pins s σ H R I h
 ·exact h2 pins s σ H R I h
end
theorem Inv.changed {X:Cx} {pins:List (Addr×Obj)} {σ:St} {H:Hp} {s:Shared} {ch:List Addr} {h':Heap} {t':Nat} (I:Inv X pins σ H s) (hf:∀ b ∈ ch,J7 X pins H b) (k:∀ c o,c ∉ ch->s.heap.get? c=some o->h'.get? c=some o):Inv X pins σ H { s with heap:=h',toks:=t' }:=by
 have nt:∀ b u,H b=some u->b ∉ ch:=fun b u e hb=>by
  rw[(hf b hb).1] at e
  cases e
 have nl:X.env.locals ∉ ch:=fun hb=>(hf _ hb).2.1 rfl
 refine I.step (g':=s.gens) (d':=s.drawn) (ch:=ch) (fun b hb=>⟨(hf b hb).2.2.2.1,(hf b hb).2.1,(hf b hb).2.2.2.2.1,(hf b hb).2.2.2.2.2⟩) (fun b o _ _ hc e _=>k b o hc e) (fun b o _ _ hc e _=>⟨o.slots,k b o hc e⟩) (fun _ _ _ _ n=>n)
  (fun b o hc e=>⟨o,k b o hc e⟩) (fun _ _ e=>e) (fun _ _ _ e=>e) (fun b ps e=>⟨#[],by rw[e];simp⟩) (fun m hm=>?_) (fun b u e=>?_) I.bare
 ·obtain⟨o,es,ep,ho,r⟩:=hm
  exact⟨o,es,ep,k _ o nl ho,r⟩
 ·refine (I.hok b u e).stay (fun c v hc q=>k c v ?_ q) (fun _ q=>q) fun _ _ q=>q
  rcases hc with z | z
  ·rw[z];exact nt b u e
  ·exact nt c _ z
section
variable {X:Cx}
end
theorem Y7:bootBuiltins "divmod" = some (.builtin "divmod"):=by ac_rfl
theorem QK:bootBuiltins "sorted" = some (.builtin "sorted"):=by ac_rfl
end L2
namespace L4
open PySem L2
abbrev nV (i:Nat):V:=.int (i:Int)
def Wel (H:Hp) (p:Addr):Prop:=∃ x y:Int,H p=some (.lst [.int x,.int y])
theorem Wel.put {H:Hp} {p:Addr} {x y:Int}:Wel (upd H p (.lst [.int x,.int y])) p:=⟨x,y,zd⟩
theorem Wel.same {H H':Hp} {p:Addr} (h:Wel H p) (s:zL H H'):Wel H' p:=by
 obtain⟨x,y,e⟩:=h
 exact⟨x,y,s _ _ e⟩
theorem Wel.off {H:Hp} {p t:Addr} {o:HO} (h:Wel H p) (n:p ≠ t):Wel (upd H t o) p:=by
 obtain⟨x,y,e⟩:=h
 exact⟨x,y,by rw[zx n];exact e⟩
theorem Wel.ne {H:Hp} {p t:Addr} (h:Wel H p) (n:H t=none):p ≠ t:=by
 obtain⟨x,y,e⟩:=h
 exact zE e n
theorem Wel.tk {p:Addr} {H H':Hp} (h:Wel H p) (o:Off p H H'):Tk H H':=fun b xs e=>by
 obtain⟨x,y,q⟩:=h
 exact o b _ (yR e q (by intro z;cases z)) e
def Zt:Sp:=fun vs H Q _=>∃ (p:Addr) (m:Nat),vs=[.ref p,.int (m:Int)]/\Wel H p/\0 < m/\m < 1000000/\∀ (v:Nat) H',v < m->Off p H H'->Wel H' p->Q (nV v) H'
theorem Jo {t:Nat} {te:TE} {σ0:St} {H1:Hp} {Q:VK} {D p:Addr} {lo:Int} {n m:Nat} (w:Wel H1 p) (hD:H1 D=none) (hn:n<=900)
  (he:∀ i H' Q',i < n->Wel H' p->(∀ (v:Nat) H'',v < m->Off p H' H''->Wel H'' p->Q' (nV v) H'')->te (σ0.set t (some (.int (lo+i)))) H' Q')
  (q:∀ (vs:List Nat) H',vs.length=n->(∀ v ∈ vs,v < m)->Off p H1 H'->Wel H' p->H' D=some (.lst (vs.map nV))->Q (.ref D) H'):jt (Itr lo n) (jm t) tYes te σ0 H1 Q D:=by
 have pD:=w.ne hD
 refine qc (fun i ys H'=>∃ vs:List Nat,ys=vs.map nV/\vs.length=i/\(∀ v ∈ vs,v < m)/\Off p H1 H'/\Wel H' p) ⟨[],rfl,rfl,(fun v h=>by cases h),Off.new hD,w.off pD⟩ ?_ ?_
 ·rintro i ys H' hi ⟨vs,rfl,hl,hv,o1,w1⟩ hD'
  refine yes (he i H' _ hi w1 fun v H'' v1 o2 w2=>?_)
  have hD2:=o2 D _ (Af pD) hD'
  refine ZP hi jg hD2 (by rw[AB,hl];exact zo (by omega)) ⟨vs++[v],by rw[AM];rfl,by rw[AI,hl];rfl,fun u hu=>?_,(o1.trans o2).fresh hD,w2.off pD⟩
  rcases AV.mp hu with h | h
  ·exact hv u h
  ·rw[AJ.mp h]
   exact v1
 ·rintro ys H' ⟨vs,rfl,hl,hv,o1,w1⟩ hD'
  exact q vs H' hl hv o1 w1 hD'
def TL (n:Nat) (xs:List V):Prop:=∃ ys:List Str,xs=ys.map V.str/\ys.length<=n/\∀ y ∈ ys,y.length<=100
theorem TL.cut {n:Nat} {xs:List V} (h:TL n xs) (lo hi:Option Int):TL n (Zk xs lo hi):=by
 obtain⟨ys,rfl,hl,hy⟩:=h
 unfold Zk
 refine⟨_,by rw[<- List.map_drop,<- List.map_take],?_,fun y h=>hy y (DD (BU h))⟩
 rw[Ae,CW]
 omega
theorem TL.app {n m:Nat} {xs ys:List V} (h:TL n xs) (k:TL m ys):TL (n+m) (xs++ys):=by
 obtain⟨a,rfl,al,ah⟩:=h
 obtain⟨b,rfl,bl,bh⟩:=k
 refine⟨a++b,by rw[AM],by rw[AI];omega,fun y h=>?_⟩
 rcases AV.mp h with h | h
 ·exact ah y h
 ·exact bh y h
theorem TL.mono {n m:Nat} {xs:List V} (h:TL n xs) (k:n<=m):TL m xs:=by
 obtain⟨a,e,al,ah⟩:=h
 exact⟨a,e,Aq al k,ah⟩
theorem TL.len {n:Nat} {xs:List V} (h:TL n xs):xs.length<=n:=by
 obtain⟨a,rfl,al,ah⟩:=h
 rw[AB]
 exact al
theorem JL (x:Str) (n:Int):(Txt.mul x n).length<=x.length * n.toNat:=by
 unfold Txt.mul
 split
 ·exact A6 _
 ·split
  ·rename_i h1 h2
   simp at h2
   rcases h2 with h2 | h2
   ·rw[h2]
    simp
   ·rw[h2]
    simp
  ·have aux:∀ (k:Nat) (a acc:Array Nat),((List.replicate k a).foldl (· ++ ·) acc).size=acc.size+k * a.size:=by
    intro k a
    induction k with
    | zero=>intro acc;simp
    | succ k ih=>
     intro acc
     rw[By,Bx,ih,Ea,Nat.succ_mul]
     omega
   show ((List.replicate n.toNat x.cps).foldl (· ++ ·) #[]).size<=_
   rw[aux]
   simp
   rw[ET]
   exact AG _
theorem WA (x y:Str):(x++y).length=x.length+y.length:=by
 show (x.cps++y.cps).size=_
 rw[Ea]
 rfl
end L4
namespace Tn
def place (m:Nat) (r:List Nat):Nat:=r.foldl (fun p x=>p * m+x) 0
theorem place_snoc (m:Nat) (r:List Nat) (x:Nat):place m (r++[x])=place m r * m+x:=by
 unfold place
 rw[List.foldl_append]
 rfl
def Rw (m k:Nat) (r:List Nat):Prop:=r.length=k/\∀ x ∈ r,x < m
theorem place_lt {m:Nat}:∀ (k:Nat) (r:List Nat),Rw m k r->place m r < m ^ k:=by
 intro k
 induction k with
 | zero=>
  intro r h
  have:r=[]:=Dc.mp h.1
  subst this
  show 0 < m ^ 0
  rw[Nat.pow_zero]
  decide
 | succ k ih=>
  intro r h
  obtain⟨h1,h2⟩:=h
  have hne:r ≠ []:=by intro z;rw[z] at h1;cases h1
  have e:=List.dropLast_concat_getLast hne
  have hr:Rw m k r.dropLast:=⟨by rw[List.length_dropLast,h1];rfl,fun x hx=>h2 x ((List.dropLast_sublist r).subset hx)⟩
  have h3:=ih _ hr
  have h4:=h2 (r.getLast hne) (List.getLast_mem hne)
  rw[<- e,place_snoc,Nat.pow_succ]
  have h5:(place m r.dropLast+1) * m<=m ^ k * m:=Nat.mul_le_mul_right m h3
  rw[Nat.succ_mul] at h5
  omega
def at' (o:List Nat) (i:Nat):Nat:=o.getD i 0
theorem nodup_len:∀ (m:Nat) (xs:List Nat),xs.Nodup->(∀ x ∈ xs,x < m)->xs.length<=m
 | 0,[],_,_=>AG _
 | 0,x :: xs,_,h=>absurd (h x (As ..)) (CJ _)
 | m+1,xs,nd,h=>by
  have h1:=nodup_len m (xs.erase m) (nd.erase m) fun x hx=>by
   obtain⟨ne,hm⟩:=nd.mem_erase_iff.mp hx
   have:=h x hm
   omega
  by_cases hm:m ∈ xs
  ·rw[List.length_erase_of_mem hm] at h1
   omega
  ·rw[List.erase_of_not_mem hm] at h1
   omega
structure Cs (m k:Nat) (cs:List Nat):Prop where
 len:cs.length=m ^ k
 lt:∀ x ∈ cs,x < m
theorem Cs.at_lt {m k:Nat} {cs:List Nat} (h:Cs m k cs) {p:Nat} (hp:p < m ^ k):at' cs p < m:=by
 unfold at'
 rw[AO,AD (by rw[h.len];exact hp)]
 exact h.lt _ (CY _)
end Tn
namespace L2
open PySem PySem.Spec PyProof.Rows
section
variable {prog:Program} {w:World} {A:Around} {E:Value->Shared->Prop} {s:Shared}
variable {z TI TO i1 i2 t1 t2:Addr} {xs ys:Array Value} {k1 k2:Nat}
end
section
variable {X:Cx}
end
theorem Y8 {a:List V} (h:a.all Zm=true):QG a a=true:=by
 unfold QG
 rw[CG]
 refine⟨?_,by simp⟩
 rw[Bf]
 intro p hp
 have h1:=Dk hp
 have e:p.1=p.2:=by
  obtain⟨i,hi⟩:=List.getElem?_of_mem hp
  rw[DS] at hi
  exact AH (hi.1.symm.trans hi.2)
 rw[<- e]
 exact JI (Bf.mp h _ h1.1)
section
variable {X:Cx}
def rEqE:R2:=fun x y H Q=>∃ a b xs,x=.ref a/\y=.ref b/\H a=some (.tup xs)/\H b=some (.tup [])/\Q (.bl xs.isEmpty) H
theorem op_eqE {k:Nat} (hr:jY k X.A):OpR X (compareOp .Eq) rEqE:=by
 intro pins s σ H x y v u Q I rx ry h
 obtain⟨a,b,xs,rfl,rfl,ha,hb,q⟩:=h
 cases rx
 cases ry
 have hu:X.A.units+64 < cLine:=hr.units
 obtain⟨_,us,q1,p1⟩:=I.hok a _ ha
 obtain⟨_,vs,q2,p2⟩:=I.hok b _ hb
 have l1:=q1.length
 have l2:=q2.length
 have z:=DB (A:=X.A) (s:=s) (e:=fun _=>true) p1.isTup p2.isTup (by omega) (fun j h1 h2=>by
  rw[Aa,<- l2] at h2
  exact absurd h2 (CJ _))
 have e:((List.range (min us.toArray.size vs.toArray.size)).all (fun _=>true) && us.toArray.size == vs.toArray.size)=xs.isEmpty:=by
  rw[Aa,Aa,<- l1,<- l2]
  cases xs with
  | nil=>rfl
  | cons x xs=>simp
 rw[e] at z
 exact z X.prog X.w _ _ ⟨.bl _,H,I,rfl,q⟩
end
end L2
namespace Tn
end Tn
namespace L2
open PySem PySem.Spec PyProof.Rows
section
variable {X:Cx}
theorem kslT (K:Fs) (hK:X.K=K:=by rfl):SlR X (fun x lo hi H Q=>rSlT K x lo hi H Q\/rSlTW K x lo hi H Q):=by
 subst hK
 exact sl_tup.or sl_tupW
end
theorem ZX {K:Fs} {a:Addr} {n:Nat} {xs:List V} {ad:Nat->Addr} {v1 v2 v3:Nat->V} {tt:TT} {te:TE} {H1:Hp} {Q:VK} {D:Addr} {more:St} (P:Nat->List V->Hp->Prop) (h0:P 0 [] (upd H1 D (.lst []))) (hn:xs.length=n) (hx:∀ i,i < n->xs[i]? = some (.ref (ad i)))
  (hl:∀ i ys H,P i ys H->H D=some (.lst ys)->SqT K H a xs) (ht:∀ i ys H,i < n->P i ys H->SqT K H (ad i) [v1 i,v2 i,v3 i])
  (hs:∀ i ys H,i < n->P i ys H->H D=some (.lst ys)->tt (some (v1 i) :: some (v2 i) :: some (v3 i) :: more) H fun b H4=>if b=true then te (some (v1 i) :: some (v2 i) :: some (v3 i) :: more) H4 (YZ (fun σ=>∃ x y z,σ=x :: y :: z :: more) P n D (some (v1 i) :: some (v2 i) :: some (v3 i) :: more) i) else cNo (fun σ=>∃ x y z,σ=x :: y :: z :: more) P n D (some (v1 i) :: some (v2 i) :: some (v3 i) :: more) i H4)
  (hd:∀ ys H,P n ys H->H D=some (.lst ys)->Q (.ref D) H) :
  jt (Itt K a) (gTup K 3 (we (jm 0) (we (jm 1) (we (jm 2) gNil)))) tt te (none :: none :: none :: more) H1 Q D:=by
 refine j4 (xv:=fun i=>.ref (ad i)) (st:=fun i=>some (v1 i) :: some (v2 i) :: some (v3 i) :: more) (fun σ=>∃ x y z,σ=x :: y :: z :: more) P ⟨_,_,_,rfl⟩ h0 (fun i ys H hi p hD=>⟨⟨xs,_,hl i ys H p hD,hx i hi⟩,fun x H2 y=>⟨y.1,?_⟩⟩) (fun ys H p hD=>⟨xs,hl _ ys H p hD,Nat.le_of_eq hn⟩)
  (fun i ys σ' H K' hi r p k=>?_) hs hd
 ·have e:=y.2 xs (hl i ys H p hD)
  rw[hx i hi] at e
  exact (AH e).symm
 ·obtain⟨x,y,z,rfl⟩:=r
  exact⟨ad i,_,rfl,ht i ys H hi p,rfl,_,_,rfl,_,_,rfl,_,_,rfl,rfl,k⟩
section
variable {X:Cx}
end
section
variable {κ:Type} [DecidableEq κ]
def qY (kvs:List (κ×V)) (k:κ):Option V:=(kvs.find? fun kv=>decide (kv.1=k)).map (·.2)
def ZJ (kvs:List (κ×V)) (k:κ) (v:V):List (κ×V):=
 if (kvs.any fun kv=>decide (kv.1=k))=true then kvs.map (fun kv=>if kv.1=k then (kv.1,v) else kv) else kvs++[(k,v)]
theorem qv {p:κ×V} {r:List (κ×V)} {k:κ} (e:p.1=k):qY (p :: r) k=some p.2:=by simp[qY,List.find?_cons,e]
theorem ql {p:κ×V} {r:List (κ×V)} {k:κ} (e:¬ p.1=k):qY (p :: r) k=qY r k:=by simp[qY,List.find?_cons,e]
theorem ZY (k:κ):∀ kvs:List (κ×V),(kvs.any fun kv=>decide (kv.1=k))=(qY kvs k).isSome
 | []=>rfl
 | p :: r=>by
  rw[C8]
  by_cases e:p.1=k
  ·simp only[qv e,decide_eq_true e,Bool.true_or,Option.isSome_some]
  ·rw[ql e,AY e,Bool.false_or];exact ZY k r
theorem yu (k j:κ) (y:V):∀ kvs:List (κ×V),qY (kvs.map fun kv=>if kv.1=k then (kv.1,y) else kv) j=(qY kvs j).map fun x=>if j=k then y else x
 | []=>rfl
 | p :: r=>by
  have ih:=yu k j y r
  rw[Ai]
  by_cases h:p.1=k
  ·rw[if_pos h]
   by_cases e:p.1=j
   ·rw[qv (p:=(p.1,y)) e,qv e,DF,if_pos (e.symm.trans h)]
   ·rw[ql (p:=(p.1,y)) e,ql e,ih]
  ·rw[if_neg h]
   by_cases e:p.1=j
   ·rw[qv (p:=p) e,qv e,DF,if_neg (fun z=>h (e.trans z))]
   ·rw[ql (p:=p) e,ql e,ih]
theorem wG (k j:κ) (y:V):∀ kvs:List (κ×V),qY kvs k=none->qY (kvs++[(k,y)]) j=if j=k then some y else qY kvs j
 | [],_=>by
  by_cases e:k=j
  ·rw[if_pos e.symm];exact qv (p:=(k,y)) e
  ·rw[if_neg (fun z=>e z.symm)];exact ql (p:=(k,y)) e
 | p :: r,hn=>by
  rw[List.cons_append]
  have hk:¬ p.1=k:=fun z=>by rw[qv z] at hn;cases hn
  rw[ql hk] at hn
  have ih:=wG k j y r hn
  by_cases e:p.1=j
  ·rw[qv e,qv e,if_neg (fun z=>hk (e.trans z))]
  ·rw[ql e,ql e,ih]
theorem Qp (kvs:List (κ×V)) (k j:κ) (y:V):qY (ZJ kvs k y) j=if j=k then some y else qY kvs j:=by
 unfold ZJ
 by_cases a:(kvs.any fun kv=>decide (kv.1=k))=true
 ·rw[if_pos a,yu]
  rw[ZY] at a
  by_cases e:j=k
  ·obtain⟨x,hx⟩:=DX.mp a
   rw[if_pos e,e,hx,DF,if_pos rfl]
  ·rw[if_neg e]
   cases qY kvs j with
   | none=>rfl
   | some x=>rw[DF,if_neg e]
 ·rw[if_neg a]
  refine wG k j y kvs ?_
  rw[ZY] at a
  cases q:qY kvs k with
  | none=>rfl
  | some x=>rw[q] at a;exact (a rfl).elim
theorem j6 (kvs:List (κ×V)) (k:κ) (v:V):(ZJ kvs k v).length<=kvs.length+1:=by
 unfold ZJ
 split
 ·rw[AB];omega
 ·rw[AI,Az,List.length_nil];omega
theorem ZZ {kvs:List (κ×V)} {k:κ} (v:V) (h:qY kvs k=none):ZJ kvs k v=kvs++[(k,v)]:=by
 unfold ZJ
 rw[ZY,h]
 exact if_neg (by decide)
theorem Yr.isSome_eq {o:Option V} {u:Option Value} (r:Yr o u):o.isSome=u.isSome:=by
 cases o with
 | none=>cases u with
  | none=>rfl
  | some _=>exact (show False from r).elim
 | some _=>cases u with
  | none=>exact (show False from r).elim
  | some _=>rfl
theorem KV.val {kvs:List (κ×V)} {vs:List (κ×Value)} (r:KV kvs vs) (k:κ):Yr (qY kvs k) (valueAt vs k):=by
 unfold KV at r
 induction r with
 | nil=>exact True.intro
 | @cons p q ps qs h t ih=>
  obtain⟨h1,h2⟩:=h
  by_cases e:p.1=k
  ·have e':q.1=k:=h1.symm.trans e
   have b:valueAt (q :: qs) k=some q.2:=by simp[valueAt,List.find?_cons,e']
   rw[qv e,b];exact h2
  ·have e':¬ q.1=k:=fun z=>e (h1.trans z)
   have b:valueAt (q :: qs) k=valueAt qs k:=by simp[valueAt,List.find?_cons,e']
   rw[ql e,b];exact ih
theorem KV.any {kvs:List (κ×V)} {vs:List (κ×Value)} (r:KV kvs vs) (k:κ):(kvs.any fun kv=>decide (kv.1=k))=vs.any fun kv=>decide (kv.1=k):=by
 unfold KV at r
 induction r with
 | nil=>rfl
 | cons h t ih=>rw[C8,C8,ih,h.1]
theorem KV.repl {kvs:List (κ×V)} {vs:List (κ×Value)} (r:KV kvs vs) (k:κ) {y:V} {u:Value} (ry:RelV y u) :
  KV (kvs.map fun kv=>if kv.1=k then (kv.1,y) else kv) (vs.map fun kv=>if kv.1=k then (kv.1,u) else kv):=by
 unfold KV at r ⊢
 induction r with
 | nil=>exact .nil
 | @cons p q ps qs h t ih=>
  rw[Ai,Ai]
  refine .cons ?_ ih
  obtain⟨h1,h2⟩:=h
  by_cases e:p.1=k
  ·rw[if_pos e,if_pos (h1.symm.trans e)];exact⟨h1,ry⟩
  ·rw[if_neg e,if_neg (fun z=>e (h1.trans z))];exact⟨h1,h2⟩
theorem KV.put {kvs:List (κ×V)} {vs:List (κ×Value)} (r:KV kvs vs) (k:κ) {y:V} {u:Value} (ry:RelV y u):KV (ZJ kvs k y) (stored vs k u):=by
 unfold ZJ stored
 rw[r.any k]
 by_cases e:(vs.any fun kv=>decide (kv.1=k))=true
 ·rw[if_pos e,if_pos e];exact r.repl k ry
 ·rw[if_neg e,if_neg e];exact Paired.snoc r ⟨rfl,ry⟩
theorem KV.keys {kvs:List (κ×V)} {vs:List (κ×Value)} (r:KV kvs vs):kvs.map (·.1)=vs.map (·.1):=by
 unfold KV at r
 induction r with
 | nil=>rfl
 | cons h t ih=>rw[Ai,Ai,ih,h.1]
theorem KV.length {kvs:List (κ×V)} {vs:List (κ×Value)} (r:KV kvs vs):kvs.length=vs.length:=AQ r
end
theorem WB {P:Program} {w:World} {k:Key} {u:Value} (r:RelV (kV k) u):(zB P w).is k u=true:=by
 cases k with
 | inl i=>obtain⟨t,e⟩:=(show ∃ t,u=Value.int i t from r);subst e;exact Wp P w i t
 | inr x=>obtain⟨t,e⟩:=(show ∃ t,u=Value.str x t from r);subst e;exact Wq P w x t
theorem wH {P:Program} {w:World}:∀ {ks:List Key} {us:List Value},qi (ks.map kV) us->ItemsAre (zB P w) ks us
 | [],_,r=>by rw[EX] at r;cases r;exact .nil
 | k :: ks,_,r=>by
  rw[Ai] at r
  cases r with
  | cons h t=>exact .cons (WB h) (wH t)
abbrev KT (H:Hp):List (List Key×V)->List (List Key×Addr×Value)->Prop:=Paired fun p q=>p.1=q.1/\H q.2.1=some (.tup (p.1.map kV))/\RelV p.2 q.2.2
theorem KT.val {H:Hp} {kvs:List (List Key×V)} {xs:List (List Key×Addr×Value)} (r:KT H kvs xs) (k:List Key):Yr (qY kvs k) ((atKey xs k).map (·.2)):=by
 induction r with
 | nil=>exact True.intro
 | @cons p q ps qs h t ih=>
  obtain⟨h1,_,h2⟩:=h
  by_cases e:p.1=k
  ·have e':q.1=k:=h1.symm.trans e
   have b:atKey (q :: qs) k=some q.2:=by simp[atKey,List.find?_cons,e']
   rw[qv e,b];exact h2
  ·have e':¬ q.1=k:=fun z=>e (h1.trans z)
   have b:atKey (q :: qs) k=atKey qs k:=by simp[atKey,List.find?_cons,e']
   rw[ql e,b];exact ih
theorem KT.repl {H:Hp} {kvs:List (List Key×V)} {xs:List (List Key×Addr×Value)} (r:KT H kvs xs) (k:List Key) {y:V} {u:Value} (ry:RelV y u) :
  KT H (kvs.map fun kv=>if kv.1=k then (kv.1,y) else kv) (xs.map (putAt k u)):=by
 induction r with
 | nil=>exact .nil
 | @cons p q ps qs h t ih=>
  rw[Ai,Ai]
  refine .cons ?_ ih
  obtain⟨h1,h2,h3⟩:=h
  unfold putAt
  by_cases e:p.1=k
  ·rw[if_pos e,if_pos (h1.symm.trans e)];exact⟨h1,h2,ry⟩
  ·rw[if_neg e,if_neg (fun z=>e (h1.trans z))];exact⟨h1,h2,h3⟩
theorem KT.put {H:Hp} {kvs:List (List Key×V)} {xs:List (List Key×Addr×Value)} (r:KT H kvs xs) (k:List Key) {b:Addr} {y:V} {u:Value} (hb:H b=some (.tup (k.map kV))) (ry:RelV y u) :
  KT H (ZJ kvs k y) (storedH xs k b u):=by
 have e:(kvs.any fun kv=>decide (kv.1=k))=(atKey xs k).isSome:=by
  rw[ZY,(r.val k).isSome_eq,ES]
 unfold ZJ storedH
 rw[e]
 by_cases q:(atKey xs k).isSome=true
 ·rw[if_pos q,if_pos q];exact r.repl k ry
 ·rw[if_neg q,if_neg q];exact Paired.snoc r ⟨rfl,hb,ry⟩
theorem KT.keeps {H H':Hp} {kvs:List (List Key×V)} {xs:List (List Key×Addr×Value)} (r:KT H kvs xs) (ht:∀ b ys,H b=some (.tup ys)->H' b=some (.tup ys)):KT H' kvs xs:=
 Paired.mapP r fun _ _ z=>⟨z.1,ht _ _ z.2.1,z.2.2⟩
section
variable {P:Program} {w:World} {H:Hp} {h:Heap} {a:Addr}
theorem rd_of {u:HO} (ok:HOk P w H h) (e:Rd H a u):qd P w H h a u:=e.ok ok
theorem y9 {kvs:List (Key×V)} (ok:HOk P w H h) (e:Rd H a (.dK kvs)):kvs.length<=sizeLine/\(a == sysModules)=false/\∃ vs,KV kvs vs/\h.DictOf (zB P w) a vs:=
 show qd P w H h a (.dK kvs) from rd_of ok e
theorem dk_of {kvs:List (Key×V)} (ok:HOk P w H h) (e:H a=some (.dK kvs)):kvs.length<=sizeLine/\(a == sysModules)=false/\∃ vs,KV kvs vs/\h.DictOf (zB P w) a vs:=y9 ok (.inl e)
theorem Jp {ks:List Key} (ok:HOk P w H h) (e:H a=some (.tup (ks.map kV))):(tupleKind (zB P w)).is h ks a:=by
 obtain⟨_,its,r,o,h1,h2,⟨n,h3⟩,_⟩:=(show qd P w H h a (.tup (ks.map kV)) from ok a _ e)
 exact⟨o,its.toArray,n,h1,h2,h3,by simpa using wH r⟩
theorem Y9 {kvs:List (List Key×V)} (ok:HOk P w H h) (e:Rd H a (.dT kvs)):kvs.length<=sizeLine/\(a == sysModules)=false /\
  ∃ xs,KT H kvs xs/\h.DictOfH (tupleKind (zB P w)) a xs:=by
 obtain⟨z,y,xs,r,o,es,ep,h1,h2,h3,h4,h5⟩:=(show qd P w H h a (.dT kvs) from rd_of ok e)
 refine⟨z,y,xs,r,o,es,ep,h1,h2,h3,h4,fun x hx=>?_,h5⟩
 have all:∀ {l:List (List Key×V)} {m:List (List Key×Addr×Value)},KT H l m->∀ x ∈ m,(tupleKind (zB P w)).is h x.1 x.2.1:=by
  intro l m q
  induction q with
  | nil=>intro x hx;exact nomatch hx
  | @cons p q ps qs hq t ih=>
   intro x hx
   rcases Al.mp hx with e | hx
   ·subst e
    exact Jp ok (by rw[<- hq.1];exact hq.2.1)
   ·exact ih x hx
 exact all r x hx
theorem dt_of {kvs:List (List Key×V)} (ok:HOk P w H h) (e:H a=some (.dT kvs)):kvs.length<=sizeLine/\(a == sysModules)=false /\
  ∃ xs,KT H kvs xs/\h.DictOfH (tupleKind (zB P w)) a xs:=Y9 ok (.inl e)
end
def WC (H:Hp) (a:Addr) (y:V) (r:Option V):Prop:=
 (∃ kvs k,Rd H a (.dK kvs)/\y=kV k/\r=qY kvs k)\/∃ kvs k b,Rd H a (.dT kvs)/\y=.ref b/\H b=some (.tup (k.map kV))/\r=qY kvs k
def DPut (H:Hp) (a:Addr) (y v:V) (H':Hp):Prop:=
 (∃ kvs k,H a=some (.dK kvs)/\y=kV k/\kvs.length < sizeLine/\H'=upd H a (.dK (ZJ kvs k v))) \/
 ∃ kvs k b,H a=some (.dT kvs)/\y=.ref b/\H b=some (.tup (k.map kV))/\kvs.length < sizeLine/\H'=upd H a (.dT (ZJ kvs k v))
theorem WC.k {H:Hp} {a:Addr} {kvs:List (Key×V)} {k:Key} (e:H a=some (.dK kvs)):WC H a (kV k) (qY kvs k):=.inl ⟨kvs,k,.inl e,rfl,rfl⟩
theorem WC.t {H:Hp} {a b:Addr} {kvs:List (List Key×V)} {k:List Key} (e:H a=some (.dT kvs)) (eb:H b=some (.tup (k.map kV))):WC H a (.ref b) (qY kvs k):=.inr ⟨kvs,k,b,.inl e,rfl,eb,rfl⟩
theorem DPut.k {H:Hp} {a:Addr} {kvs:List (Key×V)} {k:Key} {v:V} (e:H a=some (.dK kvs)) (hl:kvs.length < sizeLine):DPut H a (kV k) v (upd H a (.dK (ZJ kvs k v))):=.inl ⟨kvs,k,e,rfl,hl,rfl⟩
theorem DPut.t {H:Hp} {a b:Addr} {kvs:List (List Key×V)} {k:List Key} {v:V} (e:H a=some (.dT kvs)) (eb:H b=some (.tup (k.map kV))) (hl:kvs.length < sizeLine) :
  DPut H a (.ref b) v (upd H a (.dT (ZJ kvs k v))):=.inr ⟨kvs,k,b,e,rfl,eb,hl,rfl⟩
section
variable {X:Cx} {pins:List (Addr × Obj)} {σ:St} {H:Hp} {s:Shared} {a:Addr} {y v:V} {u r:Value} {o:Option V} {A:Around} {E:Value->Shared->Prop}
theorem Inv.big (I:Inv X pins σ H s):sysModules < s.heap.objs.size:=by
 have h:mainGlobals < s.heap.objs.size:=(I.mod.glob.keeps I.bk).lt
 exact Co (by decide) h
theorem xa {Q:Value->Shared->Prop} (hu:A.units+1 < cLine) (I:Inv X pins σ H s) (g:WC H a y (some v)) (ry:RelV y u) (h:∀ w' s',Inv X pins σ H s'->RelV v w'->Q w' s') :
  wpAny (model X.prog X.w) A (getItem (.ref a) u) Q E s:=by
 rcases g with ⟨kvs,k,e,ey,l⟩ | ⟨kvs,k,b,e,ey,eb,l⟩
 ·subst ey
  obtain⟨z,hd,vs,rel,dd⟩:=y9 I.hok e
  obtain⟨w',hw,rw'⟩:=Yr.some_of (v:=v) (o:=valueAt vs k) (by rw[l];exact rel.val k)
  exact wpAny_getItem_of (WB ry) dd.mapOf hw (h w' _ (I.tok _) rw')
 ·subst ey
  cases (show u=Value.ref b from ry)
  obtain⟨z,hd,xs,rel,dd⟩:=Y9 I.hok e
  obtain⟨w',hw,rw'⟩:=Yr.some_of (v:=v) (o:=(atKey xs k).map (·.2)) (by rw[l];exact rel.val k)
  obtain⟨p,hp,hp2⟩:=At.mp hw
  refine wpAny_getItem_heap (C0 hu) (Jp I.hok eb) dd hp ?_
  rw[hp2]
  exact h w' _ (I.tok _) rw'
theorem d_in {Q:Value->Shared->Prop} (hu:A.units+1 < cLine) (I:Inv X pins σ H s) (g:WC H a y o) (ry:RelV y u) (h:∀ s',Inv X pins σ H s'->Q (.bool o.isSome) s') :
  wpAny (model X.prog X.w) A (compareOp .In u (.ref a)) Q E s:=by
 rcases g with ⟨kvs,k,e,ey,l⟩ | ⟨kvs,k,b,e,ey,eb,l⟩
 ·subst ey
  obtain⟨z,hd,vs,rel,dd⟩:=y9 I.hok e
  refine wpAny_in_of (WB ry) hd dd.mapOf ?_
  rw[<- (rel.val k).isSome_eq,<- l]
  exact h _ (I.tok _)
 ·subst ey
  cases (show u=Value.ref b from ry)
  obtain⟨z,hd,xs,rel,dd⟩:=Y9 I.hok e
  refine wpAny_in_heap (C0 hu) (Jp I.hok eb) hd dd ?_
  have q:=(rel.val k).isSome_eq
  rw[ES] at q
  rw[<- q,<- l]
  exact h _ (I.tok _)
theorem xb {Q:Value->Shared->Prop} (hu:A.units+1 < cLine) (I:Inv X pins σ H s) (g:WC H a y o) (ry:RelV y u) (h:∀ s',Inv X pins σ H s'->Q (.bool (!o.isSome)) s') :
  wpAny (model X.prog X.w) A (compareOp .NotIn u (.ref a)) Q E s:=by
 rcases g with ⟨kvs,k,e,ey,l⟩ | ⟨kvs,k,b,e,ey,eb,l⟩
 ·subst ey
  obtain⟨z,hd,vs,rel,dd⟩:=y9 I.hok e
  refine wpAny_notIn_of (WB ry) hd dd.mapOf ?_
  rw[<- (rel.val k).isSome_eq,<- l]
  exact h _ (I.tok _)
 ·subst ey
  cases (show u=Value.ref b from ry)
  obtain⟨z,hd,xs,rel,dd⟩:=Y9 I.hok e
  refine wpAny_notIn_heap (C0 hu) (Jp I.hok eb) hd dd ?_
  have q:=(rel.val k).isSome_eq
  rw[ES] at q
  rw[<- q,<- l]
  exact h _ (I.tok _)
theorem xc {h':Heap} {t':Nat} {ob:HO} (I:Inv X pins σ H s) (mu:Mut (H a)) (hs:Heap.SameBut a s.heap h') (he:∃ q,h'.get? a=some q) (new:qd X.prog X.w (upd H a ob) h' a ob) :
  Inv X pins σ (upd H a ob) { s with heap:=h',toks:=t' }:=
 I.write (x:=a) (e:=a) mu (.inl rfl) (fun b q hb z=>(hs.2 b hb).trans z) he new
theorem dk_new {P:Program} {w:World} {H':Hp} {h':Heap} {kvs:List (Key×V)} {vs:List (Key×Value)} (z:kvs.length<=sizeLine) (hd:(a == sysModules)=false) (rel:KV kvs vs) (dd:h'.DictOf (zB P w) a vs) :
  qd P w H' h' a (.dK kvs):=⟨z,hd,vs,rel,dd⟩
theorem wI {H':Hp} {Q:Unit->Shared->Prop} (hu:A.units+1 < cLine) (I:Inv X pins σ H s) (g:DPut H a y v H') (ry:RelV y u) (rv:RelV v r) (h:∀ s',Inv X pins σ H' s'->Q () s') :
  wpAny (model X.prog X.w) A (setItem (.ref a) u r) Q E s:=by
 rcases g with ⟨kvs,k,e,ey,l,eH⟩ | ⟨kvs,k,b,e,ey,eb,l,eH⟩
 ·subst ey eH
  obtain⟨z,hd,vs,rel,dd⟩:=dk_of I.hok e
  have hz:vs.length<=sizeLine:=by rw[<- rel.length];exact z
  have hl:(ZJ kvs k v).length<=sizeLine:=by have:=j6 kvs k v;omega
  refine wpAny_setItem_pairs (hsz:=hz) (WB ry) dd fun h' dd' hs=>h _ ?_
  have he:∃ q,h'.get? a=some q:=let ⟨q,_,_,hq,_⟩:=dd';⟨q,hq⟩
  exact xc I (by rw[e];exact True.intro) hs he (dk_new hl hd (rel.put k rv) dd')
 ·subst ey eH
  cases (show u=Value.ref b from ry)
  obtain⟨z,hd,xs,rel,dd⟩:=dt_of I.hok e
  have hz:xs.length<=sizeLine:=by rw[<- AQ rel];exact z
  have hl:(ZJ kvs k v).length<=sizeLine:=by have:=j6 kvs k v;omega
  refine wpAny_setItem_heap (hsz:=hz) (C0 hu) (Jp I.hok eb) dd fun h' dd' hs=>h _ ?_
  obtain⟨q,es,ep,hq,h2,h3,h4,_,h5⟩:=dd'
  refine xc I (by rw[e];exact True.intro) hs ⟨q,hq⟩ ⟨hl,hd,_,(rel.put k eb rv).keeps fun c ys ec=>?_,q,es,ep,hq,h2,h3,h4,h5⟩
  rw[zx (yR ec e (fun z=>nomatch z))]
  exact ec
end
section
variable {X:Cx} {pins:List (Addr × Obj)} {σ:St} {H:Hp} {s:Shared} {a:Addr} {kvs:List (Key × V)} {k:Key} {u:Value} {A:Around} {E:Value->Shared->Prop}
theorem d_len {Q:Value->Shared->Prop} (I:Inv X pins σ H s) (e:Rd H a (.dK kvs)) (h:∀ t s',Inv X pins σ H s'->Q (.int kvs.length t) s'):wpAny (model X.prog X.w) A (call (.builtin "len") [.ref a]) Q E s:=by
 obtain⟨z,hd,vs,rel,dd⟩:=y9 I.hok e
 refine call_len_dict hd dd (by rw[<- rel.length];rw[BS] at z;omega) ?_
 rw[<- rel.length]
 exact h _ _ (I.tok _)
end
def NoSl (i:Expr):Prop:=∀ ov iv,subscripted i false ov iv=operate [ov,iv] (getItem ov iv)
theorem xf {prog:Program} {w:World} {A:Around} {E:Value->Shared->Prop} {s:Shared} {env:Env} {value slice:Expr} {pos:Pos} {T id:String} {Q:Value->Shared->Prop}
  (hl:typeLookup (.type T) "__getitem__" = pure (some (.builtin id))) (hs:NoSl slice)
  (h:wpAny (model prog w) A (eval value env) (fun o s₁=>wpAny (model prog w) A (eval slice env) (fun i s₂=>s₂.TypeIs o T/\wpAny (model prog w) A (getItem o i) Q E s₂) E s₁) E s) :
  wpAny (model prog w) A (eval (.Subscript value slice pos) env) Q E s:=by
 refine Subscript_ (Bp h (fun o s₁ h₁=>Bp h₁ (fun i s₂ h₂=>?_) fun _ _ x=>x) fun _ _ x=>x)
 obtain⟨hT,h₂⟩:=h₂
 unfold subscriptTail
 refine AA ?_
 rw[getitemInPython_of_ne hT.not_modules]
 refine AA (CQ hT hl ?_)
 have fin:wpAny (model prog w) A (subscripted slice false o i) (fun r s₃=>wpAny (model prog w) A (letTemporaryGo value o r >>= fun _=>pure r) Q E s₃) E s₂:=by
  rw[hs o i]
  exact wpAny_operating (Bp h₂ (fun r s₃ h₃=>AA (wpAny_letTemporaryGo (AF h₃))) fun _ _ x=>x)
 first
  | exact AF (AA fin)
  | exact AA (AF (AA fin))
  | exact AA fin
theorem WD {X:Cx} {pins:List (Addr×Obj)} {σ:St} {H:Hp} {s:Shared} {a:Addr} {y:V} {o:Option V} (I:Inv X pins σ H s) (g:WC H a y o):s.TypeIs (.ref a) "dict":=by
 rcases g with ⟨kvs,k,e,_,_⟩ | ⟨kvs,k,b,e,_,_,_⟩
 ·obtain⟨_,_,vs,_,dd⟩:=y9 I.hok e
  exact dd.typeIs
 ·obtain⟨_,_,xs,_,dd⟩:=Y9 I.hok e
  exact dd.typeIs
def tDGet (td ty:TE):TE:=fun σ H Q=>td σ H fun x H1=>ty σ H1 fun y H2=>∃ a v,x=.ref a/\WC H2 a y (some v)/\Q v H2
def sDPut (td ty tv:TE):TS:=fun D σ H=>tv σ H fun v H1=>td σ H1 fun x H2=>ty σ H2 fun y H3=>∃ a H4,x=.ref a/\DPut H3 a y v H4/\D.nx σ H4
section
variable {X:Cx} {o i e value:Expr} {pos pos' tpos:Pos} {td ty tv:TE}
theorem xg (hu:X.A.units+1 < cLine) (ho:PE X o td) (hi:PE X i ty) (hs:NoSl i):PE X (.Subscript o i pos) (tDGet td ty):=by
 intro pins s σ H Q I h
 refine xf PySem.F.slot_dict_getitem.lookup hs (thn (ho pins s σ H _ I h) fun u s1 ⟨x,H1,I1,rx,q1⟩=>thn (hi pins s1 σ H1 _ I1 q1) fun iv s2 ⟨y,H2,I2,ry,a,v,ex,g,q2⟩=>?_)
 subst ex
 obtain rfl:u=Value.ref a:=rx
 exact⟨WD I2 g,xa hu I2 g ry fun w' s3 I3 rw'=>⟨v,H2,I3,rw',q2⟩⟩
theorem xh (hu:X.A.units+1 < cLine) (ho:PE X o td) (hi:PE X i ty) (hv:PE X value tv) (hs:swapsWith value (some (.Subscript o i pos')) pos.line X.env=pure false) :
  PS X (.Assign [.Subscript o i pos'] value pos) (sDPut td ty tv):=by
 intro pins s σ H D I h
 refine wpAny_Assign_Subscript (thn (hv pins s σ H _ I h) fun r s1 ⟨v,H1,I1,rv,q1⟩=>thn (ho pins s1 σ H1 _ I1 q1) fun u s2 ⟨x,H2,I2,rx,q2⟩=>thn (hi pins s2 σ H2 _ I2 q2) fun iv s3 ⟨y,H3,I3,ry,a,H4,ex,g,q3⟩=>?_) hs
 subst ex
 obtain rfl:u=Value.ref a:=rx
 exact wI hu I3 g ry rv fun s4 I4=>⟨σ,H4,I4,q3⟩
end
theorem dk_empty {P:Program} {w:World} {H:Hp} (h:Heap) (hb:sysModules < h.objs.size):qd P w H (h.push { cls:=.type "dict",data:=.dict #[] }) h.objs.size (.dK []):=
 ⟨A6 _,beq_eq_false_iff_ne.mpr (Af (AU hb)),[],.nil,ED h⟩
theorem dt_empty {P:Program} {w:World} {H:Hp} (h:Heap) (hb:sysModules < h.objs.size):qd P w H (h.push { cls:=.type "dict",data:=.dict #[] }) h.objs.size (.dT []):=
 ⟨A6 _,beq_eq_false_iff_ne.mpr (Af (AU hb)),[],.nil,_,#[],0,AK _ rfl,⟨rfl,rfl,rfl⟩,rfl,rfl,List.nodup_nil⟩
def tDNewK:TE:=fun _ H Q=>∀ p,H p=none->Q (.ref p) (upd H p (.dK []))
def tDNewT:TE:=fun _ H Q=>∀ p,H p=none->Q (.ref p) (upd H p (.dT []))
section
variable {X:Cx} {pos:Pos}
theorem yw:PE X (.Dict [] [] pos) tDNewK:=fun pins s σ H Q I h=>
 wpAny_Dict_empty ⟨.ref s.heap.objs.size,_,I.laid (a:=s.heap.objs.size) (o:=.dK []) (t':=s.toks) (fun _ _ q=>AC _ q) (AG _) (dk_empty s.heap I.big),rfl,h _ (I.hok.fresh (AG _))⟩
theorem yz:PE X (.Dict [] [] pos) tDNewT:=fun pins s σ H Q I h=>
 wpAny_Dict_empty ⟨.ref s.heap.objs.size,_,I.laid (a:=s.heap.objs.size) (o:=.dT []) (t':=s.toks) (fun _ _ q=>AC _ q) (AG _) (dt_empty s.heap I.big),rfl,h _ (I.hok.fresh (AG _))⟩
end
section
variable {X:Cx} {pins:List (Addr × Obj)} {σ:St} {H:Hp} {s:Shared} {a:Addr} {y d:V} {u r:Value} {o:Option V} {A:Around} {E:Value->Shared->Prop}
end
section
end
section
variable {X:Cx} {pins:List (Addr × Obj)} {σ:St} {H:Hp} {s:Shared} {a:Addr} {kvs:List (Key × V)} {A:Around} {E:Value->Shared->Prop}
end
section
variable {X:Cx} {pins:List (Addr × Obj)} {σ:St} {H:Hp} {s:Shared} {a:Addr} {y:V} {u:Value} {A:Around} {E:Value->Shared->Prop}
end
theorem no_keys:typeLookup (.type "list") "keys" = pure none:=EA (by ac_rfl)
theorem zH:plainId "dict.update.loop" = true:=by ac_rfl
theorem qt:entryFor table "dict.update.loop" = some Builtin.«dict.update.loop»:=entryFor_of_fast (by kernel_rfl)
theorem jJ:isSubtype (.type "AttributeError") (.type "AttributeError")=pure true:=by rw[Cc];kernel_rfl
theorem keys_by {prog:Program} {w:World} {A:Around} {E:Value->Shared->Prop} {s:Shared} {a:Addr} {o:Obj} {xs:Array Value} {k:Nat} {t:Tok} {Q:Value->Shared->Prop}
  (hx:s.heap.get? a=some o) (hc:o.cls=.type "list") (hdat:o.data=.seq xs k) (hd:o.dict=none) (hA:A.handled=none)
  (h:∀ h' tk e,Heap.NewExcOf s.heap h' e "AttributeError" -> E (.ref e) { s with heap:=h',toks:=tk }) :
  wpAny (model prog w) A (getAttrBy (.ref a) (.str "keys" t) false) Q E s:=by
 obtain⟨c,dct,dat,sl⟩:=o
 simp only at hc hdat hd
 subst hc hdat hd
 obtain⟨hp,g,d,tk,os⟩:=s
 have hT:∀ tk',(⟨hp,g,d,tk',os⟩:Shared).TypeIs (.ref a) "list":=fun _=>⟨_,hx,rfl⟩
 have f1:=jJ
 have f3:=C7.lookup
 have f4:=C7.bind (.ref a)
 have f5:=am_list_getattr_none
 unfold getAttrBy
 repeat (any_goals (first | assumption | exact hT _ | ((with_reducible show wpAny _ _ (call (Value.builtin "list.__getattribute__") _ _) _ _ _);refine Bs C7 (hT _) am_entry_list_getattribute (PySem.F.args_list_getattribute_2 _ _) (meets_getattribute_miss_list a xs k sl "keys" _ no_keys (by decide) (by decide)) ⟨hx,hA,fun h' tk' e hx'=>?_⟩) | wp_step))
 obtain⟨t',u',he⟩:=hx'.there
 show wpAny _ _ (getattributeRaised _ _ _ _ _ _ _) _ _ _
 unfold getattributeRaised
 repeat (any_goals (first | assumption | wp_step))
 exact h _ _ _ hx'.of
theorem wJ {prog:Program} {w:World} {A:Around} {E:Value->Shared->Prop} {s:Shared} {a:Addr} {o:Obj} {xs:Array Value} {k:Nat} {Q:Option Value->Shared->Prop}
  (hx:s.heap.get? a=some o) (hc:o.cls=.type "list") (hdat:o.data=.seq xs k) (hd:o.dict=none) (hA:A.handled=none)
  (h:∀ h' tk,(∀ b ob,s.heap.get? b=some ob->h'.get? b=some ob)->Q none { s with heap:=h',toks:=tk }) :
  wpAny (model prog w) A (getAttr? (.ref a) "keys") Q E s:=by
 unfold getAttr? getAttrBy?
 refine AA (wpAny_mkText (AA (BQ (keys_by (s:={ s with toks:=s.toks+1 }) hx hc hdat hd hA fun h' tk e ne=>?_))))
 obtain⟨kp,nw,ob,vs,he,h1,h2⟩:=ne
 refine AA (Br (T := "AttributeError") (b:=true) ⟨ob,he,h1⟩ jJ ?_)
 exact AF (h h' tk kp)
def putAll (kvs:List (Key×V)) (ps:List (Key×V)):List (Key×V):=ps.foldl (fun acc p=>ZJ acc p.1 p.2) kvs
section
variable {prog:Program} {w:World} {A:Around} {R:Result->Shared->Prop}
def ZD (prog:Program) (w:World) (h:Heap) (v:Value) (k:Key) (x:Value):Prop:=∃ b key,v=.ref b/\h.IsTuple b #[key,x]/\(zB prog w).is k key=true
theorem ZD.keep {prog:Program} {w:World} {h h':Heap} {v x:Value} {k:Key} {b0:Addr} (p:ZD prog w h v k x) (hs:∀ b o,b ≠ b0->h.get? b=some o->h'.get? b=some o) (hn:∀ o,h.get? b0=some o->o.cls ≠ .type "tuple"):ZD prog w h' v k x:=by
 obtain⟨b,key,rfl,⟨o,e,c,r⟩,hk⟩:=p
 exact⟨b,key,rfl,⟨o,hs b o (fun z=>by subst z;exact hn o e c) e,c,r⟩,hk⟩
theorem upd_loop (hh:A.handled=none) (D L it:Addr) (items:Array Value) (hDL:D ≠ L) (hDi:D ≠ it) (hLi:L ≠ it) (ps:List (Key×Value)) (hlen:ps.length=items.size) (hsz:ps.length<=sizeLine) :
  ∀ (n i:Nat) (s:Shared) (acc:List (Key×Value)),n+i=items.size->acc.length<=i->s.heap.IsListIter it L i->s.heap.IsList L items->s.heap.DictOf (zB prog w) D acc ->
  (∀ (j:Nat) (p:Key×Value) (v:Value),ps[j]? = some p->items[j]? = some v->ZD prog w s.heap v p.1 p.2) ->
  (∀ h' tk,h'.DictOf (zB prog w) D ((ps.drop i).foldl (fun (acc:List (Key×Value)) (p:Key×Value)=>stored acc p.1 p.2) acc)->(∀ b o,b ≠ D->b ≠ it->s.heap.get? b=some o->h'.get? b=some o)->R (.ok (.ret .none)) { s with heap:=h',toks:=tk }) ->
  codeAny (model prog w) A (.builtin "dict.update.loop" ⟨[.ref D,.ref it,rawInt i,.none],[]⟩) R s:=by
 intro n
 induction n with
 | zero=>
  intro i s acc hn hacc hit hl hd hp hR
  refine B2 qt ?_
  rw[Bj zH _]
  show wpAny _ A.in1 (pyNext (.ref it) >>= _) _ _ s
  refine AA (EF (show A.in1.handled=none from hh) hit hl (by simp;omega) fun h' eb=>?_)
  show wpAny _ _ (Builtin.Dict.addKeywords D [] >>= _) _ _ _
  refine AA (AF (AF (hR h' s.toks ?_ fun b o _ h2 e=>eb b o h2 e)))
  rw[Cr (by omega)]
  exact hd.extBut eb hDi
 | succ n ih=>
  intro i s acc hn hacc hit hl hd hp hR
  have hi:i < items.size:=by omega
  obtain⟨v,hv⟩:∃ v,items[i]? = some v:=⟨items[i],by simp[hi]⟩
  obtain⟨p,hpi⟩:∃ p,ps[i]? = some p:=⟨ps[i]'(by omega),by rw[AD (by omega)]⟩
  refine B2 qt ?_
  rw[Bj zH _]
  show wpAny _ A.in1 (pyNext (.ref it) >>= _) _ _ s
  refine AA (Dz hit hl hv fun h1 hit1 hs1=>?_)
  obtain⟨oi,hoi,hci,_⟩:=hit
  have hp1:∀ (j:Nat) (p:Key×Value) (v:Value),ps[j]? = some p->items[j]? = some v->ZD prog w h1 v p.1 p.2:=fun j p v a b=>(hp j p v a b).keep (b0:=it) (fun b o hb e=>hs1.extBut b o hb e) fun o e=>by
   rw[hoi] at e;cases e;rw[hci];decide
  obtain⟨b,key,rfl,hb,hk⟩:=hp1 i p v hpi hv
  obtain⟨ot,e1,e2,nt,e3⟩:=id hb
  have hd1:=hd.extBut hs1.extBut hDi
  refine AA (A4 (AA (wpAny_tryCatch ?_)))
  unfold Builtin.Dict.pairItems
  refine AA (Bo (T := "tuple") ⟨ot,e1,e2⟩ ?_)
  rw[if_pos (by decide)]
  refine AA (BZ e1 e3 (AF ?_))
  show wpAny _ _ (holding [key,p.2] (dictSet D key p.2)) _ _ _
  refine A4 (wpAny_dictSet_pairs (hsz:=by omega) hk hd1 fun h2 hd2 hs2=>?_)
  refine AF ⟨Bv zH _,?_⟩
  have hl1:h1.IsList L items:=hl.extBut hs1.extBut hLi
  have hle:(stored acc p.1 p.2).length<=i+1:=by
   unfold stored
   split
   ·rw[AB];omega
   ·rw[AI];simp;omega
  obtain⟨oD,_,_,hoD,hcD,_⟩:=hd1
  have:=ih (i+1) { s with heap:=h2,toks:=s.toks+1 } (stored acc p.1 p.2) (by omega) hle (hit1.extBut hs2.extBut (Af hDi)) (hl1.extBut hs2.extBut (Af hDL)) hd2 (fun j p v a b=>(hp1 j p v a b).keep (b0:=D) (fun b o hb e=>hs2.extBut b o hb e) fun o e=>by
    rw[hoD] at e;cases e;rw[hcD.1];decide) fun h' tk hd' hk'=>?_
  ·simpa using this
  ·refine hR h' tk ?_ fun b o h1 h2 e=>hk' b o h1 h2 (hs2.extBut b o h1 (hs1.extBut b o h2 e))
   have e4:ps.drop i=p :: ps.drop (i+1):=by
    rw[AE] at hpi
    obtain⟨h5,h6⟩:=hpi
    rw[<- h6]
    exact Bm h5
   rw[e4,Bx]
   exact hd'
theorem QL {E:Value->Shared->Prop} {Q:Value->Shared->Prop} {s:Shared} {L:Addr} {o:Obj} {items:Array Value} {k:Nat} {ps:List (Key×Value)} (hh:A.handled=none) (hx:s.heap.get? L=some o) (hc:o.cls=.type "list") (hdat:o.data=.seq items k) (hdn:o.dict=none)
  (hlen:ps.length=items.size) (hsz:ps.length<=sizeLine) (hp:∀ (j:Nat) (p:Key×Value) (v:Value),ps[j]? = some p->items[j]? = some v->ZD prog w s.heap v p.1 p.2)
  (h:∀ h' tk,h'.DictOf (zB prog w) s.heap.objs.size (ps.foldl (fun (acc:List (Key×Value)) (p:Key×Value)=>stored acc p.1 p.2) [])->(∀ b o,s.heap.get? b=some o->h'.get? b=some o)->Q (.ref s.heap.objs.size) { s with heap:=h',toks:=tk }) :
  wpAny (model prog w) A (call (.type "dict") [.ref L]) Q E s:=by
 refine DZ (Q₁:=fun obj s₁=>obj=.ref s.heap.objs.size/\s₁ = { s with heap:=s.heap.push { cls:=.type "dict",data:=.dict #[] } }) De (DN _) Db (kt_code_dict_new _ ⟨rfl,rfl⟩) ?_
 rintro obj s₁ ⟨rfl,rfl⟩
 have hnew:(s.heap.push { cls:=.type "dict",data:=.dict #[] }).DictOf (zB prog w) s.heap.objs.size []:=ED s.heap
 have hx1:=AC { cls:=.type "dict",data:=.dict #[] } hx
 have Llt:L < s.heap.objs.size:=AL hx
 refine⟨hnew.typeIs,DW _ _,?_⟩
 unfold Builtin.«dict.__init__»
 refine AA ?_
 unfold Builtin.Dict.selfAndRest
 refine AA (CA hnew.typeIs ?_)
 show wpAny _ _ (pure (s.heap.objs.size,[Value.ref L])) _ _ _
 refine AF ?_
 show wpAny _ _ (Builtin.Dict.updateFrom "dict.__init__" s.heap.objs.size (.ref L) [] .none) _ _ _
 unfold Builtin.Dict.updateFrom
 refine AA (Bo (T := "list") ⟨o,hx1,hc⟩ ?_)
 rw[if_pos (by decide)]
 refine AA (wJ hx1 hc hdat hdn (show A.in1.in1.handled=none from hh) fun h' tk kp=>?_)
 rw[if_pos (by rfl)]
 have hL':h'.IsList L items:=⟨o,kp _ _ hx1,hc,k,hdat⟩
 refine AA (Ba (AA (DA hL' ?_)))
 have Dget:∃ od,h'.get? s.heap.objs.size=some od:=⟨_,kp _ _ (AK _ rfl)⟩
 have Dlt:s.heap.objs.size < h'.objs.size:=let ⟨_,e⟩:=Dget;AL e
 refine AF ⟨Bv zH _,?_⟩
 have it0:(h'.push { cls:=.type "list_iterator",data:=.fields #[.ref L,.int 0 0] }).IsListIter h'.objs.size L 0:=⟨_,AK _ rfl,rfl,rfl⟩
 have hd':(h'.push { cls:=.type "list_iterator",data:=.fields #[.ref L,.int 0 0] }).DictOf (zB prog w) s.heap.objs.size []:=by
  obtain⟨od,es,ep,e,r⟩:=hnew
  exact⟨od,es,ep,AC _ (kp _ _ e),r⟩
 refine upd_loop (A:=A.in1) (show A.in1.handled=none from hh) s.heap.objs.size L h'.objs.size items (BW Llt) (AU Dlt) (AU (Co Llt Dlt)) ps hlen hsz items.size 0 { s with heap:=h'.push { cls:=.type "list_iterator",data:=.fields #[.ref L,.int 0 0] },toks:=tk } [] rfl (AG _) it0 ⟨o,AC _ (kp _ _ hx1),hc,k,hdat⟩ hd' (fun j p v a b=>?_) fun h2 tk2 hd2 hk2=>?_
 ·obtain⟨bb,key,e1,⟨ot,e2,r⟩,e3⟩:=hp j p v a b
  exact⟨bb,key,e1,⟨ot,AC _ (kp _ _ (AC _ e2)),r⟩,e3⟩
 ·refine⟨rfl,h h2 tk2 ?_ fun b ob e=>hk2 b ob (AU (AL e)) (AU (Co (AL e) Dlt)) (AC _ (kp _ _ (AC _ e)))⟩
  rw[Cq] at hd2
  exact hd2
end
def Prs (H:Hp):List V->List (Key×V)->Prop:=Paired fun x p=>∃ b,x=.ref b/\H b=some (.tup [kV p.1,p.2])
theorem prs_at {P:Program} {w:World} {H:Hp} {h:Heap} (ok:HOk P w H h) {xs:List V} {ps:List (Key×V)} (r:Prs H xs ps):∀ {us:List Value},qi xs us->∃ rs:List (Key×Value),KV ps rs/\∀ (j:Nat) (p:Key×Value) (v:Value),rs[j]? = some p->us[j]? = some v->ZD P w h v p.1 p.2:=by
 unfold Prs at r
 induction r with
 | nil=>
  intro us rv
  exact⟨[],.nil,fun j p v e=>by simp at e⟩
 | @cons x p xs ps hx t ih=>
  intro us rv
  cases rv with
  | @cons _ u _ us hu rv=>
   obtain⟨rs,r1,r2⟩:=ih rv
   obtain⟨b,rfl,hb⟩:=hx
   obtain⟨_,its,ri,o,e1,e2,⟨n,e3⟩,_⟩:=(show qd P w H h b (.tup [kV p.1,p.2]) from ok b _ hb)
   cases ri with
   | @cons _ ku _ _ hk ri=>
    cases ri with
    | @cons _ vu _ _ hv ri=>
     cases ri
     refine⟨(p.1,vu) :: rs,.cons ⟨rfl,hv⟩ r1,fun j q v ej ev=>?_⟩
     cases j with
     | zero=>
      cases (AH ej)
      cases (AH ev)
      obtain rfl:u=Value.ref b:=hu
      exact⟨b,ku,rfl,⟨o,e1,e2,n,e3⟩,WB hk⟩
     | succ j=>exact r2 j q v ej ev
theorem xi {ps:List (Key×V)} {rs:List (Key×Value)} (r:KV ps rs):∀ {acc:List (Key×V)} {bcc:List (Key×Value)},KV acc bcc->KV (putAll acc ps) (rs.foldl (fun (acc:List (Key×Value)) (p:Key×Value)=>stored acc p.1 p.2) bcc):=by
 unfold KV at r
 induction r with
 | nil=>exact fun q=>q
 | @cons p q ps qs h t ih=>
  intro acc bcc ra
  obtain⟨h1,h2⟩:=h
  show KV (putAll (ZJ acc p.1 p.2) ps) _
  rw[Bx,<- h1]
  exact ih (KV.put ra p.1 h2)
theorem j7:∀ (ps acc:List (Key×V)),(putAll acc ps).length<=acc.length+ps.length
 | [],acc=>AG _
 | p :: ps,acc=>by
  have h1:=j7 ps (ZJ acc p.1 p.2)
  have h2:=j6 acc p.1 p.2
  show (putAll (ZJ acc p.1 p.2) ps).length<=_
  rw[Az];omega
theorem WE:bootBuiltins "dict" = some (.type "dict"):=by ac_rfl
section
variable {X:Cx}
def tDictP (K:Fs) (ta:TA):TE:=fun σ H Q=>ta σ H fun vs H1=>∃ p xs ps,vs=[.ref p]/\H1 p=some (.lst xs)/\Prs H1 xs ps/\∀ D,H1 D=none->Q (.ref D) (upd H1 D (.dK (putAll [] ps)))
theorem pe_dictP (K:Fs) {a:Expr} {ta:TA} {p pos:Pos} (hg:Gl X "dict") (hm:X.mg "dict" = none) (ha:PA X [a] ta) (hs:starEach [a] X.env=[(false,eval a X.env)]:=by rfl) (hc:X.calm=true:=by rfl) (hK:X.K=K:=by rfl) :
  PE X (.Call (.Name "dict" p) [a] [] pos) (tDictP K ta):=by
 subst hK
 intro pins s σ H Q I h
 refine Call_ (ZC I hg hm WE (BG (thn (ha pos pins s σ H _ I h) fun us s1 ⟨vs,H1,I1,r1,q1⟩=>?_) hs rfl))
 obtain⟨p1,xs,ps,e,hq,hps,q⟩:=q1
 subst e
 obtain⟨u1,rfl,r2⟩:=vals1 r1
 cases r2
 obtain⟨hz,its,n,rv,eo⟩:=(show qd X.prog X.w H1 s1.heap p1 (.lst xs) from I1.hok p1 _ hq)
 obtain⟨rs,rk,hpa⟩:=prs_at I1.hok hps rv
 have l1:rs.length=its.toArray.size:=by
  have a1:=rk.length
  have a2:=AQ hps
  have a3:=rv.length
  simp;omega
 have l2:ps.length<=sizeLine:=by
  have a2:=AQ hps
  omega
 refine QL (ps:=rs) (I1.ok.hd hc) eo rfl rfl rfl l1 (by have:=rk.length;omega) (fun j p v a b=>hpa j p v a (by simpa using b)) fun h' tk hd' kp=>?_
 have hb:(s1.heap.objs.size == sysModules)=false:=beq_eq_false_iff_ne.mpr (Af (AU I1.big))
 have hl:(putAll [] ps).length<=sizeLine:=by
  have:=j7 ps []
  simp at this;omega
 exact⟨.ref s1.heap.objs.size,_,I1.laid (a:=s1.heap.objs.size) (o:=.dK (putAll [] ps)) (t':=tk) kp (AG _) ⟨hl,hb,_,xi rk .nil,hd'⟩,rfl,q _ (I1.hok.fresh (AG _))⟩
def tKGet (td ty:TE):TE:=fun σ H Q=>td σ H fun x H1=>ty σ H1 fun y H2=>∃ a kvs k v,x=.ref a/\H2 a=some (.dK kvs)/\y=kV k/\qY kvs k=some v/\Q v H2
theorem xj {o i:Expr} {pos:Pos} {td ty:TE} (ho:PE X o td) (hi:PE X i ty) (hs:NoSl i):PE X (.Subscript o i pos) (tKGet td ty):=by
 intro pins s σ H Q I h
 refine xf PySem.F.slot_dict_getitem.lookup hs (thn (ho pins s σ H _ I h) fun u s1 ⟨x,H1,I1,rx,q1⟩=>thn (hi pins s1 σ H1 _ I1 q1) fun iv s2 ⟨y,H2,I2,ry,a,kvs,k,v,ex,ea,ey,l,q2⟩=>?_)
 subst ex ey
 obtain rfl:u=Value.ref a:=rx
 obtain⟨z,hd,vs,rel,dd⟩:=dk_of I2.hok ea
 obtain⟨w',hw,rw'⟩:=Yr.some_of (v:=v) (o:=valueAt vs k) (by rw[<- l];exact rel.val k)
 exact⟨dd.typeIs,wpAny_getItem_of (WB ry) dd.mapOf hw ⟨v,H2,I2.tok _,rw',q2⟩⟩
end
open PySem PySem.Spec PyProof.Rows L4
theorem Prs.tk {H H':Hp} (s:Tk H H') {xs:List V} {ps:List (Key×V)} (h:Prs H xs ps):Prs H' xs ps:=by
 unfold Prs at h ⊢
 induction h with
 | nil=>exact .nil
 | cons r _ ih=>
  obtain⟨b,e,hb⟩:=r
  exact .cons ⟨b,e,s _ _ hb⟩ ih
theorem Prs.snoc {H:Hp} {xs:List V} {ps:List (Key×V)} {p:Key×V} {b:Addr} (h:Prs H xs ps) (hb:H b=some (.tup [kV p.1,p.2])):Prs H (xs++[.ref b]) (ps++[p]):=by
 unfold Prs at h ⊢
 induction h with
 | nil=>exact .cons ⟨b,rfl,hb⟩ .nil
 | cons r _ ih=>exact .cons r ih
section
variable {prog:Program} {w:World} {K:Type} [DecidableEq K] {knd:KeyKind prog w K} {A:Around} {E:Value->Shared->Prop} {s:Shared}
end
section
variable {X:Cx}
end
theorem QM:Manifest.owners.lookup (String.ofList ['d','e','s','r','e','v','e','r'].reverse)=some Manifest.sig_reversed:=by kernel_rfl
theorem qT:Slot "reversed" "__next__" "reversed.__next__":=
 .of (owner := "reversed") (n := "__next__") (by rw[D8,DH];kernel_rfl) (by ac_rfl) (by ac_rfl) (by ac_rfl)
  (by first | exact .inl (by ac_rfl) | exact .inr (by ac_rfl)) (by rw[Cc];kernel_rfl)
theorem ZE:entryFor table "reversed.__next__" = some Builtin.«reversed.__next__»:=entryFor_of_tree (by kernel_rfl)
theorem Zu (a:Value):argsOk "reversed.__next__" ⟨[a],[]⟩:=by
 unfold argsOk;rw[signature?_of (id := "reversed.__next__") (n:=['_','_','t','x','e','n','_','_']) (o:=['d','e','s','r','e','v','e','r']) (by kernel_rfl) QM];kernel_rfl
theorem j8:Slot "reversed" "__length_hint__" "reversed.__length_hint__":=
 .of (owner := "reversed") (n := "__length_hint__") (by rw[D8,DH];kernel_rfl) (by ac_rfl) (by ac_rfl) (by ac_rfl)
  (by first | exact .inl (by ac_rfl) | exact .inr (by ac_rfl)) (by rw[Cc];kernel_rfl)
theorem Q8:entryFor table "reversed.__length_hint__" = some Builtin.«reversed.__length_hint__»:=entryFor_of_tree (by kernel_rfl)
theorem QN (a:Value):argsOk "reversed.__length_hint__" ⟨[a],[]⟩:=by
 unfold argsOk;rw[signature?_of (id := "reversed.__length_hint__") (n:=['_','_','t','n','i','h','_','h','t','g','n','e','l','_','_']) (o:=['d','e','s','r','e','v','e','r']) (by kernel_rfl) QM];kernel_rfl
theorem Z0:Slot "reversed" "__iter__" "reversed.__iter__":=
 .of (owner := "reversed") (n := "__iter__") (by rw[D8,DH];kernel_rfl) (by ac_rfl) (by ac_rfl) (by ac_rfl)
  (by first | exact .inl (by ac_rfl) | exact .inr (by ac_rfl)) (by rw[Cc];kernel_rfl)
theorem QO (a:Value):argsOk "reversed.__iter__" ⟨[a],[]⟩:=by
 unfold argsOk;rw[signature?_of (id := "reversed.__iter__") (n:=['_','_','r','e','t','i','_','_']) (o:=['d','e','s','r','e','v','e','r']) (by kernel_rfl) QM];kernel_rfl
theorem Q9:entryFor table "reversed.__iter__" = some Builtin.«dict_keyiterator.__iter__»:=
 entryFor_alias (id' := "dict_keyiterator.__iter__") (by kernel_rfl) (by first | rfl | ac_rfl | (unfold String.splitOn;simp +decide [String.splitOnAux])) (by ac_rfl) (by kernel_rfl)
theorem Ya:typeLookup (.type "tuple") "__reversed__" = pure none:=EA (by ac_rfl)
theorem Yb:typeLookup (.type "reversed") "__len__" = pure none:=EA (by ac_rfl)
theorem JM:Slot "reversed" "__init__" "object.__init__":=
 .of (owner := "object") (n := "__init__") (by rw[D8,DH];kernel_rfl) (by ac_rfl) (by ac_rfl) (by ac_rfl)
  (by first | exact .inl (by ac_rfl) | exact .inr (by ac_rfl)) (by rw[Cc];kernel_rfl)
theorem Yc:TypeCalled "reversed" "reversed.__new__" "object.__init__":=
 ⟨by ac_rfl,by ac_rfl,⟨_,_,PySem.F.mro_reversed⟩,PySem.F.made_reversed,by ac_rfl,by rw[Cc];kernel_rfl,JM⟩
theorem wK:isSubtype (.type "tuple") (.type "dict")=pure false:=by rw[Cc];kernel_rfl
theorem seq_nat' {v n:Nat} (h:v < n):seqIndex? (v:Int) n=some v:=by
 unfold seqIndex?
 have h1:¬ ((v:Int) < 0):=by omega
 simp only[h1,if_false]
 rw[if_pos (by simp;omega)]
 rfl
def revO (t:Addr) (i:Int):Obj:={ cls:=.type "reversed",data:=.fields #[.ref t,rawInt i] }
def ZK (h:Heap) (a t:Addr) (i:Int):Prop:=∃ o,h.get? a=some o/\o.cls=.type "reversed" /\ o.data=.fields #[.ref t,rawInt i]
theorem ZK.typeIs {s:Shared} {a t:Addr} {i:Int} (x:ZK s.heap a t i):s.TypeIs (.ref a) "reversed":=let ⟨o,ho,hc,_⟩:=x;⟨o,ho,hc⟩
theorem ZK.at {h h':Heap} {a t:Addr} {i:Int} (x:ZK h a t i) (e:∀ o,h.get? a=some o->h'.get? a=some o):ZK h' a t i:=let ⟨o,ho,r⟩:=x;⟨o,e _ ho,r⟩
theorem JN (t:Addr) (items:Array Value) (hz:(items.size:Int) < 2 ^ 63) :
  Meets (Builtin.«reversed.__new__» ⟨[.type "reversed",.ref t],[]⟩) (fun _ R s=>IsTup s.heap t items/\∀ tk,R (.ok (.ret (.ref s.heap.objs.size))) { s with heap:=s.heap.push (revO t ((items.size:Int) - 1)),toks:=tk }):=
 .of_wp fun prog w A R s h=>by
  obtain⟨ht,h⟩:=h
  have hT:s.TypeIs (.ref t) "tuple":=ht.typeIs
  unfold Builtin.«reversed.__new__»
  refine AA (Bh (newClass_reversed _) ?_)
  try dsimp only
  refine AA (Bh (a:=()) (by first | rfl | kernel_rfl) ?_)
  refine AA (Bh (a:=()) (by first | rfl | kernel_rfl) ?_)
  try dsimp only
  refine AA (CQ hT Ya ?_)
  try dsimp only
  refine AA ?_
  refine AA (m:=isInstance (.ref t) (.type "dict")) (Br (T := "tuple") (b:=false) hT wK ?_)
  rw[if_neg AX]
  refine AA (m:=specialOf (.ref t) "__getitem__") (CQ hT El.lookup ?_)
  refine Bh (a:=true) (by first | rfl | kernel_rfl) ?_
  show wpAny _ _ (call (.builtin "len") [.ref t] >>= _) _ _ _
  refine AA (len_tuple ht hz ?_)
  show wpAny _ _ (asInt? (.int items.size (s.toks+1)) >>= _) _ _ _
  refine AA (Bh (a:=some (items.size:Int)) rfl ?_)
  show wpAny _ _ (newObj (.type "reversed") (.fields #[.ref t,rawInt ((items.size:Int) - 1)]) >>= _) _ _ _
  refine AA (Au (AF ?_) (by size_fits))
  exact⟨_,rfl,h _⟩
section
variable {prog:Program} {w:World} {A:Around} {E:Value->Shared->Prop} {s:Shared}
theorem ZL {t:Addr} {items:Array Value} {Q:Value->Shared->Prop} (ht:IsTup s.heap t items) (hz:(items.size:Int) < 2 ^ 63)
  (h:∀ tk,Q (.ref s.heap.objs.size) { s with heap:=s.heap.push (revO t ((items.size:Int) - 1)),toks:=tk }):wpAny (model prog w) A (call (.type "reversed") [.ref t]) Q E s:=by
 refine callType_new Yc (by decide) (PySem.F.typeCall_reversed_1 _) (PySem.F.newCall_reversed_1 _) (fun obj=>PySem.F.args_object_init_2 obj _) PySem.F.entry_reversed_new (JN t items hz) ⟨ht,fun tk=>?_⟩
 exact⟨⟨_,AK _ rfl,rfl⟩,h tk⟩
theorem JO {it t:Addr} {i:Nat} {items:Array Value} {x:Value} {Q:Option Value->Shared->Prop} (hit:ZK s.heap it t (i:Int)) (ht:IsTup s.heap t items) (hx:items[i]? = some x) (hz:(items.size:Int) < 2 ^ 63)
  (hQ:∀ h' tk,ZK h' it t ((i:Int) - 1)->Heap.SameBut it s.heap h'->Q (some x) { s with heap:=h',toks:=tk }):wpAny (model prog w) A (pyNext (.ref it)) Q E s:=by
 obtain⟨o,ho,hc,hd⟩:=id hit
 have hi:i < items.size:=by
  rcases DK i items.size with z | z
  ·exact z
  ·rw[Bi z] at hx;cases hx
 unfold pyNext
 refine AA (BQ (wpAny_callSpecial?_slot (name:=Str.ofString "__next__") hit.typeIs qT
  (A1 qT hit.typeIs ZE ?_ (Zu _))))
 unfold Builtin.«reversed.__next__»
 refine AA (Bh (a:=(Value.ref it,[])) rfl ?_)
 try dsimp only
 refine AA (A9 ho hd (x:=.ref t) rfl ?_)
 refine AA (A9 ho hd (x:=rawInt (i:Int)) rfl ?_)
 show wpAny _ _ (if (i:Int) < 0 then _ else _) _ _ s
 rw[if_neg (by omega)]
 show wpAny _ _ (specialOf (.ref t) "__getitem__" >>= _) _ _ s
 refine AA (CQ ht.typeIs El.lookup ?_)
 show wpAny _ _ (mkInt (i:Int) >>= _) _ _ _
 refine AA (wpAny_mkInt ?_)
 refine AA (BQ (getItem_tuple (s:={ s with toks:=s.toks+1 }) ht (by omega) (by omega) (j:=i) (seq_nat' hi) hx ?_))
 show wpAny _ _ (field (.ref it) 1 >>= _) _ _ _
 refine AA (A9 ho hd (x:=rawInt (i:Int)) rfl ?_)
 show wpAny _ _ (setField (.ref it) 1 (rawInt ((i:Int) - 1)) >>= _) _ _ _
 refine AA (B6 ho hd (by simp) (AF ⟨x,rfl,AF (hQ _ _ ?_ (B4 ..))⟩))
 exact⟨_,A8 _ ho (CV (Bb hd _)),(Dj ..).trans hc,by
  rw[Bb hd];simp⟩
theorem wL {it t:Addr} {Q:Option Value->Shared->Prop} (hh:A.handled=none) (hit:ZK s.heap it t (-1))
  (hQ:∀ h',Heap.ExtBut it s.heap h'->Q none { s with heap:=h' }):wpAny (model prog w) A (pyNext (.ref it)) Q E s:=by
 obtain⟨o,ho,hc,hd⟩:=id hit
 unfold pyNext
 refine AA (BQ (wpAny_callSpecial?_slot (name:=Str.ofString "__next__") hit.typeIs qT
  (A1 qT hit.typeIs ZE ?_ (Zu _))))
 unfold Builtin.«reversed.__next__»
 refine AA (Bh (a:=(Value.ref it,[])) rfl ?_)
 try dsimp only
 refine AA (A9 ho hd (x:=.ref t) rfl ?_)
 refine AA (A9 ho hd (x:=rawInt (-1)) rfl ?_)
 show wpAny _ _ (if (-1:Int) < 0 then _ else _) _ _ s
 rw[if_pos (by decide)]
 refine AA (Ba ?_)
 refine AA ?_
 refine AA (m:=setField (.ref it) 1 (rawInt (-1))) (B6 ho hd (by simp) ?_)
 have ho2:=A8 (Obj.mapFields fun vs=>vs.set! 1 (rawInt (-1))) ho (CV (Bb hd _))
 have hd2:=Bb hd (fun vs=>vs.set! 1 (rawInt (-1)))
 refine B6 ho2 hd2 (by simp) ?_
 refine AA ?_
 show wpAny _ _ (newExc (.type "StopIteration") [] >>= _) _ _ _
 refine AA ?_
 simp only[newExc,newTuple]
 refine AA (Au ?_ (by size_fits))
 refine AA (m:=firstArgMember _ _) (Bh (a:=Value.none) (by first | rfl | (simp only[firstArgMember];rfl)) ?_)
 refine Au ?_ (by size_fits)
 simp only[raiseNew]
 refine AA (Ee ?_)
 first | rw[show A.in1.handled=none from hh] | rw[hh]
 refine AA (AF (wpAny_throw ?_))
 refine AA (Br (T := "StopIteration") (b:=true) ⟨_,AK _ rfl,rfl⟩ ER ?_)
 refine AF (hQ _ ?_)
 intro b o' hb e
 exact AC _ (AC _ ((A0 _ _ (Af hb)).trans ((A0 _ _ (Af hb)).trans e)))
theorem Jq {it t:Addr} {i:Int} {Q:Value->Shared->Prop} (hit:ZK s.heap it t i) (h:Q (.ref it) s):wpAny (model prog w) A (pyIter (.ref it)) Q E s:=by
 refine Ej hit.typeIs Z0 (A1 Z0 hit.typeIs Q9 ?_ (QO _))
 show wpAny _ _ (ret (.ref it)) _ _ s
 exact AF ⟨_,rfl, "reversed",_,hit.typeIs,qT.lookup,h⟩
theorem hint_rev {it t:Addr} {i:Nat} {items:Array Value} {Q:Bool->Shared->Prop} (hit:ZK s.heap it t ((i:Int) - 1)) (ht:IsTup s.heap t items) (hi:i<=items.size) (hz:items.size<=1000)
  (h:∀ b tk,Q b { s with toks:=tk }):wpAny (model prog w) A (Builtin.List.listLengthHint (.ref it)) Q E s:=by
 obtain⟨o,ho,hc,hd⟩:=id hit
 unfold Builtin.List.listLengthHint
 refine AA (CQ hit.typeIs Yb ?_)
 show wpAny _ _ (specialOf (Value.ref it) (Str.ofString "__length_hint__") >>= _) _ _ _
 refine AA (CQ hit.typeIs j8.lookup ?_)
 generalize hid:("reversed.__length_hint__" : String)=id0
 wp_delta
 rw[show splitId id0=some ("reversed", "__length_hint__") from by subst hid;ac_rfl]
 subst hid
 refine AA (Br (T := "reversed") (b:=true) hit.typeIs PySem.F.sub_reversed_self ?_)
 refine B1 (fun hab=>absurd hab (by decide)) (fun _=>?_)
 refine B1 (fun hab=>absurd hab (by ac_rfl)) (fun _=>?_)
 refine AA (Ba ?_)
 refine AA (Bh (j8.bind _) ?_)
 have htl:Builtin.List.listTooLong ((i:Int).toNat)=false:=by simp[Builtin.List.listTooLong,sizeLine];omega
 have hfi:Builtin.List.listFitsIndex (i:Int)=true:=by simp[Builtin.List.listFitsIndex];omega
 refine AA (BQ (A1 j8 hit.typeIs Q8 ?_ (QN _)))
 unfold Builtin.«reversed.__length_hint__»
 refine AA (Bh (a:=Value.ref it) rfl ?_)
 refine AA (A9 ho hd (x:=.ref t) rfl ?_)
 show wpAny _ _ (if (Value.ref t == Value.none)=true then _ else call (.builtin "len") [.ref t] >>= _) _ _ s
 rw[if_neg (show ¬ ((Value.ref t == Value.none)=true) from AX)]
 refine AA (len_tuple ht (by omega) ?_)
 show wpAny _ _ (asInt? (.int items.size (s.toks+1)) >>= _) _ _ _
 refine AA (Bh (a:=some (items.size:Int)) rfl ?_)
 refine AA (A9 ho hd (x:=rawInt ((i:Int) - 1)) rfl ?_)
 show wpAny _ _ (if ((items.size:Nat):Int) < ((i:Int) - 1)+1 then _ else _) _ _ _
 rw[if_neg (by omega)]
 rw[show (i:Int) - 1+1=(i:Int) by omega]
 show wpAny _ _ (mkInt (i:Int) >>= fun v=>ret v) _ _ _
 refine AA (wpAny_mkInt (AF ⟨_,rfl,?_⟩))
 have h0:¬ ((i:Int) < 0):=by omega
 dsimp only
 generalize (i:Int)=k at *
 refine AA (m:=asInt? (Value.int k _)) (AF ?_)
 refine B1 (fun hab=>absurd hab (by rw[hfi];decide)) (fun _=>?_)
 refine B1 (fun hab=>absurd hab h0) (fun _=>?_)
 exact B1 (fun hab=>absurd hab (by rw[htl];decide)) (fun _=>AF (h _ _))
end
theorem Walks.rev {prog:Program} {w:World} {A:Around} (hh:A.handled=none) (I l:Addr) (hne:l ≠ I) (items:Array Value) (hz:(items.size:Int) < 2 ^ 63) :
  Walks prog w A I [I,l] [I] items.size (fun i v=>items[items.size - 1 - i]? = some v) (fun i h=>i<=items.size/\ZK h I l ((items.size:Int) - 1 - (i:Int))/\IsTup h l items) where
 sub:=fun b hb=>by simp at hb;simp[hb]
 frame:=fun _ _ _ x hk=>⟨x.1,x.2.1.at fun o e=>hk I (by simp) o e,let ⟨o,e,r⟩:=x.2.2;⟨o,hk l (by simp) o e,r⟩⟩
 item:=fun i s Q E hi x hQ=>by
  have e:(items.size:Int) - 1 - (i:Int)=((items.size - 1 - i:Nat):Int):=by omega
  have hit:=x.2.1
  rw[e] at hit
  have hx:items[items.size - 1 - i]? = some (items[items.size - 1 - i]'(by omega)):=BK (by omega)
  refine JO hit x.2.2 hx hz fun h' tk hit' hs'=>?_
  have e2:((items.size - 1 - i:Nat):Int) - 1=(items.size:Int) - 1 - ((i+1:Nat):Int):=by omega
  rw[e2] at hit'
  exact hQ _ h' tk hx ⟨hi,hit',let ⟨o,e,r⟩:=x.2.2;⟨o,(hs'.2 l hne).trans e,r⟩⟩ fun b o hb eo=>hs'.extBut b o (fun h=>hb (by simp[h])) eo
 done:=fun s Q E x hQ=>by
  have e:(items.size:Int) - 1 - (items.size:Int) = -1:=by omega
  have hit:=x.2.1
  rw[e] at hit
  exact wL hh hit fun h' he'=>hQ h' s.toks fun b o hb eo=>he' b o (fun h=>hb (by simp[h])) eo
 self:=fun _ _ _ _ x hQ=>Jq x.2.1 hQ
section
variable {prog:Program} {w:World} {A:Around} {s:Shared}
theorem Yd {R:Result->Shared->Prop} {it t:Addr} {items:Array Value} (hh:A.handled=none) (hit:ZK s.heap it t ((items.size:Int) - 1)) (ht:IsTup s.heap t items) (hne:t ≠ it) (hz:items.size<=1000)
  (S:Addr) (res:Value) (c₀:Nat) (hS:s.heap.get? S=some { cls:=.type "list",data:=.seq #[] c₀ })
  (hR:∀ h' tk acc' c',(∀ b o,b ≠ S->b ≠ it->s.heap.get? b=some o->h'.get? b=some o)->h'.get? S=some { cls:=.type "list",dict:=none,data:=.seq acc' c',slots:=#[] } ->
   ItemsOf (fun i v=>items[items.size - 1 - i]? = some v) acc' items.size->R (.ok (.ret res)) { s with heap:=h',toks:=tk }) :
  wpAny (model prog w) A.in1 (Builtin.List.listExtendWith (.ref S) (.ref it) res)
   (fun fin s'=>match fin with | .done f=>R (.ok f) s' | .again c'=>c'.quiet=true/\codeAny (model prog w) A c' R s') (fun e s'=>R (.error e) s') s:=by
 have hSit:S ≠ it:=fun e=>by
  obtain⟨o,ho,hc,_⟩:=hit
  rw[e,ho] at hS
  have:=AH hS
  rw[this] at hc
  exact absurd hc (show ¬ (Value.type "list" = Value.type _) by decide)
 have hSt:S ≠ t:=fun e=>by
  obtain⟨o,ho,hc,_⟩:=ht
  rw[e,ho] at hS
  have:=AH hS
  rw[this] at hc
  exact absurd hc (show ¬ (Value.type "list" = Value.type _) by decide)
 have hSf:S ∉ [it,t]:=fun hm=>by
  rcases Al.mp hm with h | h
  ·exact hSit h
  ·exact hSt (AJ.mp h)
 have W:=(Walks.rev (prog:=prog) (w:=w) (A:=A.in1) hh it t hne items (by omega)).toS
 have key:∀ (h:Heap) (c₁ tk:Nat),ZK h it t ((items.size:Int) - 1)->IsTup h t items->(∀ b o,b ≠ S->s.heap.get? b=some o->h.get? b=some o) ->
   h.get? S=some { cls:=.type "list",data:=.seq #[] c₁ }->codeAny (model prog w) A (.builtin "list.extend.loop" ⟨[.ref S,.ref it,res],[]⟩) R { s with heap:=h,toks:=tk }:=by
  intro h c₁ tk hit' ht' hk hS₁
  refine codeAny_extend_loopS W (by rw[BS];omega) S hSf res items.size 0 _ #[] c₁ rfl (A6 _) ⟨A6 _,by simpa using hit',ht'⟩ hS₁ (ItemsOf.nil _) fun s' acc' c' hm hS' hacc=>?_
  rw[Moved.eq_with hm]
  refine hR s'.heap s'.toks acc' c' (fun b o hb hi e=>hm.heap b o (fun hmem=>?_) (hk b o hb e)) hS' hacc
  rcases Al.mp hmem with e' | hmem
  ·exact hb e'
  ·exact hi (AJ.mp hmem)
 unfold Builtin.List.listExtendWith
 refine AA (Bo (T := "reversed") hit.typeIs ?_)
 have h1:Builtin.List.listSameRef (.ref S) (.ref it)=false:=by simp[Builtin.List.listSameRef,hSit]
 have h2:(Value.type "reversed" == Value.type "list")=false:=by decide
 have h3:(Value.type "reversed" == Value.type "tuple")=false:=by decide
 simp only[h1,h2,h3,Bool.or_false,Bool.false_eq_true,if_false]
 refine AA (Jq hit ?_)
 refine AA (A4 (hint_rev (i:=items.size) hit ht (AG _) hz fun b tk=>?_))
 refine B1 (fun _=>?_) (fun _=>AF ⟨Bv Ca _,key _ c₀ _ hit ht (fun b o _ e=>e) hS⟩)
 refine AA (Ba ?_)
 refine AA ?_
 show wpAny _ _ (updateSeq S (·.push .none) >>= fun _=>updateSeq S (·.pop)) _ _ _
 refine AA (Cu hS rfl ?_)
 have hS₂:=A8 (Obj.mapSeq (·.push Value.none)) hS rfl
 refine Cu (hz:=by seq_fits) hS₂ rfl ?_
 have hS₃:=A8 (Obj.mapSeq (·.pop)) hS₂ rfl
 have oth:∀ b o,b ≠ S->s.heap.get? b=some o->((s.heap.update S (Obj.mapSeq (·.push Value.none))).update S (Obj.mapSeq (·.pop))).get? b=some o:=fun b o hb e=>(A0 _ _ (Af hb)).trans ((A0 _ _ (Af hb)).trans e)
 refine AF ⟨Bv Ca _,key _ _ _ (hit.at fun o e=>oth it o (Af hSit) e) (let ⟨o,e,r⟩:=ht;⟨o,oth t o (Af hSt) e,r⟩) oth hS₃⟩
theorem init_rev {R:Result->Shared->Prop} {it t:Addr} {items:Array Value} (hh:A.handled=none) (hit:ZK s.heap it t ((items.size:Int) - 1)) (ht:IsTup s.heap t items) (hne:t ≠ it) (hz:items.size<=1000) (S:Addr) (hS:s.heap.get? S=some { cls:=.type "list",data:=.seq #[] })
  (hSt:S ≠ t) (hSi:S ≠ it) (hR:∀ h' tk acc' c',(∀ b o,b ≠ S->b ≠ it->s.heap.get? b=some o->h'.get? b=some o)->h'.get? S=some { cls:=.type "list",dict:=none,data:=.seq acc' c',slots:=#[] } ->
   ItemsOf (fun i v=>items[items.size - 1 - i]? = some v) acc' items.size->R (.ok (.ret .none)) { s with heap:=h',toks:=tk }) :
  wpAny (model prog w) A.in1 (Builtin.«list.__init__» ⟨[.ref S,.ref it],[]⟩)
   (fun fin s'=>match fin with | .done f=>R (.ok f) s' | .again c'=>c'.quiet=true/\codeAny (model prog w) A c' R s') (fun e s'=>R (.error e) s') s:=by
 show wpAny _ _ (do let old <- Builtin.List.listItems (.ref S);Builtin.List.listUpdate (.ref S) (fun _=>#[]);letGo old.toList.reverse;Builtin.List.listExtendWith (.ref S) (.ref it) .none) _ _ s
 refine AA ?_
 unfold Builtin.List.listItems
 refine AA (BZ hS rfl (AF ?_))
 show wpAny _ _ (updateSeq S (fun _=>#[]) >>= fun _=>letGo (#[]:Array Value).toList.reverse >>= fun _=>Builtin.List.listExtendWith (.ref S) (.ref it) .none) _ _ s
 refine AA (Cu hS rfl ?_)
 have hS₂:=A8 (Obj.mapSeq (fun _=>(#[]:Array Value))) hS rfl
 have oth:∀ b o,b ≠ S->s.heap.get? b=some o->(s.heap.update S (Obj.mapSeq (fun _=>(#[]:Array Value)))).get? b=some o:=
  fun b o hb e=>(A0 _ _ (Af hb)).trans e
 refine AA (EO ?_)
 refine Yd hh (hit.at fun o e=>oth it o (Af hSi) e) (let ⟨o,e,r⟩:=ht;⟨o,oth t o (Af hSt) e,r⟩) hne hz S .none _ hS₂ fun h' tk acc' c' hk hS' hacc=>?_
 exact hR h' tk acc' c' (fun b o hb hi e=>hk b o hb hi (oth b o hb e)) hS' hacc
theorem JP {E:Value->Shared->Prop} {Q:Value->Shared->Prop} {it t:Addr} {items:Array Value} (hh:A.handled=none) (hit:ZK s.heap it t ((items.size:Int) - 1)) (ht:IsTup s.heap t items) (hne:t ≠ it) (hz:items.size<=1000)
  (hQ:∀ h' tk acc' c',(∀ b o,b ≠ it->s.heap.get? b=some o->h'.get? b=some o) ->
   h'.get? s.heap.objs.size=some { cls:=.type "list",dict:=none,data:=.seq acc' c',slots:=#[] }->ItemsOf (fun i v=>items[items.size - 1 - i]? = some v) acc' items.size->Q (.ref s.heap.objs.size) { s with heap:=h',toks:=tk }) :
  wpAny (model prog w) A (call (.type "list") [.ref it]) Q E s:=by
 refine DZ (Q₁:=fun obj s₁=>obj=.ref s.heap.objs.size/\s₁ = { s with heap:=s.heap.push { cls:=.type "list",data:=.seq #[] } }) PySem.F.called_list (PySem.F.typeCall_list_1 _) PySem.F.entry_list_init
  (code_list_new _ ⟨rfl,rfl⟩) fun obj s₁ h₁=>?_
 obtain⟨rfl,rfl⟩:=h₁
 have hS:(s.heap.push { cls:=.type "list",data:=.seq #[] }).get? s.heap.objs.size=some { cls:=.type "list",data:=.seq #[] }:=AK _ rfl
 have lt1:it < s.heap.objs.size:=let ⟨_,e,_⟩:=hit;AL e
 have lt2:t < s.heap.objs.size:=let ⟨_,e,_⟩:=ht;AL e
 refine⟨⟨_,hS,rfl⟩,PySem.F.args_list_init_2 _ _,init_rev (A:=A.in1) hh (hit.at fun o e=>AC _ e) (let ⟨o,e,r⟩:=ht;⟨o,AC _ e,r⟩) hne hz _ hS (BW lt2) (BW lt1) fun h' tk acc' c' hk hS' hacc=>?_⟩
 exact⟨rfl,hQ h' tk acc' c' (fun b o hi e=>hk b o (AU (AL e)) hi (AC _ e)) hS' hacc⟩
end
theorem WF:bootBuiltins "reversed" = some (.type "reversed"):=by ac_rfl
theorem vals_rev {xs:List V} {its:List Value} {acc:Array Value} (r:qi xs its) (h:ItemsOf (fun i v=>its.toArray[its.toArray.size - 1 - i]? = some v) acc its.toArray.size):qi xs.reverse acc.toList:=by
 have l:=r.length
 refine yt (by rw[Cb];have:=h.1;simp at this ⊢;omega) fun i x u hx hu=>?_
 have hi:i < xs.length:=by
  have:=(AE.mp hx).1
  rw[Cb] at this
  exact this
 rw[List.getElem?_reverse hi] at hx
 obtain⟨u',hu',ru⟩:=r.get hx
 have e:=h.2 i u (by simpa using hu)
 have e2:its[its.length - 1 - i]? = some u:=by simpa using e
 rw[<- l,hu'] at e2
 rw[<- AH e2]
 exact ru
section
variable {X:Cx}
def tListRev (K:Fs) (ta:TA):TE:=fun σ H Q=>ta σ H fun vs H1=>∃ p xs,vs=[.ref p]/\SqT K H1 p xs/\xs.length<=1000/\∀ l,H1 l=none->Q (.ref l) (upd H1 l (.lst xs.reverse))
theorem Ye (K:Fs) {a:Expr} {ta:TA} {p p2 pos pos2:Pos} (hg:Gl X "list") (hm:X.mg "list" = none) (hg2:Gl X "reversed") (hm2:X.mg "reversed" = none) (ha:PA X [a] ta) (hs:starEach [a] X.env=[(false,eval a X.env)]:=by rfl) (hs2:starEach [.Call (.Name "reversed" p2) [a] [] pos2] X.env=[(false,eval (.Call (.Name "reversed" p2) [a] [] pos2) X.env)]:=by rfl) (hc:X.calm=true:=by rfl) (hK:X.K=K:=by rfl) :
  PE X (.Call (.Name "list" p) [.Call (.Name "reversed" p2) [a] [] pos2] [] pos) (tListRev K ta):=by
 subst hK
 intro pins s σ H Q I h
 refine Call_ (ZC I hg hm ZI (BG ?_ hs2 rfl))
 rw[hs2]
 show wpAny _ _ (spliced [(false,eval (.Call (.Name "reversed" p2) [a] [] pos2) X.env)]) _ _ s
 refine Calls.spliced_cons ?_
 refine Call_ (ZC I hg2 hm2 WF (BG (thn (ha pos2 pins s σ H _ I h) fun us s1 ⟨vs,H1,I1,r1,q1⟩=>?_) hs rfl))
 obtain⟨p1,xs,e,hq,hz,q⟩:=q1
 subst e
 obtain⟨u1,rfl,r2⟩:=vals1 r1
 cases r2
 obtain⟨its,rv,pl,_⟩:=I1.tuple hq
 have lv:=rv.length
 have plt:p1 < s1.heap.objs.size:=PyProof.Rows.IsTup.lt pl
 have sz:its.toArray.size<=1000:=by simp;omega
 refine ZL pl (by omega) fun tk=>?_
 refine Calls.spliced_nil ?_
 have I2:Inv X pins σ H1 { s1 with heap:=s1.heap.push (revO p1 ((its.toArray.size:Int) - 1)),toks:=tk }:=I1.kept (t':=tk) fun _ _ e=>AC _ e
 have hsz:(s1.heap.push (revO p1 ((its.toArray.size:Int) - 1))).objs.size=s1.heap.objs.size+1:=CK ..
 refine JP (s:={ s1 with heap:=s1.heap.push (revO p1 ((its.toArray.size:Int) - 1)),toks:=tk }) (I1.ok.hd hc) (it:=s1.heap.objs.size) (t:=p1) (items:=its.toArray) ⟨_,AK _ rfl,rfl,rfl⟩ (let ⟨o,e,r⟩:=pl;⟨o,AC _ e,r⟩) (AU plt) sz fun h' tk2 acc c' kp he hacc=>?_
 have he':h'.get? (s1.heap.objs.size+1)=some { cls:=.type "list",dict:=none,data:=.seq acc c',slots:=#[] }:=by
  have:({ s1 with heap:=s1.heap.push (revO p1 ((its.toArray.size:Int) - 1)),toks:=tk }:Shared).heap.objs.size=s1.heap.objs.size+1:=hsz
  rw[this] at he
  exact he
 have I3:Inv X pins σ H1 { s1 with heap:=h',toks:=tk2 }:=by
  refine I1.changed (t':=tk2) (ch:=[]) (fun b hb=>by cases hb) fun c o _ e=>kp c o (AU (AL e)) (AC _ e)
 have Hn:H1 (s1.heap.objs.size+1)=none:=I1.hok.fresh (CH _)
 have I4:Inv X pins σ (upd H1 (s1.heap.objs.size+1) (.lst xs.reverse)) { s1 with heap:=h',toks:=tk2 }:=by
  refine I3.adopt Hn (EZ (Nat.le_succ_of_le I1.sz)) (BW (B9 I1.lt)) (fun xx cc e zz=>?_) (fun p hp zz=>?_) ⟨by rw[Cb];exact CI (zo (by omega)),acc.toList,c',vals_rev rv hacc,by simpa using he'⟩
  ·obtain⟨_,q⟩:=I1.cell xx cc e
   exact absurd q.lt (by rw[zz];exact Df.mpr (CH _))
  ·exact absurd (AL (I1.pin p hp).1) (by rw[zz];exact Df.mpr (CH _))
 rw[hsz]
 exact⟨.ref (s1.heap.objs.size+1),_,I4,rfl,q _ Hn⟩
def WG (K:Fs) (H:Hp) (n:Nat):List (List V)->List V->Prop:=Paired fun c v=>∃ t,v=.ref t/\SqT K H t c/\c.length=n/\c.all Zm=true
open Classical in
noncomputable def isIn (K:Fs) (H:Hp) (xs:List V) (w:Value):Bool:=decide (∃ t c,w=.ref t/\SqT K H t c/\QG c xs=true)
def sKPut (td ty tv:TE):TS:=fun D σ H=>tv σ H fun v H1=>td σ H1 fun x H2=>ty σ H2 fun y H3=>∃ a kvs k,x=.ref a/\y=kV k/\H3 a=some (.dK kvs)/\kvs.length < sizeLine/\D.nx σ (upd H3 a (.dK (ZJ kvs k v)))
theorem xk {o i value:Expr} {pos pos':Pos} {td ty tv:TE} {j:Nat} (hr:jY j X.A) (ho:PE X o td) (hi:PE X i ty) (hv:PE X value tv) (hs:swapsWith value (some (.Subscript o i pos')) pos.line X.env=pure false) :
  PS X (.Assign [.Subscript o i pos'] value pos) (sKPut td ty tv):=by
 intro pins s σ H D I h
 have hu:X.A.units+64 < cLine:=hr.units
 refine wpAny_Assign_Subscript (thn (hv pins s σ H _ I h) fun r s1 ⟨v,H1,I1,rv,q1⟩=>thn (ho pins s1 σ H1 _ I1 q1) fun u s2 ⟨x,H2,I2,rx,q2⟩=>thn (hi pins s2 σ H2 _ I2 q2) fun iv s3 ⟨y,H3,I3,ry,a,kvs,k,ex,ey,e,l,q3⟩=>?_) hs
 subst ex ey
 obtain rfl:u=Value.ref a:=rx
 exact wI (by omega) I3 (DPut.k e l) ry rv fun s4 I4=>⟨σ,_,I4,q3⟩
def rKNotIn:R2:=fun y x H Q=>∃ a kvs k,x=.ref a/\y=kV k/\H a=some (.dK kvs)/\Q (.bl (!(qY kvs k).isSome)) H
theorem xm {j:Nat} (hr:jY j X.A):OpR X (compareOp .NotIn) rKNotIn:=by
 intro pins s σ H x y v u Q I rx ry h
 obtain⟨a,kvs,k,rfl,rfl,ha,q⟩:=h
 have hu:X.A.units+64 < cLine:=hr.units
 obtain rfl:u=Value.ref a:=ry
 exact xb (by omega) I (WC.k ha) rx fun s' I'=>⟨.bl _,H,I',rfl,q⟩
def rEqT (K:Fs):R2:=fun x y H Q=>∃ p q xs ys,x=.ref p/\y=.ref q/\SqT K H p xs/\SqT K H q ys/\xs.all Zm=true/\ys.all Zm=true/\xs.length=ys.length/\Q (.bl (QG xs ys)) H
theorem op_eqT (K:Fs) {k:Nat} (hr:jY k X.A) (hK:X.K=K:=by rfl):OpR X (compareOp .Eq) (rEqT K):=by
 subst hK
 intro pins s σ H x y v u Q I rx ry h
 obtain⟨p,q,xs,ys,rfl,rfl,hp,hq,fx,fy,hl,hQ⟩:=h
 cases rx
 cases ry
 have hu:X.A.units+64 < cLine:=hr.units
 obtain⟨us,r1,p1,_⟩:=I.tuple hp
 obtain⟨vs,r2,p2,_⟩:=I.tuple hq
 have l1:=r1.length
 have l2:=r2.length
 have z:=DB (A:=X.A) (s:=s) p1 p2 (by omega) (Qo r1 r2 fx fy)
 have e:((List.range (min us.toArray.size vs.toArray.size)).all (fun j=>eqV (xs.getD j .non) (ys.getD j .non)) && us.toArray.size == vs.toArray.size)=QG xs ys:=by
  have z1:us.toArray.size=xs.length:=by rw[Aa];exact l1.symm
  have z2:vs.toArray.size=ys.length:=by rw[Aa];exact l2.symm
  have e5:min us.toArray.size vs.toArray.size=xs.length:=by rw[z1,z2,hl,EU]
  rw[e5,Zr _ _ hl,z1,z2]
  rfl
 rw[e] at z
 exact z X.prog X.w _ _ ⟨.bl _,H,I,rfl,hQ⟩
end
section
variable {X:Cx}
def rNeNil (K:Fs):R2:=fun x y H Q=>∃ p q xs,x=.ref p/\y=.ref q/\SqL K H p xs/\SqL K H q []/\Q (.bl (!xs.isEmpty)) H
theorem yA (K:Fs) {k:Nat} (hr:jY k X.A) (hK:X.K=K:=by rfl):OpR X (compareOp .NotEq) (rNeNil K):=by
 subst hK
 intro pins s σ H x y v u Q I rx ry h
 obtain⟨p,q,xs,rfl,rfl,h1,h2,hq⟩:=h
 cases rx
 cases ry
 obtain⟨us,r1,pl1,_⟩:=I.list h1
 obtain⟨vs,r2,pl2,_⟩:=I.list h2
 have hu:X.A.units < cLine:=EV (hu_of hr)
 cases r2
 cases xs with
 | nil=>
  cases r1
  exact SeqAt.RcNeAt.lists (e:=fun _=>true) pl1.isList pl2.isList rfl hu (fun j h _=>absurd h (CJ _)) X.prog X.w _ _ ⟨.bl _,H,I,rfl,hq⟩
 | cons x xs=>
  have l1:=r1.length
  exact SeqAt.RcNeAt.lists_lengths pl1.isList pl2.isList (by simp at l1 ⊢;intro z;rw[z] at l1;cases l1) hu X.prog X.w _ _ ⟨.bl _,H,I,rfl,hq⟩
end
end L2
namespace L4
open PySem L2
theorem Jr:∀ (ps acc:List (Key×V)) (k:Key),k ∉ ps.map Prod.fst->qY (putAll acc ps) k=qY acc k
 | [],acc,k,_=>rfl
 | p :: ps,acc,k,h=>by
  rw[Ai,Al,not_or] at h
  show qY (putAll (ZJ acc p.1 p.2) ps) k=_
  rw[Jr ps _ k h.2,Qp,if_neg h.1]
theorem WH:∀ (ps acc:List (Key×V)) (p:Key×V),(ps.map Prod.fst).Nodup->p ∈ ps->qY (putAll acc ps) p.1=some p.2
 | [],acc,p,_,h=>by cases h
 | z :: ps,acc,p,hn,h=>by
  rw[Ai,Bl] at hn
  show qY (putAll (ZJ acc z.1 z.2) ps) p.1=_
  rcases Al.mp h with rfl | h
  ·rw[Jr ps _ _ hn.1,Qp,if_pos rfl]
  ·exact WH ps _ p hn.2 h
end L4
namespace L2
open PySem PySem.Spec PyProof.Rows
section
variable {prog:Program} {w:World} {A:Around} {R:Result->Shared->Prop}
abbrev TK (prog:Program) (w:World):HeapKind prog w (List Key):=tupleKind (zB prog w)
theorem wM {h h':Heap} {ks:List Key} {a b0:Addr} (x:(TK prog w).is h ks a) (hs:∀ b o,b ≠ b0->h.get? b=some o->h'.get? b=some o) (hn:∀ o,h.get? b0=some o->o.cls ≠ .type "tuple"):(TK prog w).is h' ks a:=by
 obtain⟨o,items,n,e,c,r⟩:=x
 exact⟨o,items,n,hs a o (fun z=>by subst z;exact hn o e c) e,c,r⟩
theorem Js {h h':Heap} {d b0:Addr} {xs:List (List Key×Addr×Value)} (m:h.DictOfH (TK prog w) d xs) (hd:d ≠ b0) (hs:∀ b o,b ≠ b0->h.get? b=some o->h'.get? b=some o) (hn:∀ o,h.get? b0=some o->o.cls ≠ .type "tuple"):h'.DictOfH (TK prog w) d xs:=by
 obtain⟨o,es,ep,ho,hc,hd',he,his,hn'⟩:=m
 exact⟨o,es,ep,hs d o hd ho,hc,hd',he,fun x hx=>wM (his x hx) hs hn,hn'⟩
def ZM (prog:Program) (w:World) (h:Heap) (v:Value) (p:List Key×Addr×Value):Prop:=∃ b,v=.ref b/\h.IsTuple b #[.ref p.2.1,p.2.2]/\(TK prog w).is h p.1 p.2.1
theorem ZM.keep {h h':Heap} {v:Value} {p:List Key×Addr×Value} {b0:Addr} (x:ZM prog w h v p) (hs:∀ b o,b ≠ b0->h.get? b=some o->h'.get? b=some o) (hn:∀ o,h.get? b0=some o->o.cls ≠ .type "tuple"):ZM prog w h' v p:=by
 obtain⟨b,rfl,⟨o,e,c,r⟩,hk⟩:=x
 exact⟨b,rfl,⟨o,hs b o (fun z=>by subst z;exact hn o e c) e,c,r⟩,wM hk hs hn⟩
def xn (acc ps:List (List Key×Addr×Value)):List (List Key×Addr×Value):=ps.foldl (fun acc p=>storedH acc p.1 p.2.1 p.2.2) acc
theorem WI (acc:List (List Key×Addr×Value)) (k:List Key) (a:Addr) (v:Value):(storedH acc k a v).length<=acc.length+1:=by
 unfold storedH
 split
 ·rw[AB];omega
 ·rw[AI];simp
theorem xo (hh:A.handled=none) (hu:A.units+1 < cLine) (D L it:Addr) (items:Array Value) (hDL:D ≠ L) (hDi:D ≠ it) (hLi:L ≠ it) (ps:List (List Key×Addr×Value)) (hlen:ps.length=items.size) (hsz:ps.length<=sizeLine) :
  ∀ (n i:Nat) (s:Shared) (acc:List (List Key×Addr×Value)),n+i=items.size->acc.length<=i->s.heap.IsListIter it L i->s.heap.IsList L items->s.heap.DictOfH (TK prog w) D acc ->
  (∀ (j:Nat) (p:List Key×Addr×Value) (v:Value),ps[j]? = some p->items[j]? = some v->ZM prog w s.heap v p) ->
  (∀ h' tk,h'.DictOfH (TK prog w) D (xn acc (ps.drop i))->(∀ b o,b ≠ D->b ≠ it->s.heap.get? b=some o->h'.get? b=some o)->R (.ok (.ret .none)) { s with heap:=h',toks:=tk }) ->
  codeAny (model prog w) A (.builtin "dict.update.loop" ⟨[.ref D,.ref it,rawInt i,.none],[]⟩) R s:=by
 intro n
 induction n with
 | zero=>
  intro i s acc hn hacc hit hl hd hp hR
  obtain⟨oi,hoi,hci,_⟩:=id hit
  refine B2 qt ?_
  rw[Bj zH _]
  show wpAny _ A.in1 (pyNext (.ref it) >>= _) _ _ s
  refine AA (EF (show A.in1.handled=none from hh) hit hl (by simp;omega) fun h' eb=>?_)
  show wpAny _ _ (Builtin.Dict.addKeywords D [] >>= _) _ _ _
  refine AA (AF (AF (hR h' s.toks ?_ fun b o _ h2 e=>eb b o h2 e)))
  rw[Cr (by omega)]
  exact Js hd hDi (fun b o hb e=>eb b o hb e) fun o e=>by rw[hoi] at e;cases e;rw[hci];decide
 | succ n ih=>
  intro i s acc hn hacc hit hl hd hp hR
  have hi:i < items.size:=by omega
  obtain⟨v,hv⟩:∃ v,items[i]? = some v:=⟨items[i],by simp[hi]⟩
  obtain⟨p,hpi⟩:∃ p,ps[i]? = some p:=⟨ps[i]'(by omega),by rw[AD (by omega)]⟩
  refine B2 qt ?_
  rw[Bj zH _]
  show wpAny _ A.in1 (pyNext (.ref it) >>= _) _ _ s
  refine AA (Dz hit hl hv fun h1 hit1 hs1=>?_)
  obtain⟨oi,hoi,hci,_⟩:=hit
  have nti:∀ o,s.heap.get? it=some o->o.cls ≠ .type "tuple":=fun o e=>by rw[hoi] at e;cases e;rw[hci];decide
  have hp1:∀ (j:Nat) (p:List Key×Addr×Value) (v:Value),ps[j]? = some p->items[j]? = some v->ZM prog w h1 v p:=fun j p v a b=>(hp j p v a b).keep (b0:=it) (fun b o hb e=>hs1.extBut b o hb e) nti
  obtain⟨b,rfl,hb,hk⟩:=hp1 i p v hpi hv
  obtain⟨ot,e1,e2,nt,e3⟩:=id hb
  have hd1:=Js hd hDi (fun b o hb e=>hs1.extBut b o hb e) nti
  refine AA (A4 (AA (wpAny_tryCatch ?_)))
  unfold Builtin.Dict.pairItems
  refine AA (Bo (T := "tuple") ⟨ot,e1,e2⟩ ?_)
  rw[if_pos (by decide)]
  refine AA (BZ e1 e3 (AF ?_))
  show wpAny _ _ (holding [.ref p.2.1,p.2.2] (dictSet D (.ref p.2.1) p.2.2)) _ _ _
  refine A4 (wpAny_dictSet_heap (s:={ s with heap:=h1 }) (hsz:=by omega) (C0 hu) hk hd1 fun h2 hd2 hs2=>?_)
  refine AF ⟨Bv zH _,?_⟩
  have hl1:h1.IsList L items:=hl.extBut hs1.extBut hLi
  have hle:(storedH acc p.1 p.2.1 p.2.2).length<=i+1:=Aq (WI ..) (by omega)
  obtain⟨oD,_,_,hoD,hcD,_⟩:=id hd1
  have:=ih (i+1) { s with heap:=h2,toks:=s.toks+(TK prog w).draws p.1 } (storedH acc p.1 p.2.1 p.2.2) (by omega) hle (hit1.extBut hs2.extBut (Af hDi)) (hl1.extBut hs2.extBut (Af hDL)) hd2 (fun j p v a b=>(hp1 j p v a b).keep (b0:=D) (fun b o hb e=>hs2.extBut b o hb e) fun o e=>by
    rw[hoD] at e;cases e;rw[hcD.1];decide) fun h' tk hd' hk'=>?_
  ·simpa using this
  ·refine hR h' tk ?_ fun b o h1 h2 e=>hk' b o h1 h2 (hs2.extBut b o h1 (hs1.extBut b o h2 e))
   have e4:ps.drop i=p :: ps.drop (i+1):=by
    rw[AE] at hpi
    obtain⟨h5,h6⟩:=hpi
    rw[<- h6]
    exact Bm h5
   unfold xn
   rw[e4,Bx]
   exact hd'
theorem Qh {E:Value->Shared->Prop} {Q:Value->Shared->Prop} {s:Shared} {L:Addr} {o:Obj} {items:Array Value} {k:Nat} {ps:List (List Key×Addr×Value)} (hh:A.handled=none) (hu:A.units+2 < cLine) (hx:s.heap.get? L=some o) (hc:o.cls=.type "list") (hdat:o.data=.seq items k) (hdn:o.dict=none)
  (hlen:ps.length=items.size) (hsz:ps.length<=sizeLine) (hp:∀ (j:Nat) (p:List Key×Addr×Value) (v:Value),ps[j]? = some p->items[j]? = some v->ZM prog w s.heap v p)
  (h:∀ h' tk,h'.DictOfH (TK prog w) s.heap.objs.size (xn [] ps)->(∀ b o,s.heap.get? b=some o->h'.get? b=some o)->Q (.ref s.heap.objs.size) { s with heap:=h',toks:=tk }) :
  wpAny (model prog w) A (call (.type "dict") [.ref L]) Q E s:=by
 refine DZ (Q₁:=fun obj s₁=>obj=.ref s.heap.objs.size/\s₁ = { s with heap:=s.heap.push { cls:=.type "dict",data:=.dict #[] } }) De (DN _) Db (kt_code_dict_new _ ⟨rfl,rfl⟩) ?_
 rintro obj s₁ ⟨rfl,rfl⟩
 have hnew:(s.heap.push { cls:=.type "dict",data:=.dict #[] }).DictOf (zB prog w) s.heap.objs.size []:=ED s.heap
 have hnewH:(s.heap.push { cls:=.type "dict",data:=.dict #[] }).DictOfH (TK prog w) s.heap.objs.size []:=⟨_,#[],0,AK _ rfl,⟨rfl,rfl,rfl⟩,rfl,rfl,fun x hx=>(by cases hx),.nil⟩
 have hx1:=AC { cls:=.type "dict",data:=.dict #[] } hx
 have Llt:L < s.heap.objs.size:=AL hx
 refine⟨hnew.typeIs,DW _ _,?_⟩
 unfold Builtin.«dict.__init__»
 refine AA ?_
 unfold Builtin.Dict.selfAndRest
 refine AA (CA hnew.typeIs ?_)
 show wpAny _ _ (pure (s.heap.objs.size,[Value.ref L])) _ _ _
 refine AF ?_
 show wpAny _ _ (Builtin.Dict.updateFrom "dict.__init__" s.heap.objs.size (.ref L) [] .none) _ _ _
 unfold Builtin.Dict.updateFrom
 refine AA (Bo (T := "list") ⟨o,hx1,hc⟩ ?_)
 rw[if_pos (by decide)]
 refine AA (wJ hx1 hc hdat hdn (show A.in1.in1.handled=none from hh) fun h' tk kp=>?_)
 rw[if_pos (by rfl)]
 have hL':h'.IsList L items:=⟨o,kp _ _ hx1,hc,k,hdat⟩
 refine AA (Ba (AA (DA hL' ?_)))
 have Dget:∃ od,h'.get? s.heap.objs.size=some od:=⟨_,kp _ _ (AK _ rfl)⟩
 have Dlt:s.heap.objs.size < h'.objs.size:=let ⟨_,e⟩:=Dget;AL e
 refine AF ⟨Bv zH _,?_⟩
 have it0:(h'.push { cls:=.type "list_iterator",data:=.fields #[.ref L,.int 0 0] }).IsListIter h'.objs.size L 0:=⟨_,AK _ rfl,rfl,rfl⟩
 have hd':(h'.push { cls:=.type "list_iterator",data:=.fields #[.ref L,.int 0 0] }).DictOfH (TK prog w) s.heap.objs.size []:=by
  obtain⟨od,es,ep,e,h1,h2,h3,_,h5⟩:=hnewH
  exact⟨od,es,ep,AC _ (kp _ _ e),h1,h2,h3,(fun x hx=>by cases hx),h5⟩
 refine xo (A:=A.in1) (show A.in1.handled=none from hh) (show A.units+1+1 < cLine from hu) s.heap.objs.size L h'.objs.size items (BW Llt) (AU Dlt) (AU (Co Llt Dlt)) ps hlen hsz items.size 0 { s with heap:=h'.push { cls:=.type "list_iterator",data:=.fields #[.ref L,.int 0 0] },toks:=tk } [] rfl (AG _) it0 (hL'.push _) hd' (fun j p v a b=>?_) fun h2 tk2 hd2 hk2=>?_
 ·obtain⟨bb,e1,⟨ot,e2,r⟩,⟨o3,i3,n3,e3,r3⟩⟩:=hp j p v a b
  exact⟨bb,e1,⟨ot,AC _ (kp _ _ (AC _ e2)),r⟩,⟨o3,i3,n3,AC _ (kp _ _ (AC _ e3)),r3⟩⟩
 ·refine⟨rfl,h h2 tk2 ?_ fun b ob e=>hk2 b ob (AU (AL e)) (AU (Co (AL e) Dlt)) (AC _ (kp _ _ (AC _ e)))⟩
  rw[Cq] at hd2
  exact hd2
end
def WJ (H:Hp):List V->List (List Key×V)->Prop:=Paired fun x p=>∃ b kb,x=.ref b/\H b=some (.tup [.ref kb,p.2])/\H kb=some (.tup (p.1.map kV))
def putAllT (kvs ps:List (List Key×V)):List (List Key×V):=ps.foldl (fun acc p=>ZJ acc p.1 p.2) kvs
theorem prsT_at {P:Program} {w:World} {H:Hp} {h:Heap} (ok:HOk P w H h) {xs:List V} {ps:List (List Key×V)} (r:WJ H xs ps):∀ {us:List Value},qi xs us->∃ rs:List (List Key×Addr×Value),KT H ps rs/\∀ (j:Nat) (p:List Key×Addr×Value) (v:Value),rs[j]? = some p->us[j]? = some v->ZM P w h v p:=by
 unfold WJ at r
 induction r with
 | nil=>
  intro us rv
  exact⟨[],.nil,fun j p v e=>by simp at e⟩
 | @cons x p xs ps hx t ih=>
  intro us rv
  cases rv with
  | @cons _ u _ us hu rv=>
   obtain⟨rs,r1,r2⟩:=ih rv
   obtain⟨b,kb,rfl,hb,hkb⟩:=hx
   obtain⟨_,its,ri,o,e1,e2,⟨n,e3⟩,_⟩:=(show qd P w H h b (.tup [.ref kb,p.2]) from ok b _ hb)
   cases ri with
   | @cons _ ku _ _ hk ri=>
    cases ri with
    | @cons _ vu _ _ hv ri=>
     cases ri
     obtain rfl:ku=Value.ref kb:=hk
     refine⟨(p.1,kb,vu) :: rs,.cons ⟨rfl,hkb,hv⟩ r1,fun j q v ej ev=>?_⟩
     cases j with
     | zero=>
      cases (AH ej)
      cases (AH ev)
      obtain rfl:u=Value.ref b:=hu
      exact⟨b,rfl,⟨o,e1,e2,n,e3⟩,Jp ok hkb⟩
     | succ j=>exact r2 j q v ej ev
theorem put_allT {H:Hp} {ps:List (List Key×V)} {rs:List (List Key×Addr×Value)} (r:KT H ps rs):∀ {acc:List (List Key×V)} {bcc:List (List Key×Addr×Value)},KT H acc bcc->KT H (putAllT acc ps) (xn bcc rs):=by
 unfold KT at r
 induction r with
 | nil=>exact fun q=>q
 | @cons p q ps qs h t ih=>
  intro acc bcc ra
  obtain⟨h1,h2,h3⟩:=h
  show KT H (putAllT (ZJ acc p.1 p.2) ps) (xn (storedH bcc q.1 q.2.1 q.2.2) qs)
  rw[<- h1]
  exact ih (KT.put ra p.1 h2 h3)
theorem ZF:∀ (ps acc:List (List Key×V)),(putAllT acc ps).length<=acc.length+ps.length
 | [],acc=>AG _
 | p :: ps,acc=>by
  have h1:=ZF ps (ZJ acc p.1 p.2)
  have h2:=j6 acc p.1 p.2
  show (putAllT (ZJ acc p.1 p.2) ps).length<=_
  rw[Az];omega
section
variable {X:Cx}
def tDictPT (ta:TA):TE:=fun σ H Q=>ta σ H fun vs H1=>∃ p xs ps,vs=[.ref p]/\H1 p=some (.lst xs)/\WJ H1 xs ps/\∀ D,H1 D=none->Q (.ref D) (upd H1 D (.dT (putAllT [] ps)))
theorem xq {k:Nat} (hr:jY k X.A) {a:Expr} {ta:TA} {p pos:Pos} (hg:Gl X "dict") (hm:X.mg "dict" = none) (ha:PA X [a] ta) (hs:starEach [a] X.env=[(false,eval a X.env)]:=by rfl) (hc:X.calm=true:=by rfl) :
  PE X (.Call (.Name "dict" p) [a] [] pos) (tDictPT ta):=by
 intro pins s σ H Q I h
 have hu:X.A.units+64 < cLine:=hr.units
 refine Call_ (ZC I hg hm WE (BG (thn (ha pos pins s σ H _ I h) fun us s1 ⟨vs,H1,I1,r1,q1⟩=>?_) hs rfl))
 obtain⟨p1,xs,ps,e,hq,hps,q⟩:=q1
 subst e
 obtain⟨u1,rfl,r2⟩:=vals1 r1
 cases r2
 obtain⟨hz,its,n,rv,eo⟩:=(show qd X.prog X.w H1 s1.heap p1 (.lst xs) from I1.hok p1 _ hq)
 obtain⟨rs,rk,hpa⟩:=prsT_at I1.hok hps rv
 have a1:ps.length=rs.length:=AQ rk
 have a2:=AQ hps
 have l1:rs.length=its.toArray.size:=by
  have a3:=rv.length
  simp;omega
 refine Qh (ps:=rs) (I1.ok.hd hc) (by omega) eo rfl rfl rfl l1 (by omega) (fun j p v a b=>hpa j p v a (by simpa using b)) fun h' tk hd' kp=>?_
 have hb:(s1.heap.objs.size == sysModules)=false:=beq_eq_false_iff_ne.mpr (Af (AU I1.big))
 have hl:(putAllT [] ps).length<=sizeLine:=by
  have:=ZF ps []
  simp at this;omega
 have Hn:H1 s1.heap.objs.size=none:=I1.hok.fresh (AG _)
 obtain⟨od,es,ep,f1,f2,f3,f4,_,f6⟩:=hd'
 exact⟨.ref s1.heap.objs.size,_,I1.laid (a:=s1.heap.objs.size) (o:=.dT (putAllT [] ps)) (t':=tk) kp (AG _) ⟨hl,hb,_,(put_allT rk .nil).keeps fun b ys e=>by rw[zx (zE e Hn)];exact e,od,es,ep,f1,f2,f3,f4,f6⟩,rfl,q _ Hn⟩
theorem hu1 {k:Nat} {A:Around} (hr:jY k A):A.units+1 < cLine:=by
 have:A.units+64 < cLine:=hr.units
 omega
def rTNotIn:R2:=fun y x H Q=>∃ a b kvs k,x=.ref a/\y=.ref b/\H a=some (.dT kvs)/\H b=some (.tup (k.map kV))/\Q (.bl (!(qY kvs k).isSome)) H
theorem QP {j:Nat} (hr:jY j X.A):OpR X (compareOp .NotIn) rTNotIn:=by
 intro pins s σ H x y v u Q I rx ry h
 obtain⟨a,b,kvs,k,rfl,rfl,ha,hb,q⟩:=h
 have hu:X.A.units+64 < cLine:=hr.units
 obtain rfl:u=Value.ref a:=ry
 exact xb (by omega) I (WC.t ha hb) rx fun s' I'=>⟨.bl _,H,I',rfl,q⟩
theorem op_or2 {f:Value->Value->Sem Value} {r1 r2:R2} (h1:OpR X f r1) (h2:OpR X f r2):OpR X f (fun x y H Q=>r1 x y H Q\/r2 x y H Q):=by
 intro pins s σ H x y v u Q I rx ry h
 rcases h with h | h
 ·exact h1 pins s σ H x y v u Q I rx ry h
 ·exact h2 pins s σ H x y v u Q I rx ry h
end
open PySem
section
variable {prog:Program} {w:World} {K:Type} [DecidableEq K] {knd:KeyKind prog w K} {A:Around} {E:Value->Shared->Prop} {s:Shared}
end
section
variable {prog:Program} {w:World} {A:Around} {E:Value->Shared->Prop} {s:Shared}
end
section
variable {prog:Program} {w:World} {A:Around} {E:Value->Shared->Prop} {s:Shared}
end
section
variable {prog:Program} {w:World} {A:Around} {E:Value->Shared->Prop} {s:Shared} {a I:Addr} {es:Array (Int × Value)} {ep:Nat} {t:SetTable}
end
open PySem PySem.Spec PyProof.Rows PySem.W
section
variable {prog:Program} {w:World} {A:Around} {E:Value->Shared->Prop} {s:Shared} {a:Addr} {es:Array (Int × Value)} {ep:Nat} {t:SetTable}
end
section
variable {X:Cx}
end
section
variable {X:Cx}
theorem Yf {α β:Type} {R:α->β->Prop} {as:List α} {bs:List β} (h:Paired R as bs):∀ {i:Nat} {a:α},as[i]? = some a->∃ b,bs[i]? = some b/\R a b:=by
 induction h with
 | nil=>intro i a e;simp at e
 | cons r _ ih=>
  intro i a e
  cases i with
  | zero=>
   simp at e
   subst e
   exact⟨_,rfl,r⟩
  | succ i=>
   obtain⟨b,e1,e2⟩:=ih (i:=i) (by simpa using e)
   exact⟨b,by simpa using e1,e2⟩
end
section
variable {prog:Program} {w:World} {A:Around} {R:Result->Shared->Prop}
end
section
variable {X:Cx}
end
section
variable {X:Cx}
end
end L2
namespace L4
open PySem L2
-- residuation
namespace Sy
end Sy
def Ltr (x:Str):Prop:=x.length=1/\Small x
open PySem L2
theorem WJ.tk {H H':Hp} (s:Tk H H') {xs:List V} {ps:List (List Key×V)} (h:WJ H xs ps):WJ H' xs ps:=by
 unfold WJ at h ⊢
 induction h with
 | nil=>exact .nil
 | cons r _ ih=>
  obtain⟨b,kb,e,hb,hk⟩:=r
  exact .cons ⟨b,kb,e,s _ _ hb,s _ _ hk⟩ ih
theorem WJ.snoc {H:Hp} {xs:List V} {ps:List (List Key×V)} {p:List Key×V} {b kb:Addr} (h:WJ H xs ps) (hb:H b=some (.tup [.ref kb,p.2])) (hk:H kb=some (.tup (p.1.map kV))):WJ H (xs++[.ref b]) (ps++[p]):=by
 unfold WJ at h ⊢
 induction h with
 | nil=>exact .cons ⟨b,kb,rfl,hb,hk⟩ .nil
 | cons r _ ih=>exact .cons r ih
theorem Jt:∀ (ps acc:List (List Key×V)) (k:List Key),k ∉ ps.map Prod.fst->qY (putAllT acc ps) k=qY acc k
 | [],acc,k,_=>rfl
 | p :: ps,acc,k,h=>by
  rw[Ai,Al,not_or] at h
  show qY (putAllT (ZJ acc p.1 p.2) ps) k=_
  rw[Jt ps _ k h.2,Qp,if_neg h.1]
theorem xt:∀ (ps acc:List (List Key×V)) (p:List Key×V),(ps.map Prod.fst).Nodup->p ∈ ps->qY (putAllT acc ps) p.1=some p.2
 | [],acc,p,_,h=>by cases h
 | z :: ps,acc,p,hn,h=>by
  rw[Ai,Bl] at hn
  show qY (putAllT (ZJ acc z.1 z.2) ps) p.1=_
  rcases Al.mp h with rfl | h
  ·rw[Jt ps _ _ hn.1,Qp,if_pos rfl]
  ·exact xt ps _ p hn.2 h
end L4
namespace Tn
end Tn
namespace L2
open PySem PySem.Spec PyProof.Rows
structure jQ (N:List Str) (sc:Scope) (N':List Str) (ix:List (Option Nat)) (scope:Scope) (y:Str):Prop where
 kind:scope.kind=.function
 one:∀ b cs,cellsFrom b scope.names cs=(y,b) :: cs
 push:∀ h,pushCells h scope.names=h.push { cls:=.type "cell",data:=.cell none }
 yk:scope.names.lookup y=some .cell
 oth:∀ z ∈ scope.names,z.2=.cell->z.1=y
 locs:∀ y ∈ scope.names,y.2=.local->scope.names.lookup y.1=some .local
 frees:∀ y ∈ scope.names,y.2=.free->(sc.names.lookup y.1=some .cell\/sc.names.lookup y.1=some .free)
 nd:N'.Nodup
 len:ix.length=N'.length
 cap:(ix.zip N').all (wA N scope)=true
def qC (X:Cx) (N':List Str) (scope:Scope) (y:Str) (C:Addr) (fp:List Addr) (s₀:Shared) (H₀:Hp):Cx where
 prog:=X.prog
 w:=X.w
 K:=X.K
 mg:=X.mg
 base:=X.base
 A:=X.A
 N:=N'
 s₀:=s₀
 H₀:=H₀
 env:=compEnvC scope ((y,C+1) :: Zn X.env scope) C X.env
 outer:=X.stack
 stack:=X.stack
 ex:=fp
 fn:=fun x=>x == y
 calm:=X.calm
 pn:=[]
 xe:=NoX
theorem newEnv1 {M:Model} {A:Around} {E:Value->Shared->Prop} {s:Shared} {scope:Scope} {globals:Addr} {caps:List (Str×Addr)} {qual:Str} {env:Env} {y:Str} {Q:Env->Shared->Prop}
  (one:∀ b cs,cellsFrom b scope.names cs=(y,b) :: cs) (push:∀ h,pushCells h scope.names=h.push { cls:=.type "cell",data:=.cell none })
  (h:Q { scope,locals:=s.heap.objs.size,globals,cells:=(y,s.heap.objs.size+1) :: caps,qual,func:=none,code:=env.code,frame:=env.frame,builtins:=env.builtins } { s with heap:=(s.heap.push { cls:=.type "dict",data:=.dict #[] }).push { cls:=.type "cell",data:=.cell none } }) :
  wpAny M A (newFunctionEnv scope globals caps [] qual none .none (some env)) Q E s:=by
 simp only[newFunctionEnv,Option.isSome_some,if_true]
 refine AA (wpAny_alloc ?_)
 refine AA (wpAny_layCells _ (fun name kind cells=>by cases hkc:kind == NameKind.cell <;> simp[hkc]) _ _ _ _ ?_)
 rw[one,push,show ({ s with heap:=s.heap.push { cls:=.type "dict",data:=.dict #[] } }:Shared).heap.objs.size=s.heap.objs.size+1 from CK ..]
 refine AA ?_
 rw[List.forIn_nil]
 exact AF (AF h)
section
variable {X:Cx} {N':List Str} {ix:List (Option Nat)} {scope:Scope} {y:Str} {pins:List (Addr × Obj)} {σ:St} {H:Hp} {s:Shared} {fp:List Addr}
theorem jQ.has (S:jQ X.N X.env.scope N' ix scope y) (ok:X.Ok):∀ y ∈ scope.names,y.2=.free->∃ c,X.env.cells.lookup y.1=some c:=fun y hy hk=>ok.has y.1 (S.frees y hy hk)
theorem jQ.sub (S:jQ X.N X.env.scope N' ix scope y) (ok:X.Ok):∀ x c,(Zn X.env scope).lookup x=some c->X.env.cells.lookup x=some c:=
 Zo scope.names [] (S.has ok) fun x c e=>by simp at e
theorem jQ.frK (S : jQ X.N X.env.scope N' ix scope y) {x : Str} (h : (relabel scope X.env).names.lookup x = some .cell \/ (relabel scope X.env).names.lookup x = some .free) : x = y \/ scope.names.lookup x = some .free := by
 rw [qr] at h
 cases e:scope.names.lookup x with
 | none=>rw[e] at h;simp at h
 | some k=>
  rw[e] at h
  cases k with
  | free=>exact .inr rfl
  | cell=>exact .inl (S.oth _ (A7 e) rfl)
  | «local»=>simp[yX] at h
  | globalExplicit=>simp[yX] at h
  | globalImplicit=>simp[yX] at h
theorem lk1 {y x:Str} {b c:Addr} {cs:List (Str×Addr)} (h:((y,b) :: cs).lookup x=some c):(x=y/\c=b)\/(x ≠ y/\cs.lookup x=some c):=by
 rw[CF] at h
 cases e:x == y with
 | true=>
  rw[e] at h
  exact .inl ⟨eq_of_beq e,(AH h).symm⟩
 | false=>
  rw[e] at h
  exact .inr ⟨fun z=>by rw[z] at e;simp at e,h⟩
theorem lk2 {y x:Str} {b:Addr} {cs:List (Str×Addr)} (h:x ≠ y):((y,b) :: cs).lookup x=cs.lookup x:=by
 rw[CF]
 have:(x == y)=false:=by simpa using h
 rw[this]
theorem lk0 {y:Str} {b:Addr} {cs:List (Str×Addr)}:((y,b) :: cs).lookup y=some b:=by
 rw[CF]
 simp
theorem WK {h1:Heap} {m:Str->Option Value} {tk:Nat} (S:jQ X.N X.env.scope N' ix scope y) (I:Inv X pins σ H s) (hf:∀ b ∈ fp,J7 X pins H b) (hlt:∀ b ∈ fp,b < s.heap.objs.size)
  (ns:h1.Ns s.heap.objs.size m) (hc1:h1.IsCell (s.heap.objs.size+1) none) (kp:∀ b o,s.heap.get? b=some o->h1.get? b=some o) :
  Inv (qC X N' scope y s.heap.objs.size fp s H) [] (yY ix σ) H { s with heap:=h1,toks:=tk }:=by
 have sub:=S.sub I.ok
 have cellS:∀ x c,(Zn X.env scope).lookup x=some c->c < s.heap.objs.size:=fun x c e=>by
  obtain⟨v,q⟩:=I.cell x c (sub x c e)
  exact q.lt
 refine⟨⟨I.ok.mod,S.kind,I.ok.glob,I.ok.blt,AG _,fun x z c h1 h2=>?inj,fun x hx=>?_,fun x c z e=>?_,I.ok.hd,I.ok.frames,.inl rfl,fun b hb=>⟨?_,fun x c e=>?_⟩,I.bs,Aq I.ok.bsz I.sz,fun b o e hb=>?_,fun b hb z=>?_,I.stack,I.stkFree⟩,
  rfl,I.bare,Un.kept kp,⟨m,ns,fun i x v h1 h2 h3=>?_⟩,fun x c e=>?_,I.hok.fresh (AG _),fun x c e=>?frc,fun p hp=>absurd (show p ∈ ([]:List (Addr×Obj)) from hp) (by simp),I.hok.kept kp,?_⟩
 case inj=>
  have h1':((y,s.heap.objs.size+1) :: Zn X.env scope).lookup x=some c:=h1
  have h2':((y,s.heap.objs.size+1) :: Zn X.env scope).lookup z=some c:=h2
  rcases lk1 h1' with ⟨e1,e2⟩ | ⟨e1,e2⟩ <;> rcases lk1 h2' with ⟨f1,f2⟩ | ⟨f1,f2⟩
  ·rw[e1,f1]
  ·have:=cellS z c f2
   exact absurd this (by rw[e2];exact Df.mpr (CH _))
  ·have:=cellS x c e2
   exact absurd this (by rw[f2];exact Df.mpr (CH _))
  ·exact I.ok.inj x z c (sub x c e2) (sub z c f2)
 case frc=>
  have e':((y,s.heap.objs.size+1) :: Zn X.env scope).lookup x=some c:=e
  rcases lk1 e' with ⟨_,e2⟩ | ⟨_,e2⟩
  ·rw[e2]
   exact I.hok.fresh (CH _)
  ·exact I.freeC x c (sub x c e2)
 ·show ∃ c,((y,s.heap.objs.size+1) :: Zn X.env scope).lookup x=some c
  by_cases e:x=y
  ·rw[e]
   exact⟨_,lk0⟩
  ·rw[lk2 e]
   rcases S.frK hx with h | h
   ·exact absurd h e
   ·exact je x scope.names [] (.inl (A7 h))
 ·have e':((y,s.heap.objs.size+1) :: Zn X.env scope).lookup x=some c:=e
  rcases lk1 e' with ⟨_,e2⟩ | ⟨n,_⟩
  ·rw[e2]
   exact CH _
  ·exact absurd (eq_of_beq (show (x == y)=true from z)) n
 ·exact AU (hlt b hb)
 ·have e':((y,s.heap.objs.size+1) :: Zn X.env scope).lookup x=some c:=e
  rcases lk1 e' with ⟨_,e2⟩ | ⟨_,e2⟩
  ·have:=hlt b hb
   exact fun z=>absurd this (by rw[<- z,e2];exact Df.mpr (CH _))
  ·exact (hf b hb).2.2.2.2.1 x c (sub x c e2)
 ·rcases (hf b hb).2.2.2.1 with z | z
  ·exact I.ok.noex b o e z
  ·exact absurd (AS (AL e) (Aq I.ok.bsz z)) (Ax _)
 ·rcases Al.mp (I.stkSub b z) with e | e
  ·exact (hf b hb).2.1 e
  ·exact (hf b hb).2.2.1 e
 ·have hi:i < ix.length:=by
   have:=(AE.mp h1).1
   rw[S.len];exact this
  have e1:ix[i]? = some ix[i]:=AD hi
  have h2':(yY ix σ)[i]? = some (some v):=h2
  rw[yY,AR,e1] at h2'
  have h2'':(ix[i].bind fun j=>(σ[j]?).join)=some v:=AH h2'
  cases ej:ix[i] with
  | none=>rw[ej] at h2'';cases h2''
  | some j=>
   rw[ej] at h2''
   have h2j:(σ[j]?).join=some v:=h2''
   have hz:(ix[i],x) ∈ ix.zip N':=by
    have ez:(ix.zip N')[i]? = some (ix[i],x):=by rw[DS];exact⟨e1,h1⟩
    exact AN ez
   have cq:=Bf.mp S.cap _ hz
   have cq':(decide (X.N[j]? = some x) && decide (scope.names.lookup x=some .free))=true:=by
    unfold wA at cq
    simp only[ej] at cq
    exact cq
   rw[CG] at cq'
   have c1:=BE cq'.1
   have c2:=BE cq'.2
   have kx:X.env.scope.names.lookup x=some .cell\/X.env.scope.names.lookup x=some .free:=S.frees (x,.free) (A7 c2) rfl
   have hs:σ[j]? = some (some v):=by
    cases q:σ[j]? with
    | none=>rw[q] at h2j;cases h2j
    | some o=>rw[q] at h2j;have:o=some v:=h2j;rw[this]
   obtain⟨m0,hn0,hl0⟩:=I.loc
   obtain⟨u,ru,lk⟩:=hl0 j x v c1 hs (kx.elim (fun z=>.inr (.inl z)) fun z=>.inr (.inr z))
   refine⟨u,ru,.inr ⟨?_,?_⟩⟩
   ·show (relabel scope X.env).names.lookup x = some .cell \/ (relabel scope X.env).names.lookup x = some .free
    rw [qr, c2]
    simp only[Option.map_some,yX]
    split
    ·exact .inl rfl
    ·exact .inr rfl
   ·rcases lk with ⟨k,_⟩ | ⟨_,c,ec,hc⟩
    ·have k':X.env.scope.names.lookup x=some .local:=k
     rw[k'] at kx
     rcases kx with z | z <;> cases z
    ·obtain⟨c',ec'⟩:=je (env:=X.env) x scope.names [] (.inl (A7 c2))
     have:=sub x c' ec'
     rw[ec] at this;cases this
     have nxy:x ≠ y:=fun z=>by
      rw[z,S.yk] at c2
      cases c2
     refine⟨c,?_,hc.keeps kp⟩
     show ((y,s.heap.objs.size+1) :: Zn X.env scope).lookup x=some c
     rw[lk2 nxy]
     exact ec'
 ·have e':((y,s.heap.objs.size+1) :: Zn X.env scope).lookup x=some c:=e
  rcases lk1 e' with ⟨_,e2⟩ | ⟨_,e2⟩
  ·rw[e2]
   exact⟨none,hc1⟩
  ·obtain⟨v,q⟩:=I.cell x c (sub x c e2)
   exact⟨v,q.keeps kp⟩
 ·show (yY ix σ).length=N'.length
  rw[yY,AB,S.len]
theorem WL {elt tg iter:Expr} {ifs:List Expr} {pos:Pos} {g:TG} {tt:TT} {te:TE} {Q:VK} {Z:Value->Addr->Result->Shared->Prop} {it:Addr} {tn:Nat->Heap->Prop} {J:It}
  (S:jQ X.N X.env.scope N' ix scope y) (hc:X.calm=true)
  (hg:∀ C fp s₀ H₀,PG (qC X N' scope y C fp s₀ H₀) tg g) (ht:∀ C fp s₀ H₀,PF (qC X N' scope y C fp s₀ H₀) ifs tt) (he:∀ C fp s₀ H₀,PE (qC X N' scope y C fp s₀ H₀) elt te)
  (I:Inv X pins σ H s) (T:Turn X.prog X.w X.K tg J fp it tn) (st:tn 0 s.heap) (hf:∀ b ∈ fp,J7 X pins H b)
  (h:∀ D,H D=none->∃ W:Nat->Nat->St->Hp->Prop,(∃ m,W 0 m (yY ix σ) (upd H D (.lst [])))/\∀ i m σ' H',W i m σ' H' ->
   (J.stop i H'/\Q (.ref D) H')\/(J.go i H'/\∀ x H2,J.yld i H' x H2->g x σ' H2 fun σ2 H3=>tt σ2 H3 fun b H4=>
    if b=true then te σ2 H4 fun v H5=>∃ xs,H5 D=some (.lst xs)/\xs.length < sizeLine/\∃ m',m' < m/\W (i+1) m' σ2 (upd H5 D (.lst (xs++[v]))) else ∃ m',m' < m/\W (i+1) m' σ2 H4))
  (hZ:∀ D C H' s' m,Inv X pins σ H' s'->s'.heap.Ns C m->H' C=none->s.heap.objs.size<=C->Q (.ref D) H'->Z (.ref D) C (.ok .next) s') :
  wpAny (model X.prog X.w) X.A (newList []) (fun acc s3=>wpAny (model X.prog X.w) X.A (newFunctionEnv scope X.env.globals (Zn X.env scope) [] X.env.qual none .none (some X.env)) (fun cenv s4=>
   codeAny (model X.prog X.w) X.A (.compStart (.ListComp elt [⟨tg, iter, ifs, 0⟩] scope pos) 0 (.ref it) acc { cenv with scope := relabel scope X.env }) (Z acc cenv.locals) s4) X.xe s3) X.xe s := by
 refine Au (newEnv1 S.one S.push ?_)
 have I3:Inv X pins σ (upd H s.heap.objs.size (.lst [])) { s with heap:=s.heap.push { cls:=.type "list",data:=.seq ([]:List Value).toArray },toks:=s.toks }:=I.lnew (ys:=[]) (its:=[]) .nil (A6 _)
 generalize hs3:({ s with heap:=s.heap.push { cls:=.type "list",data:=.seq ([]:List Value).toArray } }:Shared)=s3
 have I3:Inv X pins σ (upd H s.heap.objs.size (.lst [])) s3:=by rw[<- hs3];exact I3
 have hsz:s3.heap.objs.size=s.heap.objs.size+1:=by rw[<- hs3];exact CK _ _
 have st3:tn 0 s3.heap:=by
  rw[<- hs3]
  exact T.keep _ _ _ st fun b _ o e=>AC _ e
 have blw:∀ b ∈ fp,b < s.heap.objs.size:=fun b hb=>by
  obtain⟨o,e,_⟩:=T.obj _ _ st b hb
  exact AL e
 have hf3:∀ b ∈ fp,J7 X pins (upd H s.heap.objs.size (.lst [])) b:=fun b hb=>⟨by rw[zx (AU (blw b hb))];exact (hf b hb).1,(hf b hb).2⟩
 obtain⟨W,⟨m0,w0⟩,turn⟩:=h s.heap.objs.size I.fresh
 obtain⟨h1,eh1⟩:∃ h1,h1=(s3.heap.push { cls:=.type "dict",data:=.dict #[] }).push { cls:=.type "cell",data:=.cell none }:=⟨_,rfl⟩
 have kp:∀ b o,s3.heap.get? b=some o->h1.get? b=some o:=fun b o e=>by rw[eh1];exact AC _ (AC _ e)
 have ns1:h1.Ns s3.heap.objs.size fun _=>none:=by
  rw[eh1]
  exact (Heap.Ns.new s3.heap _).push _
 have hc1:h1.IsCell (s3.heap.objs.size+1) none:=by
  rw[eh1]
  refine⟨{ cls:=.type "cell",data:=.cell none },?_,rfl⟩
  have:((s3.heap.push { cls:=.type "dict",data:=.dict #[] }).push { cls:=.type "cell",data:=.cell none }).get? (s3.heap.push { cls:=.type "dict",data:=.dict #[] }).objs.size=some { cls:=.type "cell",data:=.cell none }:=AK _ rfl
  rwa [CK] at this
 rw[<- eh1]
 have J0:=WK (tk:=s3.toks) S I3 hf3 (fun b hb=>by rw[hsz];exact B9 (blw b hb)) ns1 hc1 kp
 have st4:tn 0 h1:=T.keep _ _ _ st3 fun b _ o e=>kp b o e
 have stat:∀ {H':Hp} {pl:List (Addr×Obj)},(∀ b ∈ fp,H' b=none)->(∀ b ∈ fp,∀ p ∈ pl,p.1 ≠ b)->∀ b ∈ fp,J7 (qC X N' scope y s3.heap.objs.size fp s3 (upd H s.heap.objs.size (.lst []))) pl H' b:=fun hn hp b hb=>
  ⟨hn b hb,(J0.ok.exf b hb).1,J0.ok.exfs b hb,.inl hb,(J0.ok.exf b hb).2,fun p q=>hp b hb p q⟩
 have loop:codeAny (model X.prog X.w) X.A (.compLoop (.ListComp elt [⟨tg,iter,ifs,0⟩] scope pos) 0 (.ref it) (.ref s.heap.objs.size) (qC X N' scope y s3.heap.objs.size fp s3 (upd H s.heap.objs.size (.lst []))).env) (Z (.ref s.heap.objs.size) s3.heap.objs.size)
   { s3 with heap:=h1,toks:=s3.toks }:=by
  refine ZT (fun n s'=>∃ i σ' H',Inv (qC X N' scope y s3.heap.objs.size fp s3 (upd H s.heap.objs.size (.lst []))) [] σ' H' s'/\tn i s'.heap/\(∀ b ∈ fp,H' b=none)/\W i n σ' H') ?_ m0
   ⟨0,_,_,J0,st4,fun b hb=>(hf3 b hb).1,w0⟩
  rintro n s5 ⟨i,σ5,H5,I5,st5,fr5,w5⟩
  rcases turn i n σ5 H5 w5 with ⟨stop,q⟩ | ⟨go,step⟩
  ·refine thn (T.done (qC X N' scope y s3.heap.objs.size fp s3 (upd H s.heap.objs.size (.lst []))) rfl rfl rfl hc i [] s5 σ5 H5 NoX I5 (stat (pl:=[]) fr5 (fun _ _ p hp=>absurd hp (by simp))) st5 stop) fun r s6 ⟨hr,I6⟩=>?_
   subst hr
   have I7:Inv X pins σ H5 s6:=I3.call' (ch:=fp) I6.os I6.base I6.hok I6.bare fun b hb=>⟨(hf3 b hb).2.2.2.1,(hf3 b hb).2.1,(hf3 b hb).2.2.2.2.1,(hf3 b hb).2.2.2.2.2⟩
   obtain⟨m6,n6,_⟩:=I6.loc
   exact hZ _ _ H5 s6 m6 I7 n6 I6.free (by rw[hsz];exact CH _) q
  ·refine thn (T.item (qC X N' scope y s3.heap.objs.size fp s3 (upd H s.heap.objs.size (.lst []))) rfl rfl rfl hc i [] s5 σ5 H5 NoX I5 (stat (pl:=[]) fr5 (fun _ _ p hp=>absurd hp (by simp))) st5 go) fun r s6 ⟨u,hr,h6⟩=>?_
   subst hr
   refine thn h6 fun _ s7 ⟨x,H7,I7,r7,y7,st7,fr7⟩=>?_
   have I7':=I7.pinned (stat (pl:=[]) fr7 (fun _ _ p hp=>absurd hp (by simp))) (T.obj _ _ st7)
   refine thn (hg _ _ _ _ _ s7 σ5 H7 x u _ I7' r7 (step x H7 y7)) fun _ s8 ⟨σ8,H8,I8,q8⟩=>?_
   refine thn (ht _ _ _ _ _ s8 σ8 H8 _ I8 q8) fun b s9 ⟨H9,I9,q9⟩=>?_
   have again:∀ {σ':St} {H':Hp} {s':Shared} {m':Nat},Inv (qC X N' scope y s3.heap.objs.size fp s3 (upd H s.heap.objs.size (.lst []))) ([]++Jk fp s7.heap) σ' H' s'->m' < n->W (i+1) m' σ' H' ->
     ∃ m,m < n/\∃ i σ' H',Inv (qC X N' scope y s3.heap.objs.size fp s3 (upd H s.heap.objs.size (.lst []))) [] σ' H' s'/\tn i s'.heap/\(∀ b ∈ fp,H' b=none)/\W i m σ' H':=fun {σ' H' s' m'} I' hm w'=>by
    refine⟨m',hm,i+1,σ',H',I'.unpinned,T.keep _ _ _ st7 fun b hb o e=>(I'.pin (b,o) (Ac _ (Ac _ (jz hb e)))).1,fun b hb=>?_,w'⟩
    obtain⟨o,e,d⟩:=T.obj _ _ st7 b hb
    exact (I'.pin (b,o) (Ac _ (Ac _ (jz hb e)))).2.1
   cases b with
   | false=>
    obtain⟨m',hm,w'⟩:=(show ∃ m',m' < n/\W (i+1) m' σ8 H9 from q9)
    exact again I9 hm w'
   | true=>
    refine thn (he _ _ _ _ _ s9 σ8 H9 _ I9 q9) fun v s10 ⟨y,H10,I10,r10,q10⟩=>?_
    obtain⟨xs,hx,hl,m',hm,w'⟩:=q10
    refine thn (qG _ s10 σ8 H10 (.ref s.heap.objs.size) [y] (.ref s.heap.objs.size) [v] (fun _ H'=>W (i+1) m' σ8 H') I10 rfl (.cons r10 .nil) ⟨_,xs,y,rfl,rfl,hx,hl,w'⟩) fun _ s11 ⟨_,H11,I11,_,q11⟩=>?_
    exact again I11 hm q11
 exact codeAny_compStart_list loop (T.self _ _ _ _ _ st4 loop)
end
open PySem PySem.Spec PyProof.Rows PySem.W
def EAt (h:Heap) (d:Addr) (es:Array DictEntry) (ep:Nat):Prop:=∃ o,h.get? d=some o/\o.ExactDict/\o.data=.dict es ep
theorem EAt.keep {h h':Heap} {d:Addr} {es:Array DictEntry} {ep:Nat} (x:EAt h d es ep) (k:∀ o,h.get? d=some o->h'.get? d=some o):EAt h' d es ep:=let ⟨o,ho,r⟩:=x;⟨o,k o ho,r⟩
theorem EAt.ty {s:Shared} {d:Addr} {es:Array DictEntry} {ep:Nat} (x:EAt s.heap d es ep):s.TypeIs (.ref d) "dict":=let ⟨o,ho,hc,_⟩:=x;⟨o,ho,hc.1⟩
theorem EAt.lt {h:Heap} {d:Addr} {es:Array DictEntry} {ep:Nat} (x:EAt h d es ep):d < h.objs.size:=let ⟨_,ho,_⟩:=x;AL ho
section
variable {prog:Program} {w:World} {A:Around} {E:Value->Shared->Prop} {s:Shared} {d it:Addr} {es:Array DictEntry} {ep i:Nat}
theorem iter_e {Q:Value->Shared->Prop} (hd:(d == sysModules)=false) (hm:EAt s.heap d es ep)
  (hQ:Q (.ref s.heap.objs.size) { s with heap:=s.heap.push { cls:=.type "dict_keyiterator",data:=.fields #[.ref d,.int 0 0,.int es.size 0,.int ep 0] } }) :
  wpAny (model prog w) A (pyIter (.ref d)) Q E s:=by
 have hT:=hm.ty
 obtain⟨o,ho,hc,hdat⟩:=id hm
 refine Ej hT F.slot_dict_iter (A1 F.slot_dict_iter hT F.entry_dict_iter ?_ (F.args_dict_iter_1 _))
 unfold Builtin.«dict.__iter__»
 refine AA ?_
 unfold Builtin.Dict.dictSlotNone
 refine AA (CA hT (AF ?_))
 show wpAny _ _ (Builtin.Dict.showsAll d >>= _) _ _ s
 unfold Builtin.Dict.showsAll
 rw[if_neg (by rw[hd];exact AX)]
 refine AA (AF (AA (CD ho hdat (AA (Cy ho hdat ?_)))))
 exact AA (Au (AF ⟨_,rfl, "dict_keyiterator",_,⟨_,AK _ rfl,rfl⟩,B3.lookup,hQ⟩))
theorem next_e {Q:Option Value->Shared->Prop} (hit:s.heap.IsKeyIter it d i es.size ep) (hm:EAt s.heap d es ep) (hi:i < es.size)
  (hQ:∀ h',h'.IsKeyIter it d (i+1) es.size ep->Heap.SameBut it s.heap h'->Q (some es[i].key) { s with heap:=h' }) :
  wpAny (model prog w) A (pyNext (.ref it)) Q E s:=by
 obtain⟨o,ho,hc,hd⟩:=id hit
 obtain⟨od,hod,hcd,hdd⟩:=id hm
 unfold pyNext
 refine AA (BQ (wpAny_callSpecial?_slot (name:=Str.ofString "__next__") hit.typeIs B3
  (A1 B3 hit.typeIs F.entry_dict_keyiterator_next ?_ (F.args_dict_keyiterator_next_1 _))))
 refine AA (AF (AA (AA ?_)))
 first | refine AA (CN hit.typeIs (AF ?_)) | refine AA (Cj hit.typeIs (AF ?_))
 refine AA (EQ ho hd ?_)
 simp only[show Builtin.Dict_items.ownsTuple "dict_keyiterator" = false by decide,Bool.false_eq_true,if_false]
 show wpAny _ _ (if (Value.ref d == Value.none)=true then _ else _) _ _ s
 rw[if_neg (show ¬ ((Value.ref d == Value.none)=true) from AX)]
 refine AA (AF (AA (CD hod hdd ?_)))
 rw[if_neg (by simp)]
 refine AA (AF (AA (Cy hod hdd ?_)))
 rw[if_neg (by simp)]
 refine AF ?_
 simp only[show ¬ ((i:Int) < 0) from by omega,if_false,Int.toNat_natCast,Array.getElem?_eq_getElem hi]
 refine AA ?_
 first | refine AA (CN hit.typeIs (AF ?_)) | refine AA (Cj hit.typeIs (AF ?_))
 refine AA (wpAny_isOneOf_keyiter hit.typeIs ?_)
 show wpAny _ _ (setField (.ref it) 1 (rawInt ((i:Int)+1)) >>= _) _ _ s
 refine AA (B6 ho hd (by simp) ?_)
 have hit':(s.heap.update it (Obj.mapFields (·.setIfInBounds 1 (rawInt ((i:Int)+1))))).IsKeyIter it d (i+1) es.size ep:=
  ⟨_,A8 _ ho (CV (Bb hd _)),(Dj ..).trans hc,by rw[Bb hd];simp[rawInt]⟩
 refine AA (A4 ?_)
 refine AA (wpAny_isOneOf_keyiter (s:={ s with heap:=s.heap.update it (Obj.mapFields (·.setIfInBounds 1 (rawInt ((i:Int)+1)))) }) hit'.typeIs ?_)
 show wpAny _ _ (pure es[i].key) _ _ _
 exact AF (AF ⟨_,rfl,AF (hQ _ hit' (B4 ..))⟩)
theorem last_e {Q:Option Value->Shared->Prop} (hh:A.handled=none) (hit:s.heap.IsKeyIter it d es.size es.size ep) (hm:EAt s.heap d es ep)
  (hQ:∀ h',Heap.ExtBut it s.heap h'->Q none { s with heap:=h' }):wpAny (model prog w) A (pyNext (.ref it)) Q E s:=by
 obtain⟨o,ho,hc,hd⟩:=id hit
 obtain⟨od,hod,hcd,hdd⟩:=id hm
 unfold pyNext
 refine AA (BQ (wpAny_callSpecial?_slot (name:=Str.ofString "__next__") hit.typeIs B3
  (A1 B3 hit.typeIs F.entry_dict_keyiterator_next ?_ (F.args_dict_keyiterator_next_1 _))))
 refine AA (AF (AA (AA ?_)))
 first | refine AA (CN hit.typeIs (AF ?_)) | refine AA (Cj hit.typeIs (AF ?_))
 refine AA (EQ ho hd ?_)
 simp only[show Builtin.Dict_items.ownsTuple "dict_keyiterator" = false by decide,Bool.false_eq_true,if_false]
 show wpAny _ _ (if (Value.ref d == Value.none)=true then _ else _) _ _ s
 rw[if_neg (show ¬ ((Value.ref d == Value.none)=true) from AX)]
 refine AA (AF (AA (CD hod hdd ?_)))
 rw[if_neg (by simp)]
 refine AA (AF (AA (Cy hod hdd ?_)))
 rw[if_neg (by simp)]
 refine AF ?_
 simp only[show ¬ ((es.size:Int) < 0) from by omega,if_false,Int.toNat_natCast,Array.getElem?_eq_none (Nat.le_refl es.size)]
 refine AA ?_
 first | refine AA (CN hit.typeIs (AF ?_)) | refine AA (Cj hit.typeIs (AF ?_))
 show wpAny _ _ (setField (.ref it) 0 .none >>= _) _ _ s
 refine AA (B6 ho hd (by simp) ?_)
 show wpAny _ _ (newExc (.type "StopIteration") [] >>= _) _ _ _
 refine AA ?_
 simp only[newExc,newTuple]
 refine AA (Au ?_ (by size_fits))
 refine AA (m:=firstArgMember _ _) (Bh (a:=Value.none) (by first | rfl | (simp only[firstArgMember];rfl)) ?_)
 refine Au ?_ (by size_fits)
 simp only[raiseNew]
 refine AA (Ee ?_)
 rw[show A.in1.handled=none from hh]
 refine AA (AF (wpAny_throw ?_))
 refine AA (Br (T := "StopIteration") (b:=true) ⟨_,AK _ rfl,rfl⟩ ER ?_)
 exact AF (hQ _ (((B4 ..).extBut.push _).push _))
theorem walks_e (hh:A.handled=none) (I:Addr) (hne:d ≠ I):Walks prog w A I [I,d] [I] es.size (fun i v=>∃ e,es[i]? = some e/\v=e.key) (fun i h=>h.IsKeyIter I d i es.size ep/\EAt h d es ep) where
 sub:=fun b hb=>by simp at hb;simp[hb]
 frame:=fun _ _ _ st hk=>⟨st.1.at fun o e=>hk I (by simp) o e,st.2.keep fun o e=>hk d (by simp) o e⟩
 item:=fun i s Q E hi st hQ=>next_e st.1 st.2 hi fun h' hit' hs'=>hQ _ h' s.toks ⟨_,BK hi,rfl⟩ ⟨hit',st.2.keep fun o e=>hs'.extBut d o hne e⟩ fun b o hb e=>hs'.extBut b o (fun h=>hb (by simp[h])) e
 done:=fun s Q E st hQ=>last_e hh st.1 st.2 fun h' he'=>hQ h' s.toks fun b o hb e=>he' b o (fun h=>hb (by simp[h])) e
 self:=fun _ _ _ _ st hQ=>wpAny_pyIter_keyiter st.1 hQ
theorem kdl_e (lo:(d == sysModules)=false):KdlSrc prog w "dict" d d es.size (fun i v=>∃ e,es[i]? = some e/\v=e.key) (fun h=>EAt h d es ep) where
 type:=fun _ hm=>hm.ty
 there:=fun _ hm=>⟨hm.lt,hm.lt⟩
 keep:=fun _ _ hm hk=>hm.keep fun o e=>hk d (.inl rfl) o e
 notList:=by decide
 notTuple:=by decide
 hint:=fun _ _ _ _ hm hq=>kdl_hint_dict hm.ty hq
 iter:=fun _ _ hh hm=>⟨_,_,(fun _ _ hq=>iter_e lo hm hq),walks_e hh _ (AU hm.lt),⟨⟨_,AK _ rfl,rfl,rfl⟩,hm.keep fun o e=>AC _ e⟩⟩
end
section
variable {prog:Program} {w:World} {A:Around} {E:Value->Shared->Prop} {s:Shared}
end
section
variable {X:Cx}
end
section
variable {X:Cx}
end
section
variable {X:Cx}
end
section
variable {prog:Program} {w:World} {A:Around} {E:Value->Shared->Prop} {s:Shared}
end
section
variable {prog:Program} {w:World} {A:Around} {E:Value->Shared->Prop} {s:Shared} {a I:Addr} {es:Array (Int × Value)} {ep:Nat} {t:SetTable}
end
section
variable {prog:Program} {w:World} {A:Around} {E:Value->Shared->Prop} {s:Shared}
section
variable {a I p:Addr} {es:Array (Int × Value)} {ep:Nat} {t:SetTable} {pl:List Nat}
end
end
section
variable {X:Cx}
end
section
variable {X:Cx}
def rKIn:R2:=fun y x H Q=>∃ a kvs k,x=.ref a/\y=kV k/\H a=some (.dK kvs)/\Q (.bl (qY kvs k).isSome) H
theorem op_kIn {j:Nat} (hr:jY j X.A):OpR X (compareOp .In) rKIn:=by
 intro pins s σ H x y v u Q I rx ry h
 obtain⟨a,kvs,k,rfl,rfl,ha,q⟩:=h
 have hu:X.A.units+64 < cLine:=hr.units
 obtain rfl:u=Value.ref a:=ry
 exact d_in (by omega) I (WC.k ha) rx fun s' I'=>⟨.bl _,H,I',rfl,q⟩
theorem xw:qQ X (.builtin "len") (fun xs H Q=>∃ a kvs,xs=[.ref a]/\H a=some (.dK kvs)/\Q (.int (kvs.length:Nat)) H):=by
 intro pins s σ H xs us Q I r h
 obtain⟨a,kvs,rfl,ha,q⟩:=h
 obtain⟨u,rfl,rx⟩:=vals1 r
 cases rx
 exact d_len I (.inl ha) fun t s' I'=>⟨.int _,H,I',⟨_,rfl⟩,q⟩
end
end L2
namespace L4
open PySem L2
namespace Sy
end Sy
end L4
namespace L2
open PySem PySem.Spec PyProof.Rows
section
variable {prog:Program} {w:World} {A:Around} {E:Value->Shared->Prop} {s:Shared}
end
section
variable {X:Cx}
end
end L2
namespace L4
open PySem L2
end L4
namespace L2
open PySem PySem.Spec PyProof.Rows
section
variable {prog:Program} {w:World} {A:Around} {E:Value->Shared->Prop} {s:Shared}
variable {z TI TO i1 i2 t1 t2:Addr} {xs ys:Array Value} {k:Nat} {a0:Addr} {b:Bool}
variable {R:Result->Shared->Prop}
end
section
variable {X:Cx}
end
section
variable {X:Cx}
end
end L2
namespace L4
open PySem L2
end L4
namespace L2
open PySem PySem.Spec PyProof.Rows
section
variable {prog:Program} {w:World} {A:Around} {E:Value->Shared->Prop} {s:Shared}
structure QR (z TI TO i1 i2 t1 t2:Addr) (xs ys:Array Value) (f0:Value) (k1 k2:Nat) (h:Heap):Prop where
 zi:IsZip h z TI TO f0
 ti:IsPair h TI (.ref i1) (.ref i2)
 to:∃ a b,IsPair h TO a b
 a1:h.IsListIter i1 t1 k1
 a2:h.IsTupleIter i2 t2 k2
 b1:h.IsList t1 xs
 b2:h.IsTuple t2 ys
variable {z TI TO i1 i2 t1 t2:Addr} {xs ys:Array Value} {k1 k2:Nat}
theorem xy {x y:Value} {Q:Value->Shared->Prop} (D:Far z TI TO i1 i2 t1 t2) (Z:QR z TI TO i1 i2 t1 t2 xs ys .none k1 k2 s.heap) (hx:xs[k1]? = some x) (hy:ys[k2]? = some y)
  (q:∀ h',QR z TI TO i1 i2 t1 t2 xs ys (rawInt s.heap.objs.size) (k1+1) (k2+1) h'->IsPair h' s.heap.objs.size x y->y4 z TO i1 i2 s.heap h'->Q (.ref s.heap.objs.size) { s with heap:=h' }) :
  wpAny (model prog w) A (Builtin.«zip.__next__» ⟨[.ref z],[]⟩) (fun fin s'=>∃ v,fin=.done (.ret v)/\Q v s') E s:=by
 obtain⟨nd,f1,f2⟩:=D
 simp only[List.nodup_cons,List.mem_cons,List.not_mem_nil,or_false,not_or,List.nodup_nil,and_true,not_false_eq_true] at nd f1 f2
 obtain⟨⟨nzI,nzO,nz1,nz2⟩,⟨nIO,nI1,nI2⟩,⟨nO1,nO2⟩,n12⟩:=nd
 obtain⟨p1z,p1O,p11,p12⟩:=f1
 obtain⟨p2z,p2O,p21,p22⟩:=f2
 obtain⟨zi,ti,⟨a,b,to⟩,a1,a2,b1,b2⟩:=Z
 refine AA (m:=field (.ref z) 2) (A9 zi rfl (x:=.bool false) rfl ?_)
 refine AA (m:=field (.ref z) 3) (A9 zi rfl (x:=.ref TI) rfl (AA (BZ ti rfl ?_)))
 refine AA (m:=Builtin.SmallTypes.ownedTupleIsFree (.ref z)) ?_
 unfold Builtin.SmallTypes.ownedTupleIsFree;refine AA (A9 zi rfl (x:=.none) rfl (AF ?_))
 simp only[if_true];refine AA (Ba (AA (A9 zi rfl (x:=.ref TO) rfl (AA (CP zi (by simp) fun g1 zi1' s1=>?_)))))
 have zi1:IsZip g1 z TI TO .ellipsis:=zi1'
 refine AA ?_
 simp only[List.zipIdx_cons,List.zipIdx_nil,List.forIn_cons,List.forIn_nil]
 refine AA (AA (Ed (AA (m:=Builtin.SmallTypes.nextOf (.ref i1)) ?_)))
 refine wpAny_nextOf_list_item (a1.extBut s1.extBut (Af nz1)) (b1.extBut s1.extBut p1z) hx fun g2 a1' s2=>AF ?_
 have to2:IsPair g2 TO a b:=s2.extBut _ _ nO1 (s1.extBut _ _ (Af nzO) to)
 refine AA (BZ to2 rfl (AA (EN to2 fun g3 to3' s3=>AA (EO (AF ?_)))))
 have to3:IsPair g3 TO x b:=to3'
 refine AA (AA (Ed (AA (m:=Builtin.SmallTypes.nextOf (.ref i2)) ?_)))
 refine Ww (((a2.extBut s1.extBut (Af nz2)).extBut s2.extBut (Af n12)).extBut s3.extBut (Af nO2)) (((b2.extBut s1.extBut p2z).extBut s2.extBut p21).extBut s3.extBut p2O) hy fun g4 a2' s4=>AF ?_
 have to4:IsPair g4 TO x b:=s4.extBut _ _ nO2 to3
 refine AA (BZ to4 rfl (AA (EN to4 fun g5 to5' s5=>AA (EO (AF (AF ?_))))))
 have to5:IsPair g5 TO x y:=to5'
 refine AA (BZ to5 rfl (AA (wpAny_newTuple ?_)))
 have sz:g5.objs.size=s.heap.objs.size:=by rw[s5.1,s4.1,s3.1,s2.1,s1.1]
 have zi5:IsZip g5 z TI TO .ellipsis:=s5.extBut _ _ nzO (s4.extBut _ _ nz2 (s3.extBut _ _ nzO (s2.extBut _ _ nz1 zi1)))
 have k5:∀ c o,c ≠ z->c ≠ TO->c ≠ i1->c ≠ i2->s.heap.get? c=some o->g5.get? c=some o:=fun c o c1 c2 c3 c4 e=>s5.extBut _ _ c2 (s4.extBut _ _ c4 (s3.extBut _ _ c2 (s2.extBut _ _ c3 (s1.extBut _ _ c1 e))))
 have a15:g5.IsListIter i1 t1 (k1+1):=((a1'.extBut s3.extBut (Af nO1)).extBut s4.extBut n12).extBut s5.extBut (Af nO1)
 have a25:g5.IsTupleIter i2 t2 (k2+1):=a2'.extBut s5.extBut (Af nO2)
 refine AA (m:=Builtin.SmallTypes.ownedTupleHandOut (.ref z) (.ref g5.objs.size)) ?_
 unfold Builtin.SmallTypes.ownedTupleHandOut
 have zi6:IsZip (g5.push { cls:=.type "tuple",data:=.seq #[x,y] }) z TI TO .ellipsis:=AC _ zi5
 refine AA (CP zi6 (by simp) fun g7 zi7' s7=>?_)
 have zi7:IsZip g7 z TI TO (rawInt g5.objs.size):=zi7'
 refine CP zi7 (by simp) fun g8 zi8' s8=>?_
 have zi8:IsZip g8 z TI TO (rawInt g5.objs.size):=zi8'
 have up:∀ c o,c ≠ z->g5.get? c=some o->g8.get? c=some o:=fun c o c1 e=>s8.extBut _ _ c1 (s7.extBut _ _ c1 (AC _ e))
 have new:IsPair g8 g5.objs.size x y:=s8.extBut _ _ (BW (AL zi5)) (s7.extBut _ _ (BW (AL zi5)) (AK _ rfl))
 have tp:∀ {c:Addr} {us:Array Value},c ≠ z->c ≠ TO->c ≠ i1->c ≠ i2->s.heap.IsList c us->g8.IsList c us:=fun {c us} c1 c2 c3 c4 ⟨o,e,r⟩=>⟨o,up c o c1 (k5 c o c1 c2 c3 c4 e),r⟩
 have tp2:∀ {c:Addr} {us:Array Value},c ≠ z->c ≠ TO->c ≠ i1->c ≠ i2->s.heap.IsTuple c us->g8.IsTuple c us:=fun {c us} c1 c2 c3 c4 ⟨o,e,r⟩=>⟨o,up c o c1 (k5 c o c1 c2 c3 c4 e),r⟩
 have il:∀ {c u:Addr} {n:Nat},c ≠ z->g5.IsListIter c u n->g8.IsListIter c u n:=fun {c u n} c1 ⟨o,e,r⟩=>⟨o,up c o c1 e,r⟩
 have il2:∀ {c u:Addr} {n:Nat},c ≠ z->g5.IsTupleIter c u n->g8.IsTupleIter c u n:=fun {c u n} c1 ⟨o,e,r⟩=>⟨o,up c o c1 e,r⟩
 refine AF ⟨_,rfl,?_⟩
 have fin:=q g8 ⟨by rw[<- sz];exact zi8,up _ _ (Af nzI) (k5 _ _ (Af nzI) nIO nI1 nI2 ti),⟨x,y,up _ _ (Af nzO) to5⟩,il (Af nz1) a15,il2 (Af nz2) a25,tp p1z p1O p11 p12 b1,tp2 p2z p2O p21 p22 b2⟩ (by rw[<- sz];exact new) fun c o hc e=>by
  simp only[List.mem_cons,List.not_mem_nil,or_false,not_or] at hc
  obtain⟨c1,c2,c3,c4⟩:=hc
  exact up c o c1 (k5 c o c1 c2 c3 c4 e)
 rw[<- sz] at fin
 exact fin
theorem zip_endM {Q:Fin->Shared->Prop} (hh:A.handled=none) (D:Far z TI TO i1 i2 t1 t2) (Z:QR z TI TO i1 i2 t1 t2 xs ys .none k1 k2 s.heap) (hend:xs[k1]? = none\/ys[k2]? = none)
  (q:∀ h' e,y4 z TO i1 i2 s.heap h'->(∃ o,h'.get? e=some o/\o.cls=.type "StopIteration")->E (.ref e) { s with heap:=h' }):wpAny (model prog w) A (Builtin.«zip.__next__» ⟨[.ref z],[]⟩) Q E s:=by
 obtain⟨nd,f1,f2⟩:=D
 simp only[List.nodup_cons,List.mem_cons,List.not_mem_nil,or_false,not_or,List.nodup_nil,and_true,not_false_eq_true] at nd f1 f2
 obtain⟨⟨nzI,nzO,nz1,nz2⟩,⟨nIO,nI1,nI2⟩,⟨nO1,nO2⟩,n12⟩:=nd
 obtain⟨p1z,p1O,p11,p12⟩:=f1
 obtain⟨p2z,p2O,p21,p22⟩:=f2
 obtain⟨zi,ti,⟨a,b,to⟩,a1,a2,b1,b2⟩:=Z
 refine AA (m:=field (.ref z) 2) (A9 zi rfl (x:=.bool false) rfl ?_)
 refine AA (m:=field (.ref z) 3) (A9 zi rfl (x:=.ref TI) rfl (AA (BZ ti rfl ?_)))
 refine AA (m:=Builtin.SmallTypes.ownedTupleIsFree (.ref z)) ?_
 unfold Builtin.SmallTypes.ownedTupleIsFree;refine AA (A9 zi rfl (x:=.none) rfl (AF ?_))
 simp only[if_true];refine AA (Ba (AA (A9 zi rfl (x:=.ref TO) rfl (AA (CP zi (by simp) fun g1 zi1' s1=>?_)))))
 have zi1:IsZip g1 z TI TO .ellipsis:=zi1'
 refine AA ?_
 simp only[List.zipIdx_cons,List.zipIdx_nil,List.forIn_cons,List.forIn_nil]
 refine AA (AA (Ed (AA (m:=Builtin.SmallTypes.nextOf (.ref i1)) ?_)))
 cases hx:xs[k1]? with
 | none=>
  refine wpAny_nextOf_list_end hh (a1.extBut s1.extBut (Af nz1)) (b1.extBut s1.extBut p1z) hx fun g2 e s2 ⟨oe,oe1,oe2⟩=>?_
  have zi2:IsZip g2 z TI TO .ellipsis:=s2 _ _ nz1 zi1
  have ez:e ≠ z:=fun c=>by rw[c,zi2] at oe1;cases oe1;simp at oe2
  refine CP zi2 (by simp) fun g3 _ s3=>q g3 e (fun c o hc e'=>?_) ⟨oe,s3.extBut _ _ ez oe1,oe2⟩
  simp only[List.mem_cons,List.not_mem_nil,or_false,not_or] at hc
  exact s3.extBut _ _ hc.1 (s2 _ _ hc.2.2.1 (s1.extBut _ _ hc.1 e'))
 | some x=>
  have hy:ys[k2]? = none:=hend.elim (fun c=>by rw[hx] at c;cases c) id
  refine wpAny_nextOf_list_item (a1.extBut s1.extBut (Af nz1)) (b1.extBut s1.extBut p1z) hx fun g2 a1' s2=>AF ?_
  have to2:IsPair g2 TO a b:=s2.extBut _ _ nO1 (s1.extBut _ _ (Af nzO) to)
  refine AA (BZ to2 rfl (AA (EN to2 fun g3 to3' s3=>AA (EO (AF ?_)))))
  refine AA (AA (Ed (AA (m:=Builtin.SmallTypes.nextOf (.ref i2)) ?_)))
  refine Wx hh (((a2.extBut s1.extBut (Af nz2)).extBut s2.extBut (Af n12)).extBut s3.extBut (Af nO2)) (((b2.extBut s1.extBut p2z).extBut s2.extBut p21).extBut s3.extBut p2O) hy fun g4 e s4 ⟨oe,oe1,oe2⟩=>?_
  have zi4:IsZip g4 z TI TO .ellipsis:=s4 _ _ nz2 (s3.extBut _ _ nzO (s2.extBut _ _ nz1 zi1))
  have ez:e ≠ z:=fun c=>by rw[c,zi4] at oe1;cases oe1;simp at oe2
  refine CP zi4 (by simp) fun g5 _ s5=>q g5 e (fun c o hc e'=>?_) ⟨oe,s5.extBut _ _ ez oe1,oe2⟩
  simp only[List.mem_cons,List.not_mem_nil,or_false,not_or] at hc
  exact s5.extBut _ _ hc.1 (s4 _ _ hc.2.2.2 (s3.extBut _ _ hc.2.1 (s2.extBut _ _ hc.2.2.1 (s1.extBut _ _ hc.1 e'))))
theorem wN {x y:Value} {Q:Option Value->Shared->Prop} (D:Far z TI TO i1 i2 t1 t2) (Z:QR z TI TO i1 i2 t1 t2 xs ys .none k1 k2 s.heap) (hx:xs[k1]? = some x) (hy:ys[k2]? = some y)
  (q:∀ h',QR z TI TO i1 i2 t1 t2 xs ys (rawInt s.heap.objs.size) (k1+1) (k2+1) h'->IsPair h' s.heap.objs.size x y->y4 z TO i1 i2 s.heap h'->Q (some (.ref s.heap.objs.size)) { s with heap:=h' }):wpAny (model prog w) A (pyNext (.ref z)) Q E s:=by
 have ty:s.TypeIs (.ref z) "zip":=⟨_,Z.zi,rfl⟩
 unfold pyNext
 exact AA (BQ (wpAny_callSpecial?_slot (name:=Str.ofString "__next__") ty C4 (A1 C4 ty PySem.F.entry_zip_next (xy D Z hx hy fun h' u1 u2 u3=>AF (q h' u1 u2 u3)) (PySem.F.args_zip_next_1 _))))
theorem wO {Q:Option Value->Shared->Prop} (hh:A.handled=none) (D:Far z TI TO i1 i2 t1 t2) (Z:QR z TI TO i1 i2 t1 t2 xs ys .none k1 k2 s.heap) (hend:xs[k1]? = none\/ys[k2]? = none)
  (q:∀ h',y4 z TO i1 i2 s.heap h'->Q none { s with heap:=h' }):wpAny (model prog w) A (pyNext (.ref z)) Q E s:=by
 have ty:s.TypeIs (.ref z) "zip":=⟨_,Z.zi,rfl⟩
 unfold pyNext
 refine AA (BQ (wpAny_callSpecial?_slot (name:=Str.ofString "__next__") ty C4 (A1 C4 ty PySem.F.entry_zip_next (zip_endM hh D Z hend fun h' e hk ⟨o,o1,o2⟩=>?_) (PySem.F.args_zip_next_1 _))))
 exact AA (Br (T := "StopIteration") (b:=true) ⟨o,o1,o2⟩ ER (AF (q h' hk)))
def zm1 (h:Heap) (t1:Addr):Heap:=h.push { cls:=.type "list_iterator",data:=.fields #[.ref t1,.int 0 0] }
def zm2 (h:Heap) (t1 t2:Addr):Heap:=(zm1 h t1).push { cls:=.type "tuple_iterator",data:=.fields #[.ref t2,.int 0 0] }
def zm3 (h:Heap) (t1 t2:Addr):Heap:=(zm2 h t1 t2).push { cls:=.type "tuple",data:=.seq #[.ref h.objs.size,.ref (zm1 h t1).objs.size] }
def zm4 (h:Heap) (t1 t2:Addr):Heap:=(zm3 h t1 t2).push { cls:=.type "tuple",data:=.seq #[.none,.none] }
def zm5 (h:Heap) (t1 t2:Addr):Heap:=(zm4 h t1 t2).push { cls:=.type "zip",data:=.fields #[.none,.bool false,.bool false,.ref (zm2 h t1 t2).objs.size,.ref (zm3 h t1 t2).objs.size] }
theorem zip_newM (t1 t2:Addr) (xs ys:Array Value):Meets (Builtin.«zip.__new__» ⟨[.type "zip",.ref t1,.ref t2],[]⟩) (fun _ R s=>s.heap.IsList t1 xs/\s.heap.IsTuple t2 ys/\R (.ok (.ret (.ref (zm4 s.heap t1 t2).objs.size))) { s with heap:=zm5 s.heap t1 t2 }):=
 .of_wp fun prog w A R s h=>by
  obtain⟨hp,g,d,tk,os⟩:=s
  obtain⟨u1,u2,h⟩:=h
  have subz:=PySem.sub_zip
  have T1:Heap.IsList (Shared.heap ⟨hp,g,d,tk,os⟩) t1 xs:=u1
  have T2:Heap.IsTuple (Shared.heap ⟨hp.push { cls:=.type "list_iterator",data:=.fields #[.ref t1,.int 0 0] },g,d,tk,os⟩) t2 ys:=Heap.IsTuple.push u2 _
  wp_walk using DA T1,Ef T2
  exact⟨_,rfl,h⟩
theorem Yg {Q:Value->Shared->Prop} (h1:s.heap.IsList t1 xs) (h2:s.heap.IsTuple t2 ys)
  (q:∀ h' z TI TO i1 i2,Far z TI TO i1 i2 t1 t2->QR z TI TO i1 i2 t1 t2 xs ys .none 0 0 h'->(∀ b ∈ [z,TI,TO,i1,i2],s.heap.objs.size<=b)->(∀ c o,s.heap.get? c=some o->h'.get? c=some o)->Q (.ref z) { s with heap:=h' }) :
  wpAny (model prog w) A (call (.type "zip") [.ref t1,.ref t2]) Q E s:=by
 refine callType_new PySem.F.called_zip (by decide) (PySem.F.typeCall_zip_2 _ _) (PySem.F.newCall_zip_2 _ _) (fun obj=>PySem.F.args_object_init_3 obj _ _) PySem.F.entry_zip_new (zip_newM t1 t2 xs ys) ⟨h1,h2,?_⟩
 have l1:t1 < s.heap.objs.size:=by obtain⟨_,e,_⟩:=h1;exact AL e
 have l2:t2 < s.heap.objs.size:=by obtain⟨_,e,_⟩:=h2;exact AL e
 have z1:(zm1 s.heap t1).objs.size=s.heap.objs.size+1:=CK ..
 have z2:(zm2 s.heap t1 t2).objs.size=s.heap.objs.size+2:=by unfold zm2;rw[Heap.size_push,z1]
 have z3:(zm3 s.heap t1 t2).objs.size=s.heap.objs.size+3:=by unfold zm3;rw[Heap.size_push,z2]
 have z4:(zm4 s.heap t1 t2).objs.size=s.heap.objs.size+4:=by unfold zm4;rw[Heap.size_push,z3]
 have kp:∀ c o,s.heap.get? c=some o->(zm5 s.heap t1 t2).get? c=some o:=fun c o e=>AC _ (AC _ (AC _ (AC _ (AC _ e))))
 have g5:(zm5 s.heap t1 t2).get? (zm4 s.heap t1 t2).objs.size=some _:=AK _ rfl
 have g4:(zm5 s.heap t1 t2).get? (zm3 s.heap t1 t2).objs.size=some _:=AC _ (AK _ rfl)
 have g3:(zm5 s.heap t1 t2).get? (zm2 s.heap t1 t2).objs.size=some _:=AC _ (AC _ (AK _ rfl))
 have g2:(zm5 s.heap t1 t2).get? (zm1 s.heap t1).objs.size=some _:=AC _ (AC _ (AC _ (AK _ rfl)))
 have g1:(zm5 s.heap t1 t2).get? s.heap.objs.size=some _:=AC _ (AC _ (AC _ (AC _ (AK _ rfl))))
 refine⟨⟨_,g5,rfl⟩,q _ _ (zm2 s.heap t1 t2).objs.size (zm3 s.heap t1 t2).objs.size s.heap.objs.size (zm1 s.heap t1).objs.size ⟨?_,?_,?_⟩ ⟨g5,g3,⟨_,_,g4⟩,⟨_,g1,rfl,rfl⟩,⟨_,g2,rfl,rfl⟩,?_,?_⟩ ?_ kp⟩
 ·rw[z1,z2,z3,z4]
  generalize s.heap.objs.size=n
  simp
 ·rw[z1,z3,z4]
  generalize s.heap.objs.size=n at *
  have:∀ a b:Nat,a < b->¬ (a=b):=fun a b h=>AU h
  simp only[List.mem_cons,List.not_mem_nil,or_false,not_or]
  exact⟨this _ _ (AS l1 (BX ..)),this _ _ (AS l1 (BX ..)),this _ _ l1,this _ _ (AS l1 (BX ..))⟩
 ·rw[z1,z3,z4]
  generalize s.heap.objs.size=n at *
  have:∀ a b:Nat,a < b->¬ (a=b):=fun a b h=>AU h
  simp only[List.mem_cons,List.not_mem_nil,or_false,not_or]
  exact⟨this _ _ (AS l2 (BX ..)),this _ _ (AS l2 (BX ..)),this _ _ l2,this _ _ (AS l2 (BX ..))⟩
 ·obtain⟨o,e,r⟩:=h1
  exact⟨o,kp _ _ e,r⟩
 ·obtain⟨o,e,r⟩:=h2
  exact⟨o,kp _ _ e,r⟩
 ·rw[z1,z2,z3,z4]
  generalize s.heap.objs.size=n
  intro b hb
  simp only[List.mem_cons,List.not_mem_nil,or_false] at hb
  rcases hb with rfl | rfl | rfl | rfl | rfl
  ·exact BX ..
  ·exact BX ..
  ·exact BX ..
  ·exact AG _
  ·exact BX ..
end
def ItzM (K : Fs) (p q : Addr) : It :=
  ⟨fun i H => ∃ xs ys x y, SqL K H p xs /\ SqT K H q ys /\ xs[i]? = some x /\ ys[i]? = some y,
   fun i H v H' => ∃ T x y, H T = none /\ v = .ref T /\ H' = upd H T (.tup [x, y]) /\ ∀ xs ys, SqL K H p xs -> SqT K H q ys -> xs[i]? = some x /\ ys[i]? = some y,
   fun i H => ∃ xs ys, SqL K H p xs /\ SqT K H q ys /\ (xs.length <= i \/ ys.length <= i)⟩
structure ZipTnM (z TI TO i1 i2 t1 t2:Addr) (k:Nat) (h:Heap):Prop where
 zi:IsZip h z TI TO .none
 ti:IsPair h TI (.ref i1) (.ref i2)
 to:∃ a b,IsPair h TO a b
 a1:h.IsListIter i1 t1 k
 a2:h.IsTupleIter i2 t2 k
theorem xz {P:Program} {w:World} {K:Fs} {elts:List Expr} {kk:Nat} {pos:Pos} {z TI TO i1 i2 t1 t2:Addr} (D:Far z TI TO i1 i2 t1 t2) :
  Turn P w K (.Tuple elts kk pos) (ItzM K t1 t2) [z,TI,TO,i1,i2] z (fun i h=>ZipTnM z TI TO i1 i2 t1 t2 i h) where
 mem:=by simp
 obj:=fun i h st b hb=>by
  obtain⟨u1,u2,⟨a,c,u3⟩,⟨o4,u4,_,d4⟩,⟨o5,u5,_,d5⟩⟩:=st
  simp only[List.mem_cons,List.not_mem_nil,or_false] at hb
  rcases hb with rfl | rfl | rfl | rfl | rfl
  ·exact⟨_,u1,fun v zz=>by cases zz⟩
  ·exact⟨_,u2,fun v zz=>by cases zz⟩
  ·exact⟨_,u3,fun v zz=>by cases zz⟩
  ·exact⟨_,u4,fun v zz=>by rw[d4] at zz;cases zz⟩
  ·exact⟨_,u5,fun v zz=>by rw[d5] at zz;cases zz⟩
 keep:=fun i h h' st k=>by
  obtain⟨u1,u2,⟨a,c,u3⟩,⟨o4,u4,r4⟩,⟨o5,u5,r5⟩⟩:=st
  exact⟨k _ (by simp) _ u1,k _ (by simp) _ u2,⟨a,c,k _ (by simp) _ u3⟩,⟨o4,k _ (by simp) _ u4,r4⟩,⟨o5,k _ (by simp) _ u5,r5⟩⟩
 item:=by
  intro X hP hw hK hc i pins s σ H E I hf st hg
  subst hP hw hK
  obtain⟨xs,ys,x,y,hq1,hq2,hx,hy⟩:=hg
  obtain⟨its1,rv1,p1,hz1⟩:=I.list hq1
  obtain⟨its2,rv2,p2,hz2⟩:=I.tuple hq2
  obtain⟨u,hu,ru⟩:=rv1.get hx
  obtain⟨v,hv,rv⟩:=rv2.get hy
  refine wN (s:=s) D ⟨st.zi,st.ti,st.to,st.a1,st.a2,p1.isList,p2⟩ (x:=u) (y:=v) (by simpa using hu) (by simpa using hv) fun h' Z hp hk=>⟨_,rfl,wpAny_letOwnedTupleGo_zip Z.zi fun h2 z2 sb=>?_⟩
  have hf4:∀ b ∈ [z,TO,i1,i2],J7 X pins H b:=fun b hb=>hf b (by simp only[List.mem_cons,List.not_mem_nil,or_false] at hb ⊢;rcases hb with e | e | e | e <;> simp[e])
  have k2:y4 z TO i1 i2 s.heap h2:=fun c o hc e=>(sb.2 c (fun zz=>hc (by simp[zz]))).trans (hk c o hc e)
  have I1:Inv X pins σ H { s with heap:=h2 }:=I.zipped (t':=s.toks) hf4 k2
  have zlt:z < s.heap.objs.size:=AL st.zi
  have at2:IsPair h2 s.heap.objs.size u v:=(sb.2 _ (BW zlt)).trans hp
  have Hn:H s.heap.objs.size=none:=I.hok.fresh (AG _)
  have I2:Inv X pins σ (upd H s.heap.objs.size (.tup [x,y])) { s with heap:=h2 }:=by
   refine I1.adopt Hn (EZ I.sz) (BW I.lt) (fun xx cc e zz=>?_) (fun p hp zz=>?_) ⟨by show 2<=sizeLine;decide,[u,v],.cons ru (.cons rv .nil),⟨_,at2,rfl,⟨0,rfl⟩,rfl⟩⟩
   ·obtain⟨_,q⟩:=I.cell xx cc e
    exact absurd q.lt (by rw[zz];exact Ax _)
   ·exact absurd (AL (I.pin p hp).1) (by rw[zz];exact Ax _)
  have n5:∀ b ∈ [z,TI,TO,i1,i2],b ≠ s.heap.objs.size:=fun b hb zz=>by
   obtain⟨u1,u2,⟨a,c,u3⟩,⟨o4,u4,_⟩,⟨o5,u5,_⟩⟩:=st
   simp only[List.mem_cons,List.not_mem_nil,or_false] at hb
   rcases hb with e | e | e | e | e
   ·rw[e] at zz;exact absurd (AL u1) (by rw[zz];exact Ax _)
   ·rw[e] at zz;exact absurd (AL u2) (by rw[zz];exact Ax _)
   ·rw[e] at zz;exact absurd (AL u3) (by rw[zz];exact Ax _)
   ·rw[e] at zz;exact absurd (AL u4) (by rw[zz];exact Ax _)
   ·rw[e] at zz;exact absurd (AL u5) (by rw[zz];exact Ax _)
  obtain⟨nd,_,_⟩:=D
  simp only[List.nodup_cons,List.mem_cons,List.not_mem_nil,or_false,not_or,List.nodup_nil,and_true,not_false_eq_true] at nd
  obtain⟨⟨nzI,nzO,nz1,nz2⟩,_,_,_⟩:=nd
  obtain⟨a,b,to⟩:=Z.to
  refine⟨.ref s.heap.objs.size,_,I2,rfl,⟨_,x,y,Hn,rfl,rfl,fun xs' ys' h1 h2=>?_⟩,⟨z2,(sb.2 _ (Af nzI)).trans Z.ti,⟨a,b,(sb.2 _ (Af nzO)).trans to⟩,Z.a1.extBut sb.extBut (Af nz1),Z.a2.extBut sb.extBut (Af nz2)⟩,fun b hb=>?_⟩
  ·rw[I.list_inj h1 hq1,I.tuple_inj h2 hq2]
   exact⟨hx,hy⟩
  ·rw[zx (n5 b hb)]
   exact (hf b hb).1
 done:=by
  intro X hP hw hK hc i pins s σ H E I hf st hg
  subst hP hw hK
  obtain⟨xs,ys,hq1,hq2,hx⟩:=hg
  obtain⟨its1,rv1,p1,hz1⟩:=I.list hq1
  obtain⟨its2,rv2,p2,hz2⟩:=I.tuple hq2
  have l1:=rv1.length
  have l2:=rv2.length
  have hf4:∀ b ∈ [z,TO,i1,i2],J7 X pins H b:=fun b hb=>hf b (by simp only[List.mem_cons,List.not_mem_nil,or_false] at hb ⊢;rcases hb with e | e | e | e <;> simp[e])
  exact wO (I.ok.hd hc) D ⟨st.zi,st.ti,st.to,st.a1,st.a2,p1.isList,p2⟩ (by rcases hx with h | h;exact .inl (by simp;omega);exact .inr (by simp;omega)) fun h' hk=>⟨rfl,I.zipped (t':=s.toks) hf4 hk⟩
 self:=fun A i s Q E st h=>wpAny_pyIter_zip st.zi h
section
variable {X:Cx}
def iZipM (K:Fs) (ta:TA):TI:=fun σ H R=>ta σ H fun vs H1=>∃ p q xs ys,vs=[.ref p,.ref q]/\SqL K H1 p xs/\SqT K H1 q ys/\R (ItzM K p q) H1
theorem kpi_zipM (K:Fs) {elts:List Expr} {kk:Nat} {tpos:Pos} {a b:Expr} {ta:TA} {p pos:Pos} (hg:Gl X "zip") (hm:X.mg "zip" = none) (ha:PA X [a,b] ta) (hs:starEach [a,b] X.env=[(false,eval a X.env),(false,eval b X.env)]:=by rfl) (hs2:starEach [b] X.env=[(false,eval b X.env)]:=by rfl) (hK:X.K=K:=by rfl) :
  PI X (.Tuple elts kk tpos) (.Call (.Name "zip" p) [a,b] [] pos) (iZipM K ta):=by
 subst hK
 intro pins s σ H R I h
 refine Call_ (ZC I hg hm bt_zip (BG (thn (ha pos pins s σ H _ I h) fun us s1 ⟨vs,H1,I1,r1,q1⟩=>?_) (by rw[hs,hs2]) (by rw[hs2];rfl)))
 obtain⟨p1,p2,xs,ys,e,hq1,hq2,q⟩:=q1
 subst e
 obtain⟨u1,u2,rfl,r1,r2⟩:=Ws r1
 cases r1
 cases r2
 obtain⟨its1,rv1,t1,_⟩:=I1.list hq1
 obtain⟨its2,rv2,t2,_⟩:=I1.tuple hq2
 refine Yg t1.isList t2 fun h' z TI TO i1 i2 D Z new kp=>wpAny_pyIter_zip Z.zi ?_
 have I2:Inv X pins σ H1 { s1 with heap:=h' }:=I1.kept (t':=s1.toks) kp
 exact⟨z,[z,TI,TO,i1,i2],_,ItzM X.K p1 p2,H1,rfl,I2,xz D,⟨Z.zi,Z.ti,Z.to,Z.a1,Z.a2⟩,fun b hb=>I1.fpOk (new b hb) (I1.hok.fresh (new b hb)),q⟩
end
theorem no_keysT:typeLookup (.type "tuple") "keys" = pure none:=EA (by ac_rfl)
theorem keys_byT {prog:Program} {w:World} {A:Around} {E:Value->Shared->Prop} {s:Shared} {a:Addr} {o:Obj} {xs:Array Value} {k:Nat} {t:Tok} {Q:Value->Shared->Prop}
  (hx:s.heap.get? a=some o) (hc:o.cls=.type "tuple") (hdat:o.data=.seq xs k) (hd:o.dict=none) (hA:A.handled=none)
  (h:∀ h' tk e,Heap.NewExcOf s.heap h' e "AttributeError" -> E (.ref e) { s with heap:=h',toks:=tk }) :
  wpAny (model prog w) A (getAttrBy (.ref a) (.str "keys" t) false) Q E s:=by
 obtain⟨c,dct,dat,sl⟩:=o
 simp only at hc hdat hd
 subst hc hdat hd
 obtain⟨hp,g,d,tk,os⟩:=s
 have hT:∀ tk',(⟨hp,g,d,tk',os⟩:Shared).TypeIs (.ref a) "tuple":=fun _=>⟨_,hx,rfl⟩
 have f1:=jJ
 have f3:=C2.lookup
 have f4:=C2.bind (.ref a)
 have f5:=am_tuple_getattr_none
 unfold getAttrBy
 repeat (any_goals (first | assumption | exact hT _ | ((with_reducible show wpAny _ _ (call (Value.builtin "tuple.__getattribute__") _ _) _ _ _);refine Bs C2 (hT _) am_entry_tuple_getattribute (PySem.F.args_tuple_getattribute_2 _ _) (meets_getattribute_miss_tuple a xs k sl "keys" _ no_keysT (by decide) (by decide)) ⟨hx,hA,fun h' tk' e hx'=>?_⟩) | wp_step))
 obtain⟨t',u',he⟩:=hx'.there
 show wpAny _ _ (getattributeRaised _ _ _ _ _ _ _) _ _ _
 unfold getattributeRaised
 repeat (any_goals (first | assumption | wp_step))
 exact h _ _ _ hx'.of
theorem Yh {prog:Program} {w:World} {A:Around} {E:Value->Shared->Prop} {s:Shared} {a:Addr} {o:Obj} {xs:Array Value} {k:Nat} {Q:Option Value->Shared->Prop}
  (hx:s.heap.get? a=some o) (hc:o.cls=.type "tuple") (hdat:o.data=.seq xs k) (hd:o.dict=none) (hA:A.handled=none)
  (h:∀ h' tk,(∀ b ob,s.heap.get? b=some ob->h'.get? b=some ob)->Q none { s with heap:=h',toks:=tk }) :
  wpAny (model prog w) A (getAttr? (.ref a) "keys") Q E s:=by
 unfold getAttr? getAttrBy?
 refine AA (wpAny_mkText (AA (BQ (keys_byT (s:={ s with toks:=s.toks+1 }) hx hc hdat hd hA fun h' tk e ne=>?_))))
 obtain⟨kp,nw,ob,vs,he,h1,h2⟩:=ne
 refine AA (Br (T := "AttributeError") (b:=true) ⟨ob,he,h1⟩ jJ ?_)
 exact AF (h h' tk kp)
section
variable {prog:Program} {w:World} {A:Around} {R:Result->Shared->Prop}
theorem xA (hh:A.handled=none) (D L it:Addr) (items:Array Value) (hDL:D ≠ L) (hDi:D ≠ it) (hLi:L ≠ it) (ps:List (Key×Value)) (hlen:ps.length=items.size) (hsz:ps.length<=sizeLine) :
  ∀ (n i:Nat) (s:Shared) (acc:List (Key×Value)),n+i=items.size->acc.length<=i->s.heap.IsTupleIter it L i->s.heap.IsTuple L items->s.heap.DictOf (zB prog w) D acc ->
  (∀ (j:Nat) (p:Key×Value) (v:Value),ps[j]? = some p->items[j]? = some v->ZD prog w s.heap v p.1 p.2) ->
  (∀ h' tk,h'.DictOf (zB prog w) D ((ps.drop i).foldl (fun (acc:List (Key×Value)) (p:Key×Value)=>stored acc p.1 p.2) acc)->(∀ b o,b ≠ D->b ≠ it->s.heap.get? b=some o->h'.get? b=some o)->R (.ok (.ret .none)) { s with heap:=h',toks:=tk }) ->
  codeAny (model prog w) A (.builtin "dict.update.loop" ⟨[.ref D,.ref it,rawInt i,.none],[]⟩) R s:=by
 intro n
 induction n with
 | zero=>
  intro i s acc hn hacc hit hl hd hp hR
  refine B2 qt ?_
  rw[Bj zH _]
  show wpAny _ A.in1 (pyNext (.ref it) >>= _) _ _ s
  refine AA (wpAny_pyNext_tuple_end (show A.in1.handled=none from hh) hit hl (by simp;omega) fun h' eb=>?_)
  show wpAny _ _ (Builtin.Dict.addKeywords D [] >>= _) _ _ _
  refine AA (AF (AF (hR h' s.toks ?_ fun b o _ h2 e=>eb b o h2 e)))
  rw[Cr (by omega)]
  exact hd.extBut eb hDi
 | succ n ih=>
  intro i s acc hn hacc hit hl hd hp hR
  have hi:i < items.size:=by omega
  obtain⟨v,hv⟩:∃ v,items[i]? = some v:=⟨items[i],by simp[hi]⟩
  obtain⟨p,hpi⟩:∃ p,ps[i]? = some p:=⟨ps[i]'(by omega),by rw[AD (by omega)]⟩
  refine B2 qt ?_
  rw[Bj zH _]
  show wpAny _ A.in1 (pyNext (.ref it) >>= _) _ _ s
  refine AA (wpAny_pyNext_tuple_item hit hl hv fun h1 hit1 hs1=>?_)
  obtain⟨oi,hoi,hci,_⟩:=hit
  have hp1:∀ (j:Nat) (p:Key×Value) (v:Value),ps[j]? = some p->items[j]? = some v->ZD prog w h1 v p.1 p.2:=fun j p v a b=>(hp j p v a b).keep (b0:=it) (fun b o hb e=>hs1.extBut b o hb e) fun o e=>by
   rw[hoi] at e;cases e;rw[hci];decide
  obtain⟨b,key,rfl,hb,hk⟩:=hp1 i p v hpi hv
  obtain⟨ot,e1,e2,nt,e3⟩:=id hb
  have hd1:=hd.extBut hs1.extBut hDi
  refine AA (A4 (AA (wpAny_tryCatch ?_)))
  unfold Builtin.Dict.pairItems
  refine AA (Bo (T := "tuple") ⟨ot,e1,e2⟩ ?_)
  rw[if_pos (by decide)]
  refine AA (BZ e1 e3 (AF ?_))
  show wpAny _ _ (holding [key,p.2] (dictSet D key p.2)) _ _ _
  refine A4 (wpAny_dictSet_pairs (hsz:=by omega) hk hd1 fun h2 hd2 hs2=>?_)
  refine AF ⟨Bv zH _,?_⟩
  have hl1:h1.IsTuple L items:=hl.extBut hs1.extBut hLi
  have hle:(stored acc p.1 p.2).length<=i+1:=by
   unfold stored
   split
   ·rw[AB];omega
   ·rw[AI];simp;omega
  obtain⟨oD,_,_,hoD,hcD,_⟩:=hd1
  have:=ih (i+1) { s with heap:=h2,toks:=s.toks+1 } (stored acc p.1 p.2) (by omega) hle (hit1.extBut hs2.extBut (Af hDi)) (hl1.extBut hs2.extBut (Af hDL)) hd2 (fun j p v a b=>(hp1 j p v a b).keep (b0:=D) (fun b o hb e=>hs2.extBut b o hb e) fun o e=>by
    rw[hoD] at e;cases e;rw[hcD.1];decide) fun h' tk hd' hk'=>?_
  ·simpa using this
  ·refine hR h' tk ?_ fun b o h1 h2 e=>hk' b o h1 h2 (hs2.extBut b o h1 (hs1.extBut b o h2 e))
   have e4:ps.drop i=p :: ps.drop (i+1):=by
    rw[AE] at hpi
    obtain⟨h5,h6⟩:=hpi
    rw[<- h6]
    exact Bm h5
   rw[e4,Bx]
   exact hd'
theorem Qi {E:Value->Shared->Prop} {Q:Value->Shared->Prop} {s:Shared} {L:Addr} {o:Obj} {items:Array Value} {k:Nat} {ps:List (Key×Value)} (hh:A.handled=none) (hx:s.heap.get? L=some o) (hc:o.cls=.type "tuple") (hdat:o.data=.seq items k) (hdn:o.dict=none)
  (hlen:ps.length=items.size) (hsz:ps.length<=sizeLine) (hp:∀ (j:Nat) (p:Key×Value) (v:Value),ps[j]? = some p->items[j]? = some v->ZD prog w s.heap v p.1 p.2)
  (h:∀ h' tk,h'.DictOf (zB prog w) s.heap.objs.size (ps.foldl (fun (acc:List (Key×Value)) (p:Key×Value)=>stored acc p.1 p.2) [])->(∀ b o,s.heap.get? b=some o->h'.get? b=some o)->Q (.ref s.heap.objs.size) { s with heap:=h',toks:=tk }) :
  wpAny (model prog w) A (call (.type "dict") [.ref L]) Q E s:=by
 refine DZ (Q₁:=fun obj s₁=>obj=.ref s.heap.objs.size/\s₁ = { s with heap:=s.heap.push { cls:=.type "dict",data:=.dict #[] } }) De (DN _) Db (kt_code_dict_new _ ⟨rfl,rfl⟩) ?_
 rintro obj s₁ ⟨rfl,rfl⟩
 have hnew:(s.heap.push { cls:=.type "dict",data:=.dict #[] }).DictOf (zB prog w) s.heap.objs.size []:=ED s.heap
 have hx1:=AC { cls:=.type "dict",data:=.dict #[] } hx
 have Llt:L < s.heap.objs.size:=AL hx
 refine⟨hnew.typeIs,DW _ _,?_⟩
 unfold Builtin.«dict.__init__»
 refine AA ?_
 unfold Builtin.Dict.selfAndRest
 refine AA (CA hnew.typeIs ?_)
 show wpAny _ _ (pure (s.heap.objs.size,[Value.ref L])) _ _ _
 refine AF ?_
 show wpAny _ _ (Builtin.Dict.updateFrom "dict.__init__" s.heap.objs.size (.ref L) [] .none) _ _ _
 unfold Builtin.Dict.updateFrom
 refine AA (Bo (T := "tuple") ⟨o,hx1,hc⟩ ?_)
 rw[if_pos (by decide)]
 refine AA (Yh hx1 hc hdat hdn (show A.in1.in1.handled=none from hh) fun h' tk kp=>?_)
 rw[if_pos (by rfl)]
 have hL':h'.IsTuple L items:=⟨o,kp _ _ hx1,hc,k,hdat⟩
 refine AA (Ba (AA (Ef hL' ?_)))
 have Dget:∃ od,h'.get? s.heap.objs.size=some od:=⟨_,kp _ _ (AK _ rfl)⟩
 have Dlt:s.heap.objs.size < h'.objs.size:=let ⟨_,e⟩:=Dget;AL e
 refine AF ⟨Bv zH _,?_⟩
 have it0:(h'.push { cls:=.type "tuple_iterator",data:=.fields #[.ref L,.int 0 0] }).IsTupleIter h'.objs.size L 0:=⟨_,AK _ rfl,rfl,rfl⟩
 have hd':(h'.push { cls:=.type "tuple_iterator",data:=.fields #[.ref L,.int 0 0] }).DictOf (zB prog w) s.heap.objs.size []:=by
  obtain⟨od,es,ep,e,r⟩:=hnew
  exact⟨od,es,ep,AC _ (kp _ _ e),r⟩
 refine xA (A:=A.in1) (show A.in1.handled=none from hh) s.heap.objs.size L h'.objs.size items (BW Llt) (AU Dlt) (AU (Co Llt Dlt)) ps hlen hsz items.size 0 { s with heap:=h'.push { cls:=.type "tuple_iterator",data:=.fields #[.ref L,.int 0 0] },toks:=tk } [] rfl (AG _) it0 ⟨o,AC _ (kp _ _ hx1),hc,k,hdat⟩ hd' (fun j p v a b=>?_) fun h2 tk2 hd2 hk2=>?_
 ·obtain⟨bb,key,e1,⟨ot,e2,r⟩,e3⟩:=hp j p v a b
  exact⟨bb,key,e1,⟨ot,AC _ (kp _ _ (AC _ e2)),r⟩,e3⟩
 ·refine⟨rfl,h h2 tk2 ?_ fun b ob e=>hk2 b ob (AU (AL e)) (AU (Co (AL e) Dlt)) (AC _ (kp _ _ (AC _ e)))⟩
  rw[Cq] at hd2
  exact hd2
end
section
variable {X:Cx}
def tDictTP (K:Fs) (ta:TA):TE:=fun σ H Q=>ta σ H fun vs H1=>∃ p xs ps,vs=[.ref p]/\H1 p=some (.tup xs)/\Prs H1 xs ps/\∀ D,H1 D=none->Q (.ref D) (upd H1 D (.dK (putAll [] ps)))
theorem xB (K:Fs) {a:Expr} {ta:TA} {p pos:Pos} (hg:Gl X "dict") (hm:X.mg "dict" = none) (ha:PA X [a] ta) (hs:starEach [a] X.env=[(false,eval a X.env)]:=by rfl) (hc:X.calm=true:=by rfl) (hK:X.K=K:=by rfl) :
  PE X (.Call (.Name "dict" p) [a] [] pos) (tDictTP K ta):=by
 subst hK
 intro pins s σ H Q I h
 refine Call_ (ZC I hg hm WE (BG (thn (ha pos pins s σ H _ I h) fun us s1 ⟨vs,H1,I1,r1,q1⟩=>?_) hs rfl))
 obtain⟨p1,xs,ps,e,hq,hps,q⟩:=q1
 subst e
 obtain⟨u1,rfl,r2⟩:=vals1 r1
 cases r2
 obtain⟨hz,its,rv,o,eo,c1,⟨n,c2⟩,c3⟩:=(show qd X.prog X.w H1 s1.heap p1 (.tup xs) from I1.hok p1 _ hq)
 obtain⟨rs,rk,hpa⟩:=prs_at I1.hok hps rv
 have l1:rs.length=its.toArray.size:=by
  have a1:=rk.length
  have a2:=AQ hps
  have a3:=rv.length
  simp;omega
 have l2:ps.length<=sizeLine:=by
  have a2:=AQ hps
  omega
 refine Qi (ps:=rs) (I1.ok.hd hc) eo c1 c2 c3 l1 (by have:=rk.length;omega) (fun j p v a b=>hpa j p v a (by simpa using b)) fun h' tk hd' kp=>?_
 have hb:(s1.heap.objs.size == sysModules)=false:=beq_eq_false_iff_ne.mpr (Af (AU I1.big))
 have hl:(putAll [] ps).length<=sizeLine:=by
  have:=j7 ps []
  simp at this;omega
 exact⟨.ref s1.heap.objs.size,_,I1.laid (a:=s1.heap.objs.size) (o:=.dK (putAll [] ps)) (t':=tk) kp (AG _) ⟨hl,hb,_,xi rk .nil,hd'⟩,rfl,q _ (I1.hok.fresh (AG _))⟩
end
theorem kV_rel {P:Program} {w:World} {k:Key} {u:Value} (h:(zB P w).is k u=true):RelV (kV k) u:=by
 rcases qg (show Wo k u=true from h) with ⟨i,t,rfl,rfl⟩ | ⟨x,t,rfl,rfl⟩
 ·exact⟨t,rfl⟩
 ·exact⟨t,rfl⟩
def Itk (d:Addr) (kvs:List (Key×V)) (o:Obj):It:=
 ⟨fun i H=>H d=some (.frz o (.dK kvs))/\i < kvs.length,fun i H x H'=>H'=H/\∃ p,kvs[i]? = some p/\x=kV p.1,fun i H=>H d=some (.frz o (.dK kvs))/\kvs.length<=i⟩
theorem frz_at {P:Program} {w:World} {H:Hp} {h:Heap} {d:Addr} {kvs:List (Key×V)} {o:Obj} {es0:Array DictEntry} {ep:Nat} (ok:HOk P w H h) (e:H d=some (.frz o (.dK kvs))) (hd:o.data=.dict es0 ep):∃ vs,KV kvs vs/\h.DictAt (zB P w) d vs ep:=by
 obtain⟨e1,_,_,vs,rel,o',es,ep',e2,r1,r2,r3⟩:=(show qd P w H h d (.frz o (.dK kvs)) from ok d _ e)
 rw[e1] at e2
 obtain rfl:=AH e2
 have r2':=r2
 rw[hd] at r2'
 injection r2' with h1 h2
 subst h1 h2
 exact⟨vs,rel,o,es0,e1,r1,hd,r3⟩
theorem xC {P:Program} {w:World} {K:Fs} {tg:Expr} (d it:Addr) (kvs:List (Key×V)) (o:Obj) (es0:Array DictEntry) (ep:Nat) (hd:o.data=.dict es0 ep) :
  Turn P w K tg (Itk d kvs o) [it] it (fun i h=>h.IsKeyIter it d i kvs.length ep) where
 mem:=by simp
 obj:=fun i h st b hb=>by
  have e:b=it:=by simpa using hb
  subst e
  obtain⟨o,e,c,d⟩:=st
  exact⟨o,e,fun v z=>by rw[d] at z;cases z⟩
 keep:=fun i h h' st k=>st.at fun o e=>k it (by simp) o e
 item:=by
  intro X hP hw hK hc i pins s σ H E I hf st hg
  subst hP hw hK
  obtain⟨hq,hi⟩:=hg
  obtain⟨vs,rel,da⟩:=frz_at I.hok hq hd
  have hl:=rel.length
  obtain⟨f0,f1,f2,f3,f4,f5⟩:=hf it (by simp)
  have hx:kvs[i]? = some kvs[i]:=AD hi
  have hv:vs[i]? = some vs[i]:=AD (by omega)
  have hkk:kvs[i].1=(vs[i]'(by omega)).1:=by
   have hks:=rel.keys
   have h1:=BL (fun l=>l[i]?) hks
   simp only[List.getElem?_map,hx,hv] at h1
   exact AH h1
  rw[hl] at st
  refine wpAny_pyNext_dict_item st da hv fun key h' hkey st' sb=>?_
  have I1:Inv X pins σ H { s with heap:=h' }:=I.turned (t':=s.toks) (fun b o hb e=>(sb.2 b hb).trans e) f0 f1 f3 f4 f5
  rw[<- hl] at st'
  obtain⟨o2,e,c,d2⟩:=id st'
  refine⟨key,rfl,YB (s:={ s with heap:=h' }) e c d2 (by decide) ⟨kV kvs[i].1,H,I1,?_,⟨rfl,_,hx,rfl⟩,st',fun b hb=>(hf b hb).1⟩⟩
  rw[hkk]
  exact kV_rel hkey
 done:=by
  intro X hP hw hK hc i pins s σ H E I hf st hg
  subst hP hw hK
  obtain⟨hq,hi⟩:=hg
  obtain⟨vs,rel,da⟩:=frz_at I.hok hq hd
  have hl:=rel.length
  obtain⟨f0,f1,f2,f3,f4,f5⟩:=hf it (by simp)
  rw[hl] at st
  exact wpAny_pyNext_dict_end (I.ok.hd hc) st da (by simp;omega) fun h' eb=>⟨rfl,I.turned (t':=s.toks) (fun b o hb e=>eb b o hb e) f0 f1 f3 f4 f5⟩
 self:=fun _ _ _ _ _ st h=>wpAny_pyIter_keyiter st h
section
variable {X:Cx}
def iKeys (te:TE):TI:=fun σ H R=>te σ H fun x H1=>∃ d kvs,x=.ref d/\H1 d=some (.dK kvs)/\∀ o,R (Itk d kvs o) (upd H1 d (.frz o (.dK kvs)))
theorem pi_keys {tg l:Expr} {tl:TE} (hl:PE X l tl):PI X tg l (iKeys tl):=by
 intro pins s σ H R I h
 refine thn (hl pins s σ H _ I h) fun v s1 ⟨x,H1,I1,rx,d,kvs,ex,hd,q⟩=>?_
 subst ex
 obtain rfl:v=Value.ref d:=rx
 obtain⟨z,hb,vs,rel,dd⟩:=dk_of I1.hok hd
 obtain⟨o,es,ep,e1,r1,r2,r3⟩:=id dd
 have da:s1.heap.DictAt (zB X.prog X.w) d vs ep:=⟨o,es,e1,r1,r2,r3⟩
 refine wpAny_pyIter_dict hb da ?_
 have hl2:=rel.length
 have I2:Inv X pins σ (upd H1 d (.frz o (.dK kvs))) { s1 with heap:=s1.heap,toks:=s1.toks }:=I1.write (x:=d) (e:=d) (t':=s1.toks) (o:=.frz o (.dK kvs)) (by rw[hd];exact True.intro) (.inl rfl) (fun b u _ e=>e) ⟨o,e1⟩ ⟨e1,z,hb,vs,rel,o,es,ep,e1,r1,r2,r3⟩
 have I3:Inv X pins σ (upd H1 d (.frz o (.dK kvs))) { s1 with heap:=s1.heap.push { cls:=.type "dict_keyiterator",data:=.fields #[.ref d,.int 0 0,.int vs.length 0,.int ep 0] } }:=I2.kept (t':=s1.toks) fun _ _ e=>AC _ e
 have hn:(upd H1 d (.frz o (.dK kvs))) s1.heap.objs.size=none:=I2.hok.fresh (AG _)
 refine⟨s1.heap.objs.size,[s1.heap.objs.size],_,Itk d kvs o,_,rfl,I3,xC d s1.heap.objs.size kvs o es ep r2,⟨_,AK _ rfl,rfl,by rw[hl2];rfl⟩,fun b hb=>?_,q o⟩
 have eb:b=s1.heap.objs.size:=by simpa using hb
 subst eb
 exact I1.fpOk (AG _) hn
theorem xD {d:Addr} {kvs:List (Key×V)} {ob:Obj} {t:Nat} {tt:TT} {te:TE} {σ0:St} {H1:Hp} {Q:VK} {D:Addr} (P:Nat->List V->Hp->Prop) (h0:P 0 [] (upd H1 D (.lst []))) (hl:∀ i ys H,P i ys H->H D=some (.lst ys)->H d=some (.frz ob (.dK kvs)))
  (hs:∀ i ys H p,kvs[i]? = some p->P i ys H->H D=some (.lst ys)->tt (σ0.set t (some (kV p.1))) H fun b H4=>if b=true then te (σ0.set t (some (kV p.1))) H4 (YZ (wE t σ0) P kvs.length D (σ0.set t (some (kV p.1))) i) else cNo (wE t σ0) P kvs.length D (σ0.set t (some (kV p.1))) i H4)
  (hd:∀ ys H,P kvs.length ys H->H D=some (.lst ys)->Q (.ref D) H) :
  jt (Itk d kvs ob) (jm t) tt te σ0 H1 Q D:=by
 have get:∀ i,i < kvs.length->kvs[i]? = some (kvs.getD i (Sum.inl 0,.non)):=fun i hi=>by simp[List.getD,hi]
 refine j4 (xv:=fun i=>kV (kvs.getD i (Sum.inl 0,.non)).1) (st:=fun i=>σ0.set t (some (kV (kvs.getD i (Sum.inl 0,.non)).1))) (wE t σ0) P Y0 h0 (fun i ys H hi p hD=>⟨⟨hl i ys H p hD,hi⟩,fun x H2 y=>⟨y.1,?_⟩⟩) (fun ys H p hD=>⟨hl _ ys H p hD,AG _⟩)
  (fun i _ σ' H K _ r _ k=>by show K (σ'.set t (some _)) H;rw[r];exact k) (fun i ys H hi p hD=>hs i ys H _ (get i hi) p hD) hd
 obtain⟨_,p,e1,e2⟩:=y
 rw[get i hi] at e1
 rw[e2,<- AH e1]
end
section
variable {prog:Program} {w:World} {A:Around} {E:Value->Shared->Prop} {s:Shared}
theorem xE {d:Addr} {kvs:List (Key×Value)} {Q:Bool->Shared->Prop} (hm:s.heap.DictOf (zB prog w) d kvs) (h:Q false s):wpAny (model prog w) A (Builtin.List.listLengthHint (.ref d)) Q E s:=by
 unfold Builtin.List.listLengthHint
 refine AA (CQ (name:=Str.ofString "__len__") hm.typeIs PySem.F.slot_dict_len.lookup ?_)
 generalize hid:("dict.__len__" : String)=id0
 wp_delta
 rw[show splitId id0=some ("dict", "__len__") from by subst hid;ac_rfl]
 subst hid
 refine AA (Br (T := "dict") (b:=true) hm.typeIs isSubtype_dict_dict ?_)
 refine B1 (fun hab=>absurd hab (by decide)) (fun _=>?_)
 refine B1 (fun _=>?_) (fun hn=>absurd (by ac_rfl) hn)
 refine AA (Bo hm.typeIs ?_)
 exact AF h
theorem WM {R:Result->Shared->Prop} {d S:Addr} {kvs:List (Key×Value)} {ep:Nat} (hh:A.handled=none) (hb:(d == sysModules)=false) (hm:s.heap.DictAt (zB prog w) d kvs ep) (hz:kvs.length<=1000) (res:Value) (c₀:Nat) (hS:s.heap.get? S=some { cls:=.type "list",data:=.seq #[] c₀ }) (hSd:S ≠ d)
  (hR:∀ h' tk acc' c',(∀ b o,b ≠ S->s.heap.get? b=some o->h'.get? b=some o)->h'.get? S=some { cls:=.type "list",dict:=none,data:=.seq acc' c',slots:=#[] } ->
   ItemsOf (fun i v=>∃ k x,kvs[i]? = some (k,x)/\(zB prog w).is k v=true) acc' kvs.length->R (.ok (.ret res)) { s with heap:=h',toks:=tk }) :
  wpAny (model prog w) A.in1 (Builtin.List.listExtendWith (.ref S) (.ref d) res)
   (fun fin s'=>match fin with | .done f=>R (.ok f) s' | .again c'=>c'.quiet=true/\codeAny (model prog w) A c' R s') (fun e s'=>R (.error e) s') s:=by
 have dlt:d < s.heap.objs.size:=hm.lt_size
 have Slt:S < s.heap.objs.size:=AL hS
 have hSf:S ∉ [s.heap.objs.size,d]:=fun hmm=>by
  rcases Al.mp hmm with h | h
  ·exact absurd h (AU Slt)
  ·exact hSd (AJ.mp h)
 have W:=(Walks.dictKeys (prog:=prog) (w:=w) (knd:=zB prog w) (A:=A.in1) hh s.heap.objs.size d (AU dlt) kvs ep).toS
 have key:∀ (h:Heap) (c₁ tk:Nat),h.IsKeyIter s.heap.objs.size d 0 kvs.length ep->h.DictAt (zB prog w) d kvs ep->(∀ b o,b ≠ S->s.heap.get? b=some o->h.get? b=some o) ->
   h.get? S=some { cls:=.type "list",data:=.seq #[] c₁ }->codeAny (model prog w) A (.builtin "list.extend.loop" ⟨[.ref S,.ref s.heap.objs.size,res],[]⟩) R { s with heap:=h,toks:=tk }:=by
  intro h c₁ tk hit' hm' hk hS₁
  refine codeAny_extend_loopS W (by rw[BS];omega) S hSf res kvs.length 0 _ #[] c₁ rfl (A6 _) ⟨hit',hm'⟩ hS₁ (ItemsOf.nil _) fun s' acc' c' hm hS' hacc=>?_
  rw[Moved.eq_with hm]
  refine hR s'.heap s'.toks acc' c' (fun b o hb e=>hm.heap b o (fun hmem=>?_) (hk b o hb e)) hS' hacc
  rcases Al.mp hmem with e' | hmem
  ·exact hb e'
  ·exact absurd (AL e) (by rw[AJ.mp hmem];exact Ax _)
 unfold Builtin.List.listExtendWith
 refine AA (Bo (T := "dict") hm.dictOf.typeIs ?_)
 have h1:Builtin.List.listSameRef (.ref S) (.ref d)=false:=by simp[Builtin.List.listSameRef,hSd]
 have h2:(Value.type "dict" == Value.type "list")=false:=by decide
 have h3:(Value.type "dict" == Value.type "tuple")=false:=by decide
 simp only[h1,h2,h3,Bool.or_false,Bool.false_eq_true,if_false]
 refine AA (wpAny_pyIter_dict hb hm ?_)
 have up:∀ b o,s.heap.get? b=some o->(s.heap.push { cls:=.type "dict_keyiterator",data:=.fields #[.ref d,.int 0 0,.int kvs.length 0,.int ep 0] }).get? b=some o:=fun b o e=>AC _ e
 have hit:(s.heap.push { cls:=.type "dict_keyiterator",data:=.fields #[.ref d,.int 0 0,.int kvs.length 0,.int ep 0] }).IsKeyIter s.heap.objs.size d 0 kvs.length ep:=⟨_,AK _ rfl,rfl,rfl⟩
 have hm1:=hm.keep up
 have hS1:=up _ _ hS
 refine AA (A4 (xE hm1.dictOf ?_))
 refine B1 (fun _=>?_) (fun _=>AF ⟨Bv Ca _,key _ c₀ _ hit hm1 (fun b o _ e=>up b o e) hS1⟩)
 refine AA (Ba ?_)
 refine AA ?_
 show wpAny _ _ (updateSeq S (·.push .none) >>= fun _=>updateSeq S (·.pop)) _ _ _
 refine AA (Cu hS1 rfl ?_)
 have hS₂:=A8 (Obj.mapSeq (·.push Value.none)) hS1 rfl
 refine Cu (hz:=by seq_fits) hS₂ rfl ?_
 have hS₃:=A8 (Obj.mapSeq (·.pop)) hS₂ rfl
 generalize s.heap.push { cls:=.type "dict_keyiterator",data:=.fields #[.ref d,.int 0 0,.int kvs.length 0,.int ep 0] } = h0 at *
 have oth:∀ b o,b ≠ S->h0.get? b=some o->((h0.update S (Obj.mapSeq (·.push Value.none))).update S (Obj.mapSeq (·.pop))).get? b=some o:=fun b o hb e=>(A0 _ _ (Af hb)).trans ((A0 _ _ (Af hb)).trans e)
 refine AF ⟨Bv Ca _,key _ _ _ (hit.at fun o e=>oth _ o (BW Slt) e) (hm1.at' fun o e=>oth d o (Af hSd) e) (fun b o hb e=>oth b o hb (up b o e)) hS₃⟩
theorem Ja {Q:Value->Shared->Prop} {d:Addr} {kvs:List (Key×Value)} {ep:Nat} (hh:A.handled=none) (hb:(d == sysModules)=false) (hm:s.heap.DictAt (zB prog w) d kvs ep) (hz:kvs.length<=1000)
  (hQ:∀ h' tk acc' c',(∀ b o,s.heap.get? b=some o->h'.get? b=some o) ->
   h'.get? s.heap.objs.size=some { cls:=.type "list",dict:=none,data:=.seq acc' c',slots:=#[] }->ItemsOf (fun i v=>∃ k x,kvs[i]? = some (k,x)/\(zB prog w).is k v=true) acc' kvs.length->Q (.ref s.heap.objs.size) { s with heap:=h',toks:=tk }) :
  wpAny (model prog w) A (call (.type "list") [.ref d]) Q E s:=by
 refine DZ (Q₁:=fun obj s₁=>obj=.ref s.heap.objs.size/\s₁ = { s with heap:=s.heap.push { cls:=.type "list",data:=.seq #[] } }) PySem.F.called_list (PySem.F.typeCall_list_1 _) PySem.F.entry_list_init
  (code_list_new _ ⟨rfl,rfl⟩) fun obj s₁ h₁=>?_
 obtain⟨rfl,rfl⟩:=h₁
 have hS:(s.heap.push { cls:=.type "list",data:=.seq #[] }).get? s.heap.objs.size=some { cls:=.type "list",data:=.seq #[] }:=AK _ rfl
 have dlt:d < s.heap.objs.size:=hm.lt_size
 have hm1:=hm.keep (h':=s.heap.push { cls:=.type "list",data:=.seq #[] }) fun b o e=>AC _ e
 refine⟨⟨_,hS,rfl⟩,PySem.F.args_list_init_2 _ _,?_⟩
 have oth0:∀ b o,s.heap.get? b=some o->(s.heap.push { cls:=.type "list",data:=.seq #[] }).get? b=some o:=fun b o e=>AC _ e
 have nb:∀ b o,s.heap.get? b=some o->b ≠ s.heap.objs.size:=fun b o e=>AU (AL e)
 generalize s.heap.push { cls:=.type "list",data:=.seq #[] } = h0 at *
 show wpAny _ _ (do let old <- Builtin.List.listItems (.ref s.heap.objs.size);Builtin.List.listUpdate (.ref s.heap.objs.size) (fun _=>#[]);letGo old.toList.reverse;Builtin.List.listExtendWith (.ref s.heap.objs.size) (.ref d) .none) _ _ _
 refine AA ?_
 unfold Builtin.List.listItems
 refine AA (BZ hS rfl (AF ?_))
 show wpAny _ _ (updateSeq s.heap.objs.size (fun _=>#[]) >>= fun _=>letGo (#[]:Array Value).toList.reverse >>= fun _=>Builtin.List.listExtendWith (.ref s.heap.objs.size) (.ref d) .none) _ _ _
 refine AA (Cu hS rfl ?_)
 have hS₂:=A8 (Obj.mapSeq (fun _=>(#[]:Array Value))) hS rfl
 have oth:∀ b o,b ≠ s.heap.objs.size->h0.get? b=some o->(h0.update s.heap.objs.size (Obj.mapSeq (fun _=>(#[]:Array Value)))).get? b=some o:=
  fun b o hb e=>(A0 _ _ (Af hb)).trans e
 refine AA (EO ?_)
 refine WM (A:=A.in1) hh hb (hm1.at' fun o e=>oth d o (AU dlt) e) hz .none _ hS₂ (BW dlt) fun h' tk acc' c' hk hS' hacc=>?_
 exact⟨rfl,hQ h' tk acc' c' (fun b o e=>hk b o (nb b o e) (oth b o (nb b o e) (oth0 b o e))) hS' hacc⟩
end
theorem Ju {α β:Type} {R:α->β->Prop}:∀ {as:List α} {bs:List β},as.length=bs.length->(∀ (i:Nat) (a:α) (b:β),as[i]? = some a->bs[i]? = some b->R a b)->Paired R as bs
 | [],[],_,_=>.nil
 | a :: as,b :: bs,h,k=>.cons (k 0 a b rfl rfl) (Ju (by simpa using h) fun i x y hx hy=>k (i+1) x y hx hy)
theorem xF {P:Program} {w:World} {kvs:List (Key×V)} {vs:List (Key×Value)} (rel:KV kvs vs) {acc:Array Value} (h:ItemsOf (fun i v=>∃ k x,vs[i]? = some (k,x)/\(zB P w).is k v=true) acc vs.length):qi (kvs.map fun p=>kV p.1) acc.toList:=by
 have hl:=rel.length
 refine Ju (by have:=h.1;rw[AB];simp;omega) fun i a b ha hb=>?_
 rw[AR] at ha
 obtain⟨p,hp,rfl⟩:=At.mp ha
 rw[AZ] at hb
 obtain⟨k,x,hv,hk⟩:=h.2 i b hb
 have h1:=BL (fun l=>l[i]?) rel.keys
 simp only[List.getElem?_map,hp,hv] at h1
 have h2:p.1=k:=AH h1
 rw[h2]
 exact kV_rel hk
section
variable {X:Cx}
theorem Yi (hc:X.calm=true):qQ X (.type "list") (fun xs H Q=>∃ a kvs,xs=[.ref a]/\H a=some (.dK kvs)/\kvs.length<=1000/\∀ p,H p=none->Q (.ref p) (upd H p (.lst (kvs.map fun p=>kV p.1)))):=by
 intro pins s σ H xs us Q I rv h
 obtain⟨a,kvs,rfl,ha,hz,q⟩:=h
 obtain⟨u1,rfl,r2⟩:=vals1 rv
 cases r2
 obtain⟨z,hb,vs,rel,dd⟩:=dk_of I.hok ha
 obtain⟨ep,da⟩:=dd.dictAt
 have hl:=rel.length
 refine Ja (I.ok.hd hc) hb da (by omega) fun h' tk acc c kp he hacc=>?_
 exact⟨.ref s.heap.objs.size,_,I.laid (a:=s.heap.objs.size) (o:=.lst (kvs.map fun p=>kV p.1)) (t':=tk) kp (AG _) ⟨by rw[AB];exact z,acc.toList,c,xF rel hacc,by simpa using he⟩,rfl,q _ (I.hok.fresh (AG _))⟩
end
section
variable {X:Cx}
end
section
variable {X:Cx}
end
section
variable {prog:Program} {w:World} {A:Around} {E:Value->Shared->Prop} {s:Shared}
end
section
variable {X:Cx}
end
section
variable {X:Cx} {pins:List (Addr × Obj)} {σ:List (Option V)} {H:Hp} {s:Shared}
end
section
variable {X:Cx}
def rEqNil (K:Fs):R2:=fun x y H Q=>∃ p q xs,x=.ref p/\y=.ref q/\SqL K H p xs/\SqL K H q []/\Q (.bl xs.isEmpty) H
theorem op_eqNil (K:Fs) {k:Nat} (hr:jY k X.A) (hK:X.K=K:=by rfl):OpR X (compareOp .Eq) (rEqNil K):=by
 subst hK
 intro pins s σ H x y v u Q I rx ry h
 obtain⟨p,q,xs,rfl,rfl,h1,h2,hq⟩:=h
 cases rx
 cases ry
 obtain⟨us,r1,pl1,_⟩:=I.list h1
 obtain⟨vs,r2,pl2,_⟩:=I.list h2
 have hu:X.A.units < cLine:=EV (hu_of hr)
 cases r2
 cases xs with
 | nil=>
  cases r1
  exact SeqAt.RcAt.lists (e:=fun _=>true) pl1.isList pl2.isList rfl hu (fun j h _=>absurd h (CJ _)) X.prog X.w _ _ ⟨.bl _,H,I,rfl,hq⟩
 | cons x xs=>
  have l1:=r1.length
  exact SeqAt.RcAt.lists_lengths pl1.isList pl2.isList (by simp at l1 ⊢;intro z;rw[z] at l1;cases l1) hu X.prog X.w _ _ ⟨.bl _,H,I,rfl,hq⟩
end
theorem xG {K:Fs} {p q:Addr} {xs ys:List V} {n:Nat} {tt:TT} {te:TE} {H1:Hp} {Q:VK} {D:Addr} {more:St} (P:Nat->List V->Hp->Prop) (hn:n=min xs.length ys.length) (h0:P 0 [] (upd H1 D (.lst [])))
  (hp:∀ i zs H,P i zs H->H D=some (.lst zs)->SqL K H p xs/\SqT K H q ys)
  (hs:∀ i zs H T x y,xs[i]? = some x->ys[i]? = some y->i < n->P i zs H->H D=some (.lst zs)->H T=none->tt (some x :: some y :: more) (upd H T (.tup [x,y])) fun b H4=>if b=true then te (some x :: some y :: more) H4 (YZ (fun σ=>∃ x y,σ=x :: y :: more) P n D (some x :: some y :: more) i) else cNo (fun σ=>∃ x y,σ=x :: y :: more) P n D (some x :: some y :: more) i H4)
  (hd:∀ zs H,P n zs H->H D=some (.lst zs)->Q (.ref D) H) :
  jt (ItzM K p q) (gTup K 2 (we (jm 0) (we (jm 1) gNil))) tt te (none :: none :: more) H1 Q D:=by
 refine⟨cW (fun σ=>∃ x y,σ=x :: y :: more) P n D,⟨n,(Nat.sub_zero _).symm,A6 _,⟨_,_,rfl⟩,_,h0,zd⟩,?_⟩
 rintro i m σ' H' ⟨rfl,hi,⟨s1,s2,rfl⟩,zs,pp,hD⟩
 obtain⟨q1,q2⟩:=hp i zs H' pp hD
 by_cases hlt:i < n
 ·have k1:xs[i]? = some (xs.getD i .non):=by simp[List.getD,show i < xs.length by omega]
  have k2:ys[i]? = some (ys.getD i .non):=by simp[List.getD,show i < ys.length by omega]
  refine .inr ⟨⟨xs,ys,_,_,q1,q2,k1,k2⟩,?_⟩
  rintro v H2 ⟨T,x,y,hT,rfl,rfl,hall⟩
  obtain⟨e1,e2⟩:=hall xs ys q1 q2
  exact⟨T,_,rfl,SqT.of zd,rfl,_,_,rfl,_,_,rfl,rfl,hs i zs H' T x y e1 e2 hlt pp hD hT⟩
 ·have e:i=n:=by omega
  subst e
  exact .inl ⟨⟨xs,ys,q1,q2,by omega⟩,hd zs H' pp hD⟩
open PySem PySem.Spec PyProof.Rows PySem.W
section
variable {α β:Type} {a:Nat->Nat->Bool} {n:Nat}
end
section
variable {a:Nat->Nat->Bool} {n:Nat}
end
def Z1:List Nat->List Nat->Bool
 | x :: xs,y :: ys=>if x=y then Z1 xs ys else decide (x < y)
 | _,_=>false
theorem Qq:∀ (xs ys:List Nat),Z1 xs ys=true->Z1 ys xs=false
 | [],[],h=>by cases h
 | [],_ :: _,h=>by cases h
 | _ :: _,[],h=>by cases h
 | x :: xs,y :: ys,h=>by
  unfold Z1 at h ⊢
  by_cases e:x=y
  ·rw[if_pos e] at h
   rw[if_pos e.symm]
   exact Qq xs ys h
  ·rw[if_neg e,B7] at h
   rw[if_neg (fun z=>e z.symm),decide_eq_false_iff_not]
   omega
theorem xH:∀ (xs ys:List Nat),xs.length=ys.length->xs ≠ ys->Z1 xs ys=false->Z1 ys xs=true
 | [],[],_,n,_=>absurd rfl n
 | [],_ :: _,h,_,_=>by cases h
 | _ :: _,[],h,_,_=>by cases h
 | x :: xs,y :: ys,hl,n,h=>by
  unfold Z1 at h ⊢
  by_cases e:x=y
  ·rw[if_pos e] at h
   rw[if_pos e.symm]
   exact xH xs ys (by simpa using hl) (fun z=>n (by rw[e,z])) h
  ·rw[if_neg e,decide_eq_false_iff_not] at h
   rw[if_neg (fun z=>e z.symm),B7]
   omega
theorem lex_tr:∀ (xs ys zs:List Nat),Z1 xs ys=true->Z1 ys zs=true->Z1 xs zs=true
 | [],[],_,h,_=>by cases h
 | [],_ :: _,_,h,_=>by cases h
 | _ :: _,[],_,h,_=>by cases h
 | _ :: _,_ :: _,[],_,h=>by cases h
 | x :: xs,y :: ys,z :: zs,h1,h2=>by
  unfold Z1 at h1 h2 ⊢
  by_cases e:x=y
  ·rw[if_pos e] at h1
   subst e
   by_cases e2:x=z
   ·rw[if_pos e2] at h2 ⊢
    exact lex_tr xs ys zs h1 h2
   ·rw[if_neg e2] at h2 ⊢
    exact h2
  ·rw[if_neg e,B7] at h1
   by_cases e2:y=z
   ·subst e2
    rw[if_neg e,B7]
    exact h1
   ·rw[if_neg e2,B7] at h2
    rw[if_neg (by omega),B7]
    omega
def Tl (h:Heap) (k:List Nat) (v:Value):Prop:=∃ b o its n,v=.ref b/\h.get? b=some o/\o.cls=.type "tuple" /\ o.data=.seq its n/\Paired (fun (x:Nat) (u:Value)=>∃ t,u=.int (x:Int) t) k its.toList
theorem Tl.keep {h h':Heap} {k:List Nat} {v:Value} (x:Tl h k v) (e:∀ b o,h.get? b=some o->o.cls=.type "tuple" -> h'.get? b=some o):Tl h' k v:=by
 obtain⟨b,o,its,n,e1,e2,e3,e4,e5⟩:=x
 exact⟨b,o,its,n,e1,e b o e2 e3,e3,e4,e5⟩
section
variable {prog:Program} {w:World} {A:Around} {E:Value->Shared->Prop} {s:Shared}
theorem lex_run {Q:Bool->Shared->Prop}:∀ {k l:List Nat} {xs ys:List Value} (i:Nat),Paired (fun (x:Nat) (u:Value)=>∃ t,u=.int (x:Int) t) k xs->Paired (fun (x:Nat) (u:Value)=>∃ t,u=.int (x:Int) t) l ys->k.length=l.length->Q (Z1 k l) s->KatLex prog w A true false Q (xs.zip ys) i s:=by
 intro k
 induction k with
 | nil=>
  intro l xs ys i h1 h2 hl q
  cases h1
  cases l with
  | nil=>exact kat_nil q
  | cons y l=>cases hl
 | cons x k ih=>
  intro l xs ys i h1 h2 hl q
  cases l with
  | nil=>cases hl
  | cons y l=>
   cases h1 with
   | cons r1 h1=>
    cases h2 with
    | cons r2 h2=>
     obtain⟨t,rfl⟩:=r1
     obtain⟨u,rfl⟩:=r2
     show KatLex prog w A true false Q ((_,_) :: List.zip _ _) i s
     refine kat_cons (wpAny_eqBool_int ?_)
     unfold Z1 at q
     by_cases e:x=y
     ·subst e
      rw[if_pos rfl] at q
      rw[show ((x:Int) == (x:Int))=true by simp]
      exact kat_yes (ih (i+1) h1 h2 (by simpa using hl) q)
     ·rw[if_neg e] at q
      rw[show ((x:Int) == (y:Int))=false by simp;omega]
      have ed:decide ((x:Int) < (y:Int))=decide (x < y):=by simp
      refine kat_no ?_
      cases hb:(true && i == 0) with
      | true=>
       refine oneLt_int ?_
       rw[ed]
       exact q
      | false=>
       refine kat_one _ _ (lt_int ?_)
       rw[ed]
       exact q
theorem tl_lt {k l:List Nat} {v u:Value} {Q:Bool->Shared->Prop} (hv:Tl s.heap k v) (hu:Tl s.heap l u) (hl:k.length=l.length) (q:Q (Z1 k l) s):wpAny (model prog w) A (keyLt' (tuples' true) v u) Q E s:=by
 obtain⟨b,o,its,n,rfl,e2,e3,e4,e5⟩:=hv
 obtain⟨b',o',its',n',rfl,f2,f3,f4,f5⟩:=hu
 have l1:k.length=its.size:=(AQ e5).trans Am
 have l2:l.length=its'.size:=(AQ f5).trans Am
 refine kat_lt e2 e4 f2 f4 ?_
 rw[show decide (its.size < its'.size)=false from AY (by omega)]
 exact lex_run 0 e5 f5 hl q
theorem xI {h:Heap} {L:Nat} {ks:List (List Nat)} {vs:List Value} (hp:Paired (Tl h) ks vs) (hL:∀ k ∈ ks,k.length=L) (L1:1<=L):∃ fs,KatTups h vs fs/\fs.length=vs.length/\∀ f ∈ fs,∃ i t,f=Value.int i t:=by
 induction hp with
 | nil=>exact⟨[],.nil,rfl,fun f hf=>by cases hf⟩
 | @cons k v ks vs r _ ih=>
  obtain⟨fs,h1,h2,h3⟩:=ih fun k hk=>hL k (Ay _ hk)
  obtain⟨b,o,its,n,rfl,e2,e3,e4,e5⟩:=r
  have kl:=hL k As
  cases k with
  | nil=>simp at kl;omega
  | cons x k=>
   obtain⟨u,rest,eu⟩:∃ u rest,its.toList=u :: rest/\∃ t,u=.int (x:Int) t:=by
    generalize its.toList=l at e5
    cases e5 with
    | cons r5 _=>exact⟨_,_,rfl,r5⟩
   obtain⟨eu,t,rfl⟩:=eu
   refine⟨.int x t :: fs,.cons e2 e3 e4 (by rw[<- AZ,eu];rfl) h1,by rw[Az,Az,h2],fun f hf=>?_⟩
   rcases Al.mp hf with rfl | hf
   ·exact⟨_,_,rfl⟩
   ·exact h3 f hf
end
open PySem PySem.Spec PyProof.Rows PySem.W L4
section
variable {prog:Program} {w:World} {A:Around} {E:Value->Shared->Prop} {s:Shared}
end
abbrev Z6 (H:Hp):List Nat->V->Prop:=fun col v=>∃ t,v=.ref t/\H t=some (.tup (col.map nV))
theorem col_tl {P:Program} {w:World} {H:Hp} {h:Heap} (ok:HOk P w H h) {col:List Nat} {b:Addr} (e:H b=some (.tup (col.map nV))):Tl h col (.ref b):=by
 obtain⟨hz,its,rv,o,g1,g2,⟨n,g3⟩,_⟩:=(show qd P w H h b (.tup (col.map nV)) from ok _ _ e)
 refine⟨b,o,_,n,rfl,g1,g2,g3,?_⟩
 clear g1 g2 g3 e hz
 rw[List.toList_toArray]
 generalize hc:col.map nV=xs at rv
 induction rv generalizing col with
 | nil=>
  cases col with
  | nil=>exact .nil
  | cons x col=>cases hc
 | cons r _ ih=>
  cases col with
  | nil=>cases hc
  | cons x col=>
   obtain⟨e1,e2⟩:=CB hc
   subst e1
   exact .cons r (ih e2)
theorem j9 {α β:Type} {F:α->β->Prop} {as:List α} {bs:List β} (h:Paired F as bs) (a0:α) (b0:β) {ids:List Nat} (hi:∀ i ∈ ids,i < bs.length):Paired F (ids.map fun i=>as.getD i a0) (ids.map fun i=>bs.getD i b0):=by
 induction ids with
 | nil=>exact .nil
 | cons i ids ih=>
  have hl:=AQ h
  have hib:=hi i As
  refine .cons ?_ (ih fun j hj=>hi j (Ay _ hj))
  show F (as.getD i a0) (bs.getD i b0)
  rw[AO,AO,AD hib,AD (show i < as.length by omega)]
  exact Paired.at h i _ _ (AD _) (AD _)
theorem Jv {α:Type} (as:List α) (a0:α) {ids:List Nat} (h:ids.Perm (List.range as.length)):(ids.map fun i=>as.getD i a0).Perm as:=by
 refine (h.map _).trans ?_
 have:(List.range as.length).map (fun i=>as.getD i a0)=as:=by
  refine Bd fun i=>?_
  rw[AR]
  by_cases hi:i < as.length
  ·rw[Bz hi,AD hi]
   show some (as.getD i a0)=_
   rw[AO,AD hi]
   rfl
  ·rw[BH (by rw[Aj];omega),BH (by omega)]
   rfl
 rw[this]
section
variable {X:Cx}
def jK (col:List Nat):List Key:=col.map fun (n:Nat)=>(Sum.inl (n:Int):Key)
theorem Qg (col:List Nat):(jK col).map kV=col.map nV:=by
 unfold jK
 rw[BA]
 rfl
theorem xJ {P:Program} {w:World} {H:Hp} {kvs:List (List Key×V)}:∀ {ks:List (List Nat)} {kvs:List (List Key×V)} {xs:List (List Key×Addr×Value)},kvs.map Prod.fst=ks.map jK->Paired (fun (p:List Key×V) (q:List Key×Addr×Value)=>p.1=q.1/\H q.2.1=some (.tup (p.1.map kV))/\RelV p.2 q.2.2) kvs xs ->
  Paired (Z6 H) ks (xs.map fun x=>V.ref x.2.1):=by
 intro ks
 induction ks with
 | nil=>
  intro kvs xs e rp
  cases kvs with
  | nil=>cases rp;exact .nil
  | cons p kvs=>cases e
 | cons k ks ih=>
  intro kvs xs e rp
  cases kvs with
  | nil=>cases e
  | cons p kvs=>
   cases rp with
   | cons hq t=>
    obtain⟨e1,e2⟩:=CB e
    refine .cons ⟨_,rfl,?_⟩ (ih e2 t)
    rw[hq.2.1,e1,Qg]
theorem WN (P:Program) (w:World):∀ (xs:List (List Key×Addr×Value)),(xs.map (entryOfKey (tupleKind (zB P w)))).map (·.key)=xs.map fun x=>Value.ref x.2.1
 | []=>rfl
 | x :: xs=>by
  rw[Ai,Ai,Ai,WN P w xs]
  rfl
theorem WO {d:Addr} (lo:(d == sysModules)=false):Meets (Builtin.«dict.__len__» ⟨[.ref d],[]⟩) (fun _ R s=>∃ es ep,EAt s.heap d es ep/\R (.ok (.ret (.int es.size s.toks))) { s with toks:=s.toks+1 }):=by
 intro prog w A R s ⟨es,ep,hm,hR⟩
 have hT:=hm.ty
 obtain⟨o,ho,hc,hdat⟩:=id hm
 unfold Builtin.«dict.__len__»
 refine AA ?_
 unfold Builtin.Dict.dictSlotNone
 refine AA (CA hT (AF ?_))
 show wpAny _ _ (pure d >>= _) _ _ s
 refine AA (AF ?_)
 unfold dictSize
 refine AA (AA (CD ho hdat (AF ?_)))
 refine AA (wpAny_pendingCount_other lo ?_)
 unfold retInt
 refine AA (wpAny_mkInt ?_)
 exact AF (by simpa using hR)
theorem Jw:qQ X (.builtin "len") (fun xs H Q=>∃ a kvs,xs=[.ref a]/\H a=some (.dT kvs)/\Q (.int (kvs.length:Nat)) H):=by
 intro pins s σ H xs us Q I r h
 obtain⟨a,kvs,rfl,ha,q⟩:=h
 obtain⟨u,rfl,rx⟩:=vals1 r
 cases rx
 obtain⟨z,lo,xs,rp,o,es,ep,h1,h2,h3,h4,h5⟩:=(show qd X.prog X.w H s.heap a (.dT kvs) from I.hok a _ ha)
 have hT:s.TypeIs (.ref a) "dict":=⟨o,h1,h2.1⟩
 have esz:es.size=kvs.length:=by rw[<- Am,h4,AB,AQ rp]
 rw[BS] at z
 refine call_len_meets (n:=es.size) hT F.slot_dict_len F.entry_dict_len (F.args_dict_len_1 _) (WO lo) (by omega) (by omega) (fun Q' hq=>⟨es,ep,⟨o,h1,h2,h3⟩,hq⟩) ?_
 refine⟨.int _,H,I.tok _,⟨_,rfl⟩,?_⟩
 rw[esz]
 exact q
theorem QS (hc:X.calm=true):qQ X (.type "list") (fun xs H Q=>∃ a kvs,∃ ks:List (List Nat),xs=[.ref a]/\H a=some (.dT kvs)/\kvs.map Prod.fst=ks.map jK/\∀ p bs,H p=none->Paired (Z6 H) ks bs->Q (.ref p) (upd H p (.lst bs))):=by
 intro pins s σ H xs us Q I rv h
 obtain⟨a,kvs,ks,rfl,ha,ek,q⟩:=h
 obtain⟨u1,rfl,r2⟩:=vals1 rv
 cases r2
 obtain⟨z,lo,xs,rp,o,es,ep,h1,h2,h3,h4,h5⟩:=(show qd X.prog X.w H s.heap a (.dT kvs) from I.hok a _ ha)
 have hp:=xJ (P:=X.prog) (w:=X.w) (kvs:=kvs) ek rp
 have esz:es.size=xs.length:=by rw[<- Am,h4,AB]
 have xl:=AQ rp
 refine kdl_call (kdl_e (d:=a) (es:=es) (ep:=ep) lo) (I.ok.hd hc) ⟨o,h1,h2,h3⟩ (by omega) fun h' tk acc c kp he hacc=>?_
 have ev:acc.toList=xs.map fun x=>Value.ref x.2.1:=by
  rw[<- WN X.prog X.w,<- h4]
  refine Bd fun i=>?_
  rw[AR,AZ,AZ]
  by_cases hi:i < es.size
  ·have g:acc[i]? = some (acc[i]'(by rw[hacc.1];exact hi)):=BK _
   obtain⟨e,he,ee⟩:=hacc.2 i _ g
   rw[g,he,ee]
   rfl
  ·rw[Bi (by rw[hacc.1];omega),Bi (by omega)]
   rfl
 refine⟨.ref s.heap.objs.size,_,I.laid (a:=s.heap.objs.size) (o:=.lst (xs.map fun x=>V.ref x.2.1)) (t':=tk) kp (AG _) ⟨by rw[AB];omega,acc.toList,c,?_,by simpa using he⟩,rfl,q _ _ (I.hok.fresh (AG _)) hp⟩
 rw[ev]
 clear hp h4 h5 rp he ev esz xl
 induction xs with
 | nil=>exact .nil
 | cons x xs ih=>exact .cons rfl ih
end
section
variable {prog:Program} {w:World} {A:Around} {E:Value->Shared->Prop} {s:Shared} {d it:Addr} {es:Array DictEntry} {ep i:Nat}
theorem iter_v {r:Addr} {Q:Value->Shared->Prop} (hv:s.heap.IsValuesView r d) (hm:EAt s.heap d es ep)
  (hQ:Q (.ref s.heap.objs.size) { s with heap:=s.heap.push { cls:=.type "dict_valueiterator",data:=.fields #[.ref d,.int 0 0,.int es.size 0,.int ep 0] } }) :
  wpAny (model prog w) A (pyIter (.ref r)) Q E s:=by
 obtain⟨ov,hov,hcv,hdv⟩:=id hv
 obtain⟨o,ho,hc,hdat⟩:=id hm
 have hT:s.TypeIs (.ref r) "dict_values":=⟨ov,hov,hcv⟩
 refine Ej hT F.slot_dict_values_iter (A1 F.slot_dict_values_iter hT F.entry_dict_values_iter ?_ (F.args_dict_values_iter_1 _))
 unfold Builtin.«dict_values.__iter__»
 refine AA (AF ?_)
 unfold Builtin.Dict_items.dictOf
 refine AA (AA (A9 hov hdv (by rfl) ?_))
 refine AF ?_
 unfold Builtin.Dict_items.newIterator
 refine AA (AA (CD ho hdat (AA (Cy ho hdat ?_))))
 dsimp only
 rw[if_neg (by decide),if_neg (by decide)]
 exact Au (AF ⟨_,rfl, "dict_valueiterator",_,⟨_,AK _ rfl,rfl⟩,Bt.lookup,hQ⟩)
theorem next_v {Q:Option Value->Shared->Prop} (hit:s.heap.IsValIter it d i es.size ep) (hm:EAt s.heap d es ep) (hi:i < es.size)
  (hQ:∀ h',h'.IsValIter it d (i+1) es.size ep->Heap.SameBut it s.heap h'->Q (some es[i].val) { s with heap:=h' }) :
  wpAny (model prog w) A (pyNext (.ref it)) Q E s:=by
 obtain⟨o,ho,hc,hd⟩:=id hit
 obtain⟨od,hod,hcd,hdd⟩:=id hm
 unfold pyNext
 refine AA (BQ (wpAny_callSpecial?_slot (name:=Str.ofString "__next__") hit.typeIs Bt
  (A1 Bt hit.typeIs F.entry_dict_valueiterator_next ?_ (Er _))))
 refine AA (AF (AA (AA ?_)))
 first | refine AA (CM hit.typeIs (AF ?_)) | refine AA (Ci hit.typeIs (AF ?_))
 refine AA (EQ ho hd ?_)
 simp only[show Builtin.Dict_items.ownsTuple "dict_valueiterator" = false by decide,Bool.false_eq_true,if_false]
 show wpAny _ _ (if (Value.ref d == Value.none)=true then _ else _) _ _ s
 rw[if_neg (show ¬ ((Value.ref d == Value.none)=true) from AX)]
 refine AA (AF (AA (CD hod hdd ?_)))
 rw[if_neg (by simp)]
 refine AA (AF (AA (Cy hod hdd ?_)))
 rw[if_neg (by simp)]
 refine AF ?_
 simp only[show ¬ ((i:Int) < 0) from by omega,if_false,Int.toNat_natCast,Array.getElem?_eq_getElem hi]
 refine AA ?_
 first | refine AA (CM hit.typeIs (AF ?_)) | refine AA (Ci hit.typeIs (AF ?_))
 refine AA (EG hit.typeIs ?_)
 show wpAny _ _ (setField (.ref it) 1 (rawInt ((i:Int)+1)) >>= _) _ _ s
 refine AA (B6 ho hd (by simp) ?_)
 have hit':(s.heap.update it (Obj.mapFields (·.setIfInBounds 1 (rawInt ((i:Int)+1))))).IsValIter it d (i+1) es.size ep:=
  ⟨_,A8 _ ho (CV (Bb hd _)),(Dj ..).trans hc,by rw[Bb hd];simp[rawInt]⟩
 refine AA (A4 ?_)
 refine AA (EG (s:={ s with heap:=s.heap.update it (Obj.mapFields (·.setIfInBounds 1 (rawInt ((i:Int)+1)))) }) hit'.typeIs ?_)
 rw[if_neg (by decide)]
 refine AA (EG (s:={ s with heap:=s.heap.update it (Obj.mapFields (·.setIfInBounds 1 (rawInt ((i:Int)+1)))) }) hit'.typeIs ?_)
 rw[if_pos (by decide)]
 exact AF (AF ⟨_,rfl,AF (hQ _ hit' (B4 ..))⟩)
theorem last_v {Q:Option Value->Shared->Prop} (hh:A.handled=none) (hit:s.heap.IsValIter it d es.size es.size ep) (hm:EAt s.heap d es ep)
  (hQ:∀ h',Heap.ExtBut it s.heap h'->Q none { s with heap:=h' }):wpAny (model prog w) A (pyNext (.ref it)) Q E s:=by
 obtain⟨o,ho,hc,hd⟩:=id hit
 obtain⟨od,hod,hcd,hdd⟩:=id hm
 unfold pyNext
 refine AA (BQ (wpAny_callSpecial?_slot (name:=Str.ofString "__next__") hit.typeIs Bt
  (A1 Bt hit.typeIs F.entry_dict_valueiterator_next ?_ (Er _))))
 refine AA (AF (AA (AA ?_)))
 first | refine AA (CM hit.typeIs (AF ?_)) | refine AA (Ci hit.typeIs (AF ?_))
 refine AA (EQ ho hd ?_)
 simp only[show Builtin.Dict_items.ownsTuple "dict_valueiterator" = false by decide,Bool.false_eq_true,if_false]
 show wpAny _ _ (if (Value.ref d == Value.none)=true then _ else _) _ _ s
 rw[if_neg (show ¬ ((Value.ref d == Value.none)=true) from AX)]
 refine AA (AF (AA (CD hod hdd ?_)))
 rw[if_neg (by simp)]
 refine AA (AF (AA (Cy hod hdd ?_)))
 rw[if_neg (by simp)]
 refine AF ?_
 simp only[show ¬ ((es.size:Int) < 0) from by omega,if_false,Int.toNat_natCast,Array.getElem?_eq_none (Nat.le_refl es.size)]
 refine AA ?_
 first | refine AA (CM hit.typeIs (AF ?_)) | refine AA (Ci hit.typeIs (AF ?_))
 show wpAny _ _ (setField (.ref it) 0 .none >>= _) _ _ s
 refine AA (B6 ho hd (by simp) ?_)
 show wpAny _ _ (newExc (.type "StopIteration") [] >>= _) _ _ _
 refine AA ?_
 simp only[newExc,newTuple]
 refine AA (Au ?_ (by size_fits))
 refine AA (m:=firstArgMember _ _) (Bh (a:=Value.none) (by first | rfl | (simp only[firstArgMember];rfl)) ?_)
 refine Au ?_ (by size_fits)
 simp only[raiseNew]
 refine AA (Ee ?_)
 rw[show A.in1.handled=none from hh]
 refine AA (AF (wpAny_throw ?_))
 refine AA (Br (T := "StopIteration") (b:=true) ⟨_,AK _ rfl,rfl⟩ ER ?_)
 exact AF (hQ _ (((B4 ..).extBut.push _).push _))
theorem walks_v (hh:A.handled=none) (I:Addr) (hne:d ≠ I):Walks prog w A I [I,d] [I] es.size (fun i v=>∃ e,es[i]? = some e/\v=e.val) (fun i h=>h.IsValIter I d i es.size ep/\EAt h d es ep) where
 sub:=fun b hb=>by simp at hb;simp[hb]
 frame:=fun _ _ _ st hk=>⟨st.1.at fun o e=>hk I (by simp) o e,st.2.keep fun o e=>hk d (by simp) o e⟩
 item:=fun i s Q E hi st hQ=>next_v st.1 st.2 hi fun h' hit' hs'=>hQ _ h' s.toks ⟨_,BK hi,rfl⟩ ⟨hit',st.2.keep fun o e=>hs'.extBut d o hne e⟩ fun b o hb e=>hs'.extBut b o (fun h=>hb (by simp[h])) e
 done:=fun s Q E st hQ=>last_v hh st.1 st.2 fun h' he'=>hQ h' s.toks fun b o hb e=>he' b o (fun h=>hb (by simp[h])) e
 self:=fun _ _ _ _ st hQ=>wpAny_pyIter_valiter st.1 hQ
theorem kdl_v {r:Addr} (hr:r ≠ d):KdlSrc prog w "dict_values" r d es.size (fun i v=>∃ e,es[i]? = some e/\v=e.val) (fun h=>h.IsValuesView r d/\EAt h d es ep) where
 type:=fun s hm=>by
  obtain⟨o,h1,h2,_⟩:=hm.1
  exact⟨o,h1,h2⟩
 there:=fun _ hm=>by
  obtain⟨o,h1,_⟩:=hm.1
  exact⟨AL h1,hm.2.lt⟩
 keep:=fun _ _ hm hk=>⟨by obtain⟨o,h1,h2,h3⟩:=hm.1;exact⟨o,hk r (.inl rfl) o h1,h2,h3⟩,hm.2.keep fun o e=>hk d (.inr rfl) o e⟩
 notList:=by decide
 notTuple:=by decide
 hint:=fun _ _ _ _ hm hq=>by
  obtain⟨o,h1,h2,_⟩:=hm.1
  exact kdl_hint_values ⟨o,h1,h2⟩ hq
 iter:=fun _ _ hh hm=>⟨_,_,(fun _ _ hq=>iter_v hm.1 hm.2 hq),walks_v hh _ (AU hm.2.lt),⟨⟨_,AK _ rfl,rfl,rfl⟩,hm.2.keep fun o e=>AC _ e⟩⟩
theorem Jb (lo:(d == sysModules)=false):Meets (Builtin.«dict.values» ⟨[.ref d],[]⟩) (fun _ R s=>EAt s.heap d es ep/\R (.ok (.ret (.ref s.heap.objs.size))) { s with heap:=s.heap.push { cls:=.type "dict_values",data:=.fields #[.ref d] } }):=by
 intro prog w A R s ⟨hm,hR⟩
 have hT:=hm.ty
 unfold Builtin.«dict.values»
 show wpAny _ _ (Builtin.Dict.noArgs "values" ⟨[.ref d],[]⟩ >>= fun d=>Builtin.Dict.showsAll d >>= fun _=>newFields "dict_values" [Value.ref d] >>= fun x=>ret x) _ _ _
 refine AA ?_
 unfold Builtin.Dict.noArgs
 refine AA (CA hT ?_)
 unfold Builtin.Dict.nameIsSure
 show wpAny _ _ (pure () >>= fun _=>pure (Value.ref d) >>= fun x=>Builtin.Dict.addrOf x) _ _ _
 refine AA (AF (AA (AF (AF ?_))))
 unfold Builtin.Dict.showsAll
 rw[if_neg (by rw[lo];exact AX)]
 exact AA (AF (AA (Au (AF hR))))
end
section
variable {X:Cx}
def ViewO (r d:Addr):HO:=.ext fun h=>h.IsValuesView r d
def tDVals (te:TE):TE:=fun σ H Q=>te σ H fun x H1=>∃ d kvs,x=.ref d/\H1 d=some (.dT kvs)/\∀ r,H1 r=none->Q (.ref r) (upd H1 r (ViewO r d))
theorem pe_dvals {o:Expr} {apos cpos:Pos} {to:TE} (ho:PE X o to) (hbase:attributeBase o "values" X.env (eval o X.env)=eval o X.env:=by rfl) (hline:(apos.endLine == cpos.line)=true:=by rfl) :
  PE X (.Call (.Attribute o "values" apos) [] [] cpos) (tDVals to):=by
 intro pins s σ H Q I h
 refine wpAny_Call_method0_late hbase hline (thn (ho pins s σ H _ I h) fun v s1 ⟨x,H1,I1,rx,d,kvs,ex,hd,q⟩=>?_)
 subst ex
 obtain⟨h1,h2⟩:=YR I1 rx (show tyV X.K "dict" (.ref d) H1 from .inr (.inr (.inl ⟨rfl,.inr ⟨kvs,hd⟩⟩)))
 obtain rfl:v=Value.ref d:=rx
 obtain⟨z,lo,xs,rp,ob,es,ep,e1,e2,e3,e4,e5⟩:=(show qd X.prog X.w H1 s1.heap d (.dT kvs) from I1.hok d _ hd)
 refine⟨"dict", "dict.values",PySem.F.plainAttrs_dict,PySem.F.slot_dict_values,PySem.F.type_dict_values,h1,h2,D7 rfl (PySem.evalArgs_none ?_)⟩
 refine Bs PySem.F.slot_dict_values ⟨ob,e1,e2.1⟩ PySem.F.entry_dict_values (PySem.F.args_dict_values_1 _) (Jb (es:=es) (ep:=ep) lo) ⟨⟨ob,e1,e2,e3⟩,?_⟩
 have hv:(s1.heap.push { cls:=.type "dict_values",data:=.fields #[.ref d] }).IsValuesView s1.heap.objs.size d:=⟨_,AK _ rfl,rfl,rfl⟩
 refine⟨.ref s1.heap.objs.size,_,I1.laid (a:=s1.heap.objs.size) (o:=ViewO s1.heap.objs.size d) (t':=s1.toks) (fun _ _ e=>AC _ e) (AG _) ⟨hv,⟨_,AK _ rfl⟩,fun h1 h2 hp k=>?_⟩,rfl,q _ (I1.hok.fresh (AG _))⟩
 obtain⟨o,g1,g2,g3⟩:=hp
 exact⟨o,k o g1,g2,g3⟩
theorem Yj (hc:X.calm=true):qQ X (.type "list") (fun xs H Q=>∃ r a kvs,xs=[.ref r]/\H r=some (ViewO r a)/\r ≠ a/\H a=some (.dT kvs)/\∀ p,H p=none->Q (.ref p) (upd H p (.lst (kvs.map Prod.snd)))):=by
 intro pins s σ H xs us Q I rv h
 obtain⟨r,a,kvs,rfl,hr,ra,ha,q⟩:=h
 obtain⟨u1,rfl,r2⟩:=vals1 rv
 cases r2
 obtain⟨z,lo,xs,rp,o,es,ep,h1,h2,h3,h4,h5⟩:=(show qd X.prog X.w H s.heap a (.dT kvs) from I.hok a _ ha)
 have hv:s.heap.IsValuesView r a:=(I.hok r _ hr).1
 have esz:es.size=xs.length:=by rw[<- Am,h4,AB]
 have xl:=AQ rp
 refine kdl_call (kdl_v (d:=a) (r:=r) (es:=es) (ep:=ep) ra) (I.ok.hd hc) ⟨hv,o,h1,h2,h3⟩ (by omega) fun h' tk acc c kp he hacc=>?_
 have ev:acc.toList=xs.map fun x=>x.2.2:=by
  have e0:es.toList.map (·.val)=xs.map fun x=>x.2.2:=by
   rw[h4,BA]
   rfl
  rw[<- e0]
  refine Bd fun i=>?_
  rw[AR,AZ,AZ]
  by_cases hi:i < es.size
  ·have g:acc[i]? = some (acc[i]'(by rw[hacc.1];exact hi)):=BK _
   obtain⟨e,he,ee⟩:=hacc.2 i _ g
   rw[g,he,ee]
   rfl
  ·rw[Bi (by rw[hacc.1];omega),Bi (by omega)]
   rfl
 refine⟨.ref s.heap.objs.size,_,I.laid (a:=s.heap.objs.size) (o:=.lst (kvs.map Prod.snd)) (t':=tk) kp (AG _) ⟨by rw[AB];omega,acc.toList,c,?_,by simpa using he⟩,rfl,q _ (I.hok.fresh (AG _))⟩
 rw[ev]
 clear h4 h5 he ev esz xl ha z q
 induction rp with
 | nil=>exact .nil
 | cons hq _ ih=>exact .cons hq.2.2 ih
end
open PySem PySem.Spec PyProof.Rows L4
section
variable {X:Cx}
def tpAt (H:Hp) (ys:List V):Value->Bool
 | .ref a=>match H a with
  | some (.tup zs)=>QG zs ys
  | _=>false
 | _=>false
theorem Zv:∀ (k l:List Nat),k.length=l.length->QG (k.map nV) (l.map nV)=decide (k=l)
 | [],[],_=>rfl
 | [],_ :: _,h=>by cases h
 | _ :: _,[],h=>by cases h
 | x :: k,y :: l,h=>by
  have ih:=Zv k l (by simpa using h)
  unfold QG at ih ⊢
  rw[Ai,Ai,EJ,C9]
  have e1:eqV (nV x) (nV y)=decide (x=y):=by
   show decide ((x:Int)=(y:Int))=_
   by_cases q:x=y
   ·rw[q];simp
   ·rw[AY q];exact AY fun z=>q (EC.mp z)
  have e2:(((nV x :: k.map nV).length == (nV y :: l.map nV).length))=((k.map nV).length == (l.map nV).length):=by simp
  rw[e2,Bool.and_assoc,ih]
  show (eqV (nV x) (nV y) && decide (k=l))=_
  rw[e1]
  by_cases a:x=y <;> by_cases b:k=l <;> simp[a,b]
def rIndexC:V->List V->Hp->VK->Prop:=fun x vs H Q=>∃ (p b:Addr) (xs:List V) (ks:List (List Nat)) (col:List Nat) (j:Nat),x=.ref p/\vs=[.ref b]/\H p=some (.lst xs)/\Paired (Z6 H) ks xs/\(∀ k ∈ ks,k.length=col.length)/\H b=some (.tup (col.map nV))/\ks[j]? = some col/\(∀ m,m < j->ks[m]? ≠ some col)/\Q (nV j) H
theorem xK {k:Nat} (hr:jY k X.A):MtR X "list.index" rIndexC:=by
 intro pins s σ H x vs v us Q I rx rv h
 obtain⟨p,b,xs,ks,col,j,rfl,rfl,hq,hL,hf,hb,hj,hno,q⟩:=h
 cases rx
 obtain⟨u,rfl,ru⟩:=vals1 rv
 cases ru
 obtain⟨z,its,n,r,hlen,e⟩:=I.lstM hq
 obtain⟨itb,rb,pb,_⟩:=I.tuple (SqT.of (K:=X.K) hb)
 have hu:X.A.units+64 < cLine:=hr.units
 have hxl:=AQ hL
 have fl:∀ c:List Nat,(c.map nV).all Zm=true:=fun c=>by
  rw[Bf]
  intro v hv
  obtain⟨m,_,rfl⟩:=AW.mp hv
  rfl
 have at_:∀ m (hm:m < its.toArray.size),∃ a c,its.toArray[m]=.ref a/\H a=some (.tup (c.map nV))/\ks[m]? = some c:=fun m hm=>by
  have hm':m < xs.length:=by
   rw[hlen]
   simpa using hm
  have k1:xs[m]? = some xs[m]:=AD hm'
  obtain⟨w,e1,r1⟩:=r.get k1
  have w1:its.toArray[m]=w:=by
   have g1:m < its.length:=by simpa using hm
   rw[AD g1] at e1
   simpa using AH e1
  have k2:ks[m]? = some (ks[m]'(by omega)):=AD (by omega)
  obtain⟨v',k3,a,ea,ha⟩:=Yf hL k2
  rw[k1] at k3
  cases k3
  rw[ea] at r1
  cases r1
  exact⟨a,_,w1,ha,k2⟩
 have te:∀ m (hm:m < its.toArray.size) c,ks[m]? = some c->tpAt H (col.map nV) its.toArray[m]=decide (c=col):=fun m hm c hc=>by
  obtain⟨a,c',e1,e2,e3⟩:=at_ m hm
  rw[hc] at e3
  cases e3
  rw[e1]
  show (match H a with | some (.tup zs)=>QG zs (col.map nV) | _=>false)=_
  rw[e2]
  exact Zv _ _ (hf c (AN hc))
 have hjy:=(AE.mp hj).1
 have hjl:j < its.toArray.size:=by
  simp
  omega
 have hjs:(j:Int) < 2 ^ 63 - 1:=by
  have:(sizeLine:Nat)<=2 ^ 60:=by decide
  have h2:j < 2 ^ 60:=by omega
  omega
 refine Bs F.slot_list_index ⟨_,e,rfl⟩ F.entry_list_index (F.args_list_index_2 _ _) (SeqAt.list_indexAt p its.toArray n none #[] (.ref b) (tpAt H (col.map nV)) j hjl hjs ?_ ?_) ⟨e,fun w hw=>?_,⟨.int _,H,I.tok _,⟨_,rfl⟩,q⟩⟩
 ·rw[te j hjl col hj]
  exact Ak rfl
 ·intro m hm hmj
  obtain⟨a,c,_,_,e3⟩:=at_ m hm
  rw[te m hm c e3]
  exact AY fun z=>hno m hmj (by rw[e3,z])
 ·obtain⟨m,hm,rfl⟩:=Array.mem_iff_getElem.mp hw
  obtain⟨a,c,e1,e2,e3⟩:=at_ m hm
  have f2:=hf c (AN e3)
  rw[te m hm c e3,e1]
  by_cases hab:a=b
  ·subst hab
   rw[hb] at e2
   have:c=col:=by
    have h1:=HO.tup.inj (AH e2)
    have h2:=BL (fun l=>QG l (c.map nV)) h1
    rw[Zv _ _ f2.symm,Zv _ _ rfl] at h2
    exact (BE (h2.trans (Ak rfl))).symm
   rw[Ak this]
   exact EB _
  ·obtain⟨ita,ra,pa,_⟩:=I.tuple (SqT.of (K:=X.K) e2)
   have m1:=ra.length
   have m2:=rb.length
   rw[AB] at m1 m2
   have z:=DB (A:=X.A.in1.in1) (s:=s) pa pb (by show X.A.units+1+1 < cLine;omega) (Qo ra rb (fl c) (fl col))
   have z1:ita.toArray.size=c.length:=by rw[Aa];exact m1.symm
   have z2:itb.toArray.size=col.length:=by rw[Aa];exact m2.symm
   have e5:min ita.toArray.size itb.toArray.size=(c.map nV).length:=by rw[z1,z2,f2,EU,AB,f2]
   rw[e5,Zr _ _ (by rw[AB,AB,f2]),z1,z2] at z
   have e6:((((c.map nV).zip (col.map nV)).all fun p=>eqV p.1 p.2) && c.length == col.length)=decide (c=col):=by
    rw[<- Zv _ _ f2]
    unfold QG
    rw[AB,AB]
   rw[e6] at z
   exact SeqAt.EqAt.of_in1 (Eg hab z)
end
open Builtin
theorem JQ (l:Addr) (items:Array Value) (n:Nat) (dd:Option Addr) (sl:Array (Option Value)) (u:Tok) :
  Meets (Builtin.«tuple.__mul__» ⟨[.ref l,.int 1 u],[]⟩) (fun _ R s=>s.heap.get? l=some { cls:=.type "tuple",dict:=dd,data:=.seq items n,slots:=sl }/\R (.ok (.ret (Value.ref l))) s):=
 .of_wp fun prog w A R s h=>by
  obtain⟨hp,g,d,tk,os⟩:=s;obtain⟨hl,h⟩:=h
  wp_walk
  exact⟨_,rfl,h⟩
theorem Jc (l:Addr) (items:Array Value) (n:Nat) (dd:Option Addr) (sl:Array (Option Value)) (u:Tok) (hi:items.isEmpty=false) :
  Meets (Builtin.«tuple.__mul__» ⟨[.ref l,.int 0 u],[]⟩) (fun _ R s=>s.heap.get? l=some { cls:=.type "tuple",dict:=dd,data:=.seq items n,slots:=sl }/\R (.ok (.ret (Value.ref s.heap.objs.size))) { s with heap:=s.heap.push { cls:=Value.type "tuple",data:=Data.seq #[] } }):=
 .of_wp fun prog w A R s h=>by
  obtain⟨hp,g,d,tk,os⟩:=s;obtain⟨hl,h⟩:=h
  wp_walk
  exact⟨_,rfl,h⟩
section
variable {X:Cx}
def rRep01 (K:Fs):R2:=fun x y H Q=>∃ a xs,x=.ref a/\SqT K H a xs/\((y=.int 1/\Q (.ref a) H)\/(y=.int 0/\xs ≠ []/\∀ p,H p=none->Q (.ref p) (upd H p (.tup []))))
theorem op_rep01 (K:Fs) (hK:X.K=K:=by rfl):OpR X (binaryOp .Mult) (rRep01 K):=by
 subst hK
 intro pins s σ H x y v u Q I rx ry h
 obtain⟨a,xs,rfl,ha,h⟩:=h
 cases rx
 obtain⟨its,r1,p1,_⟩:=I.tuple ha
 obtain⟨⟨cls,dd,data,sl⟩,ho,hc,n,hd⟩:=id p1
 simp only at hc hd
 subst hc hd
 rcases h with ⟨rfl,q⟩ | ⟨rfl,hne,q⟩
 ·obtain⟨t,rfl⟩:=ry
  refine Ch (T := "tuple") (U := "int") (by decide) ⟨_,ho,rfl⟩ (fun s'=>Cz s' 1 t) jq EE CC Zs Dw.lookup
   (Bs CC (Cz s 1 t) Dx (Dn _ _) (jP 1 t a its.toArray n dd sl)
    ⟨ho,rfl,⟨_,ho,rfl⟩,Bs DL ⟨_,ho,rfl⟩ Ep (Eh _ _) (JQ a its.toArray n dd sl t) ⟨ho,?_⟩⟩)
  exact⟨.ref a,H,I,rfl,q⟩
 ·obtain⟨t,rfl⟩:=ry
  have hin:its ≠ []:=fun z=>hne ((qi.nil_iff r1).mp z)
  refine Ch (T := "tuple") (U := "int") (by decide) ⟨_,ho,rfl⟩ (fun s'=>Cz s' 0 t) jq EE CC Zs Dw.lookup
   (Bs CC (Cz s 0 t) Dx (Dn _ _) (jP 0 t a its.toArray n dd sl)
    ⟨ho,rfl,⟨_,ho,rfl⟩,Bs DL ⟨_,ho,rfl⟩ Ep (Eh _ _) (Jc a its.toArray n dd sl t (by simpa using hin)) ⟨ho,?_⟩⟩)
  exact⟨.ref s.heap.objs.size,_,I.laid (t':=s.toks) (o:=.tup []) (fun b o e=>AC _ e) (AG _) ⟨A6 _,[],.nil,Ys.new _ _⟩,rfl,q _ (I.hok.fresh (AG _))⟩
end
section
variable {X:Cx}
section
variable {pins:List (Addr × Obj)} {σ:St} {H:Hp} {s:Shared} {a:Addr} {xs:List V}
theorem yB (I:Inv X pins σ H s) {t:Addr} {c:List V} (ht:SqT X.K H t c):isIn X.K H xs (.ref t)=QG c xs:=by
 classical
 unfold isIn
 cases hc:QG c xs with
 | true=>exact Ak ⟨t,c,rfl,ht,hc⟩
 | false=>
  refine AY ?_
  rintro⟨t',c',e,ht',hc'⟩
  cases e
  rw[I.tuple_inj ht' ht,hc] at hc'
  cases hc'
theorem isIn_mem (I:Inv X pins σ H s) {j:Nat} (hr:jY j X.A) (ha:SqT X.K H a xs) (fx:xs.all Zm=true) {cs:List (List V)} {ys:List V} (tk:WG X.K H xs.length cs ys) {us:List Value} (rv:qi ys us):∀ w ∈ us,SeqAt.EqAt X.A.in1 s w (.ref a) (isIn X.K H xs w):=by
 have hu:X.A.units+64 < cLine:=hr.units
 obtain⟨xu,xr,xp,_⟩:=I.tuple ha
 unfold WG at tk
 induction tk generalizing us with
 | nil=>
  intro w hw
  cases rv
  cases hw
 | @cons c v cs ys hc t ih=>
  intro w hw
  cases rv with
  | @cons _ u1 _ us1 hu1 rv=>
   rcases Al.mp hw with rfl | hw
   ·obtain⟨t1,rfl,ht1,n1,f1⟩:=hc
    cases hu1
    rw[yB I ht1]
    by_cases tt:t1=a
    ·subst tt
     rw[I.tuple_inj ht1 ha,Y8 fx]
     exact EB _
    ·obtain⟨us',v1,p1,_⟩:=I.tuple ht1
     have m1:=v1.length
     have m2:=xr.length
     have z:=DB (A:=X.A.in1) (s:=s) p1 xp (by show X.A.units+1 < cLine;omega) (Qo v1 xr f1 fx)
     have e:((List.range (min us'.toArray.size xu.toArray.size)).all (fun j'=>eqV (c.getD j' .non) (xs.getD j' .non)) && us'.toArray.size == xu.toArray.size)=QG c xs:=by
      have z1:us'.toArray.size=c.length:=by rw[Aa];exact m1.symm
      have z2:xu.toArray.size=xs.length:=by rw[Aa];exact m2.symm
      have e5:min us'.toArray.size xu.toArray.size=c.length:=by rw[z1,z2,n1,EU]
      rw[e5,Zr _ _ n1,z1,z2]
      rfl
     rw[e] at z
     exact Eg tt z
   ·exact ih rv w hw
theorem isIn_any (I:Inv X pins σ H s) {cs:List (List V)} {ys:List V} (tk:WG X.K H xs.length cs ys) {us:List Value} (rv:qi ys us):us.toArray.any (isIn X.K H xs)=cs.any fun c=>QG c xs:=by
 rw[show us.toArray.any (isIn X.K H xs)=us.any (isIn X.K H xs) by simp]
 unfold WG at tk
 induction tk generalizing us with
 | nil=>
  cases rv
  rfl
 | @cons c v cs ys hc t ih=>
  cases rv with
  | @cons _ u1 _ us1 hu1 rv=>
   obtain⟨t1,rfl,ht1,n1,f1⟩:=hc
   cases hu1
   rw[C8,C8,yB I ht1,ih rv]
end
end
abbrev SM:=StateT SortSt Sem
def Yv:Bool->Keyed->Array Keyed->Nat->Nat->Nat->SM (Option Nat):=sortPriv% PySem.Builtin.gallop
def mLo':Array Keyed->Array Keyed->SM (Array Keyed):=sortPriv% PySem.Builtin.mergeLo
def mHi':Array Keyed->Array Keyed->SM (Array Keyed):=sortPriv% PySem.Builtin.mergeHi
def bey' (lf:Bool) (ky:Keyed) (ar:Array Keyed) (bs i:Nat):SM (Option Bool):=do
 let z <- elem' ar (bs+i)
 if lf then lt' z ky else return (<- lt' ky z).map (!·)
theorem gal_eq (lf:Bool) (ky:Keyed) (ar:Array Keyed) (bs n hn:Nat):Yv lf ky ar bs n hn=(do
 let mut la:=0
 let mut of:=1
 let mut lo:=0
 let mut hi:=0
 let some rt <- bey' lf ky ar bs hn | return none
 if rt then
  let mx:=n - hn
  for _ in [0:n] do
   if of ≥ mx then break
   let some mo <- bey' lf ky ar bs (hn+of) | return none
   if !mo then break
   la:=of
   of:=2 * of+1
  lo:=hn+la+1
  hi:=hn+min of mx
 else
  let mx:=hn+1
  for _ in [0:n] do
   if of ≥ mx then break
   let some fd <- bey' lf ky ar bs (hn - of) | return none
   if fd then break
   la:=of
   of:=2 * of+1
  lo:=hn+1 - min of mx
  hi:=hn - la
 for _ in [0:n] do
  if lo ≥ hi then break
  let m:=lo+(hi - lo) / 2
  let some mo <- bey' lf ky ar bs m | return none
  if mo then lo:=m+1 else hi:=m
 return some hi):=rfl
structure Cm (prog:Program) (w:World) (A:Around) (s:Shared) (κ:SortKind) (it:List Keyed) (R:Keyed->Keyed->Bool):Prop where
 lt:∀ x ∈ it,∀ y ∈ it,∀ Q:Bool->Shared->Prop,Q (R x y) s->wpAny (model prog w) A (keyLt' κ x.1 y.1) Q (fun _ _=>False) s
 asym:∀ x ∈ it,∀ y ∈ it,R x y=true->R y x=false
 tot:∀ x ∈ it,∀ y ∈ it,x ≠ y->R x y=false->R y x=true
 tr:∀ x ∈ it,∀ y ∈ it,∀ z ∈ it,R x y=true->R y z=true->R x z=true
section
variable {prog:Program} {w:World} {A:Around} {E:Value->Shared->Prop} {s:Shared} {κ:SortKind} {it:List Keyed} {R:Keyed->Keyed->Bool} {st:SortSt}
theorem xL (C:Cm prog w A s κ it R) {x y:Keyed} {Q:Option Bool->SortSt->Prop} (hk:kindOf st=κ) (hx:x ∈ it) (hy:y ∈ it) (h:Q (some (R x y)) st):wpS (model prog w) A E s (lt' x y) Q st:=by
 rw[lt'_eq]
 refine AT (wpS_get ?_)
 rw[hk]
 refine AT (wpS_lift (BQ (Bp (C.lt x hx y hy (fun b s'=>b=R x y/\s'=s) ⟨rfl,rfl⟩) (fun b s' hb=>?_) fun _ _ z=>z.elim)))
 obtain⟨rfl,rfl⟩:=hb
 exact⟨rfl,Ab h⟩
theorem jD {M:Model} {ar:Array Keyed} {i:Nat} {x:Keyed} {Q:Keyed->SortSt->Prop} (h:ar[i]? = some x) (q:Q x st):wpS M A E s (elem' ar i) Q st:=by
 rw[elem'_eq,h]
 exact Ab q
theorem tm_bey (C:Cm prog w A s κ it R) {lf:Bool} {ky z:Keyed} {ar:Array Keyed} {bs i:Nat} {Q:Option Bool->SortSt->Prop} (hk:kindOf st=κ) (hz:z ∈ it) (hy:ky ∈ it) (he:ar[bs+i]? = some z) (h:Q (some (if lf then R z ky else !R ky z)) st):wpS (model prog w) A E s (bey' lf ky ar bs i) Q st:=by
 unfold bey'
 refine AT (jD he ?_)
 cases lf with
 | true=>exact xL C hk hz hy h
 | false=>exact AT (xL C hk hy hz (Ab h))
theorem tm_bis {M:Model} {n:Nat} {f:Nat->Bool} {b:Nat->SM (Option Bool)} (B:∀ (i:Nat) (Q':Option Bool->SortSt->Prop),i < n->Q' (some (f i)) st->wpS M A E s (b i) Q' st) {lo hi:Nat} (e1:lo<=hi) (e2:hi<=n) (e3:∀ i,i < lo->f i=true) (e4:∀ i,hi<=i->i < n->f i=false) (mo:∀ i j,i<=j->j < n->f j=true->f i=true)
  {K:Option (Option Nat)×Nat×Nat->SM (Option Nat)} {Q:Option Nat->SortSt->Prop} (hK:∀ k,k<=n->(∀ i,i < k->f i=true)->(∀ i,k<=i->i < n->f i=false)->wpS M A E s (K (none,k,k)) Q st) :
  wpS M A E s (forIn [0:n] ((none,lo,hi):Option (Option Nat)×Nat×Nat) (fun _ c=>if c.2.1 ≥ c.2.2 then pure (ForInStep.done (none,c.2.1,c.2.2)) else do
   let z <- b (c.2.1+(c.2.2 - c.2.1) / 2)
   match z with
   | some m=>if m=true then pure (ForInStep.yield (none,c.2.1+(c.2.2 - c.2.1) / 2+1,c.2.2)) else pure (ForInStep.yield (none,c.2.1,c.2.1+(c.2.2 - c.2.1) / 2))
   | _=>pure (ForInStep.done (some none,c.2.1,c.2.2))) >>= K) Q st:=by
 refine AT (Bk (BR (I:=fun x c st'=>st=st'/\∃ lo hi,c=(none,lo,hi)/\hi - lo+x<=n/\lo<=hi/\hi<=n/\(∀ i,i < lo->f i=true)/\∀ i,hi<=i->i < n->f i=false) (Q:=fun c st'=>st=st'/\∃ hi,c=(none,hi,hi)/\hi<=n/\(∀ i,i < hi->f i=true)/\∀ i,hi<=i->i < n->f i=false) ?_ ?_ ⟨rfl,lo,hi,rfl,by omega,e1,e2,e3,e4⟩) ?_)
 ·rintro i c st' _ hi ⟨rfl,lo,hi,rfl,a1,a2,a3,a4,a5⟩
  dsimp only
  by_cases c1:lo ≥ hi
  ·rw[if_pos c1]
   obtain rfl:lo=hi:=by omega
   exact Ab ⟨rfl,lo,rfl,a3,a4,a5⟩
  rw[if_neg c1]
  refine AT (B _ _ (by omega) ?_)
  dsimp only
  cases h2:f (lo+(hi - lo) / 2) with
  | true=>exact Ab ⟨rfl,_,_,rfl,by omega,by omega,a3,fun i hi'=>mo i _ (by omega) (by omega) h2,a5⟩
  | false=>
   refine Ab ⟨rfl,_,_,rfl,by omega,by omega,by omega,a4,fun i hi' hin=>?_⟩
   cases hh:f i with
   | false=>rfl
   | true=>
    rw[mo _ i hi' hin hh] at h2
    cases h2
 ·rintro c st' ⟨rfl,lo,hi,rfl,a1,a2,a3,a4,a5⟩
  obtain rfl:lo=hi:=by omega
  exact⟨rfl,lo,rfl,a3,a4,a5⟩
 rintro c st' ⟨rfl,k,rfl,k1,k2,k3⟩
 exact hK k k1 k2 k3
theorem Jx (C:Cm prog w A s κ it R) {lf:Bool} {ky:Keyed} {ar:Array Keyed} {bs n hn:Nat} {f:Nat->Bool} {Q:Option Nat->SortSt->Prop} (hk:kindOf st=κ) (hy:ky ∈ it) (hf:∀ i,i < n->∃ z,ar[bs+i]? = some z/\z ∈ it/\f i=if lf then R z ky else !R ky z)
  (mo:∀ i j,i<=j->j < n->f j=true->f i=true) (h0:hn < n) (q:∀ k,k<=n->(∀ i,i < k->f i=true)->(∀ i,k<=i->i < n->f i=false)->Q (some k) st):wpS (model prog w) A E s (Yv lf ky ar bs n hn) Q st:=by
 have B:∀ (i:Nat) (Q':Option Bool->SortSt->Prop),i < n->Q' (some (f i)) st->wpS (model prog w) A E s (bey' lf ky ar bs i) Q' st:=fun i Q' hi h=>by
  obtain⟨z,h1,h2,h3⟩:=hf i hi
  rw[h3] at h
  exact tm_bey C hk h2 hy h1 h
 have nf:∀ i j,i<=j->j < n->f i=false->f j=false:=fun i j hij hj h=>by
  cases hh:f j with
  | false=>rfl
  | true=>
   rw[mo i j hij hj hh] at h
   cases h
 rw[gal_eq]
 dsimp only
 refine AT (B hn _ h0 ?_)
 dsimp only
 cases h1:f hn with
 | true=>
  rw[if_pos rfl]
  refine AT (Bk (BR (I:=fun x c st'=>st=st'/\∃ la of,c=(none,la,of)/\x+1<=of/\la < of/\hn+la < n/\f (hn+la)=true) (Q:=fun c st'=>st=st'/\∃ la of,c=(none,la,of)/\la < of/\hn+la < n/\f (hn+la)=true/\(n - hn<=of\/f (hn+of)=false)) ?_ ?_ ⟨rfl,0,1,rfl,AG _,by decide,h0,h1⟩) ?_)
  ·rintro i c st' _ hi ⟨rfl,la,of,rfl,i1,lo,l2,l3⟩
   dsimp only
   by_cases c1:of ≥ n - hn
   ·rw[if_pos c1]
    exact Ab ⟨rfl,la,of,rfl,lo,l2,l3,.inl c1⟩
   rw[if_neg c1]
   refine AT (B _ _ (by omega) ?_)
   dsimp only
   cases h2:f (hn+of) with
   | false=>exact Ab ⟨rfl,la,of,rfl,lo,l2,l3,.inr h2⟩
   | true=>exact Ab ⟨rfl,of,2 * of+1,rfl,by omega,by omega,by omega,h2⟩
  ·rintro c st' ⟨rfl,la,of,rfl,i1,lo,l2,l3⟩
   exact⟨rfl,la,of,rfl,lo,l2,l3,.inl (by omega)⟩
  rintro c st' ⟨rfl,la,of,rfl,lo,l2,l3,l4⟩
  refine tm_bis B (lo:=hn+la+1) (hi:=hn+min of (n - hn)) (by omega) (by omega) (fun i hi=>mo i (hn+la) (by omega) l2 l3) (fun i hi hin=>?_) mo fun k k1 k2 k3=>Ab (q k k1 k2 k3)
  rcases l4 with l4 | l4
  ·omega
  ·by_cases c1:of ≥ n - hn
   ·omega
   exact nf _ i (by omega) hin l4
 | false=>
  rw[if_neg (by decide)]
  refine AT (Bk (BR (I:=fun x c st'=>st=st'/\∃ la of,c=(none,la,of)/\x+1<=of/\la < of/\la<=hn/\f (hn - la)=false) (Q:=fun c st'=>st=st'/\∃ la of,c=(none,la,of)/\la < of/\la<=hn/\f (hn - la)=false/\(hn+1<=of\/f (hn - of)=true)) ?_ ?_ ⟨rfl,0,1,rfl,AG _,by decide,A6 _,h1⟩) ?_)
  ·rintro i c st' _ hi ⟨rfl,la,of,rfl,i1,lo,l2,l3⟩
   dsimp only
   by_cases c1:of ≥ hn+1
   ·rw[if_pos c1]
    exact Ab ⟨rfl,la,of,rfl,lo,l2,l3,.inl c1⟩
   rw[if_neg c1]
   refine AT (B _ _ (by omega) ?_)
   dsimp only
   cases h2:f (hn - of) with
   | true=>exact Ab ⟨rfl,la,of,rfl,lo,l2,l3,.inr h2⟩
   | false=>exact Ab ⟨rfl,of,2 * of+1,rfl,by omega,by omega,by omega,h2⟩
  ·rintro c st' ⟨rfl,la,of,rfl,i1,lo,l2,l3⟩
   exact⟨rfl,la,of,rfl,lo,l2,l3,.inl (by omega)⟩
  rintro c st' ⟨rfl,la,of,rfl,lo,l2,l3,l4⟩
  refine tm_bis B (lo:=hn+1 - min of (hn+1)) (hi:=hn - la) (by omega) (by omega) (fun i hi=>?_) (fun i hi hin=>nf (hn - la) i hi hin l3) mo fun k k1 k2 k3=>Ab (q k k1 k2 k3)
  rcases l4 with l4 | l4
  ·omega
  ·by_cases c1:of ≥ hn+1
   ·omega
   exact mo i (hn - of) (by omega) (by omega) l4
end
abbrev KA:=Array Keyed
def sG' (g:Nat):SM Unit:=modify fun t=>SortSt.mk' (kindOf t) (arrOf t) (pendingOf t) g (failedOf t)
abbrev LS:=Option KA×KA×Nat×Nat×Nat×Nat×Nat
def dnL (a b o:KA) (i j:Nat):KA:=o++a.extract i a.size++b.extract j b.size
def laL (a b o:KA) (i j:Nat):KA:=o++b.extract j b.size++a.extract i a.size
def lo4 (a b o:KA) (i j g k l:Nat):SM (ForInStep LS):=do
 let x <- elem' a i
 if i+1+1 == a.size then return .done (some (laL a b (o.push x) (i+1) j),o.push x,i+1,j,g,k,l)
 if k < 7 && l < 7 then return .done (none,o.push x,i+1,j,g,k,l)
 return .yield (none,o.push x,i+1,j,g,k,l)
def lo3 (a b o:KA) (i j g k l:Nat):SM (ForInStep LS):=do
 let y <- elem' b j
 if j+1 == b.size then return .done (some (dnL a b (o.push y) i (j+1)),o.push y,i,j+1,g,k,l)
 match <- Yv true (<- elem' a i) b (j+1) (b.size - (j+1)) 0 with
 | some m=>
  if m > 0 then
   if j+1+m == b.size then return .done (some (dnL a b (o.push y++b.extract (j+1) (j+1+m)) i (j+1+m)),o.push y++b.extract (j+1) (j+1+m),i,j+1+m,g,k,m)
   lo4 a b (o.push y++b.extract (j+1) (j+1+m)) i (j+1+m) g k m
  else lo4 a b (o.push y) i (j+1) g k m
 | _=>return .done (some (dnL a b (o.push y) i (j+1)),o.push y,i,j+1,g,k,l)
def lo2 (a b o:KA) (i j g k l:Nat):SM (ForInStep LS):=do
 sG' g
 match <- Yv false (<- elem' b j) a i (a.size - i) 0 with
 | some m=>
  if m > 0 then
   if i+m+1 == a.size then return .done (some (laL a b (o++a.extract i (i+m)) (i+m) j),o++a.extract i (i+m),i+m,j,g,m,l)
   if i+m == a.size then return .done (some (dnL a b (o++a.extract i (i+m)) (i+m) j),o++a.extract i (i+m),i+m,j,g,m,l)
   lo3 a b (o++a.extract i (i+m)) (i+m) j g m l
  else lo3 a b o i j g m l
 | _=>return .done (some (dnL a b o i j),o,i,j,g,k,l)
def lo1 (a b:KA) (c:LS):SM (ForInStep LS):=if c.2.2.2.2.1 > 1 then lo2 a b c.2.1 c.2.2.1 c.2.2.2.1 (c.2.2.2.2.1 - 1) c.2.2.2.2.2.1 c.2.2.2.2.2.2 else lo2 a b c.2.1 c.2.2.1 c.2.2.2.1 c.2.2.2.2.1 c.2.2.2.2.2.1 c.2.2.2.2.2.2
abbrev LI:=Option KA×KA×Nat×Nat×Nat×Nat
def loI (a b:KA) (g:Nat) (c:LI):SM (ForInStep LI):=do
 match <- lt' (<- elem' b c.2.2.2.1) (<- elem' a c.2.2.1) with
 | some w=>
  if w then
   let y <- elem' b c.2.2.2.1
   if c.2.2.2.1+1 == b.size then return .done (some (dnL a b (c.2.1.push y) c.2.2.1 (c.2.2.2.1+1)),c.2.1.push y,c.2.2.1,c.2.2.2.1+1,0,c.2.2.2.2.2+1)
   if c.2.2.2.2.2+1 ≥ g then return .done (none,c.2.1.push y,c.2.2.1,c.2.2.2.1+1,0,c.2.2.2.2.2+1)
   return .yield (none,c.2.1.push y,c.2.2.1,c.2.2.2.1+1,0,c.2.2.2.2.2+1)
  else
   let x <- elem' a c.2.2.1
   if c.2.2.1+1+1 == a.size then return .done (some (laL a b (c.2.1.push x) (c.2.2.1+1) c.2.2.2.1),c.2.1.push x,c.2.2.1+1,c.2.2.2.1,c.2.2.2.2.1+1,0)
   if c.2.2.2.2.1+1 ≥ g then return .done (none,c.2.1.push x,c.2.2.1+1,c.2.2.2.1,c.2.2.2.2.1+1,0)
   return .yield (none,c.2.1.push x,c.2.2.1+1,c.2.2.2.1,c.2.2.2.2.1+1,0)
 | _=>return .done (some (dnL a b c.2.1 c.2.2.1 c.2.2.2.1),c.2.1,c.2.2.1,c.2.2.2.1,c.2.2.2.2.1,c.2.2.2.2.2)
abbrev LO:=Option KA×KA×Nat×Nat×Nat
def loO (a b:KA) (c:LO):SM (ForInStep LO):=do
 let d <- forIn [0:a.size+b.size] ((none,c.2.1,c.2.2.1,c.2.2.2.1,0,0):LI) fun _ d=>loI a b c.2.2.2.2 d
 match d.1 with
 | some r=>return .done (some r,d.2.1,d.2.2.1,d.2.2.2.1,c.2.2.2.2)
 | none=>
  rule "list.sort.gallop"
  let e <- forIn [0:a.size+b.size] ((none,d.2.1,d.2.2.1,d.2.2.2.1,c.2.2.2.2+1,d.2.2.2.2.1,d.2.2.2.2.2):LS) fun _ e=>lo1 a b e
  match e.1 with
  | some r=>return .done (some r,e.2.1,e.2.2.1,e.2.2.2.1,e.2.2.2.2.1)
  | none=>
   sG' (e.2.2.2.2.1+1)
   return .yield (none,e.2.1,e.2.2.1,e.2.2.2.1,e.2.2.2.2.1+1)
theorem mLo_eq0 (a b:Array Keyed):mLo' a b=(do
 rule "list.sort.merge-lo"
 let tl:=a.size+b.size
 let dn (o:Array Keyed) (i j:Nat):=o++a.extract i a.size++b.extract j b.size
 let la (o:Array Keyed) (i j:Nat):=o++b.extract j b.size++a.extract i a.size
 let mut o:Array Keyed:=#[<- elem' b 0]
 let mut i:=0
 let mut j:=1
 if j == b.size then return dn o i j
 if i+1 == a.size then return la o i j
 let mut g:=gallopOf (<- get)
 for _ in [0:tl] do
  let mut ac:=0
  let mut bc:=0
  for _ in [0:tl] do
   let some bw <- lt' (<- elem' b j) (<- elem' a i) | return dn o i j
   if bw then
    o:=o.push (<- elem' b j);j:=j+1;bc:=bc+1;ac:=0
    if j == b.size then return dn o i j
    if bc ≥ g then break
   else
    o:=o.push (<- elem' a i);i:=i+1;ac:=ac+1;bc:=0
    if i+1 == a.size then return la o i j
    if ac ≥ g then break
  rule "list.sort.gallop"
  g:=g+1
  for _ in [0:tl] do
   if g > 1 then g:=g - 1
   sG' g
   let some k <- Yv false (<- elem' b j) a i (a.size - i) 0 | return dn o i j
   ac:=k
   if k > 0 then
    o:=o++a.extract i (i+k);i:=i+k
    if i+1 == a.size then return la o i j
    if i == a.size then return dn o i j
   o:=o.push (<- elem' b j);j:=j+1
   if j == b.size then return dn o i j
   let some k <- Yv true (<- elem' a i) b j (b.size - j) 0 | return dn o i j
   bc:=k
   if k > 0 then
    o:=o++b.extract j (j+k);j:=j+k
    if j == b.size then return dn o i j
   o:=o.push (<- elem' a i);i:=i+1
   if i+1 == a.size then return la o i j
   if ac < 7 && bc < 7 then break
  g:=g+1
  sG' g
 unsupported "internal:list.sort.merge-bound"):=rfl
theorem mLo_eq (a b:KA):mLo' a b=(do
 rule "list.sort.merge-lo"
 let y <- elem' b 0
 if 1 == b.size then return dnL a b #[y] 0 1
 if 0+1 == a.size then return laL a b #[y] 0 1
 let t <- get
 let c <- forIn [0:a.size+b.size] ((none,#[y],0,1,gallopOf t):LO) fun _ c=>loO a b c
 match c.1 with
 | some r=>return r
 | none=>unsupported "internal:list.sort.merge-bound"):=by
 rw[mLo_eq0]
 dsimp only
 congr 1
 funext _
 congr 1
 funext y
 refine ite_congr rfl (fun _=>rfl) (fun _=>?_)
 refine ite_congr rfl (fun _=>rfl) (fun _=>?_)
 congr 1
 funext t
 congr 1
 ·congr 1
  funext _ c
  unfold loO
  congr 1
  ·funext d
   obtain⟨r,d⟩:=d
   cases r with
   | some r=>rfl
   | none=>
    dsimp only
    congr 1
    funext _
    congr 1
    funext e
    obtain⟨r,e⟩:=e
    cases r <;> rfl
 ·funext c
  obtain⟨r,c⟩:=c
  cases r <;> rfl
def Srt (R:Keyed->Keyed->Bool) (l:List Keyed):Prop:=l.Pairwise fun x y=>R x y=true
theorem xM {R:Keyed->Keyed->Bool} {O P X Y:List Keyed} (h1:Srt R (O++(P++X))) (h2:Srt R (O++Y)) (h:∀ p ∈ P,∀ y ∈ Y,R p y=true):Srt R ((O++P)++X)/\Srt R ((O++P)++Y):=by
 unfold Srt at *
 rw[<- Ag] at h1
 refine⟨h1,?_⟩
 rw[DC] at h1 h2 ⊢
 refine⟨h1.1,h2.2.1,fun p hp y hy=>?_⟩
 rcases AV.mp hp with hp | hp
 ·exact h2.2.2 p hp y hy
 ·exact h p hp y hy
theorem dr {a:KA} {i:Nat} {x:Keyed} (h:a[i]? = some x):a.toList.drop i=x :: a.toList.drop (i+1):=by
 rw[<- AZ] at h
 obtain⟨hi,e⟩:=AE.mp h
 rw[Bm hi,e]
theorem QT {a:KA} {i:Nat} {y:Keyed}:y ∈ a.toList.drop i ↔ ∃ t,i<=t/\a[t]? = some y:=by
 rw[A5]
 constructor
 ·rintro⟨t,ht⟩
  rw[Cg,AZ] at ht
  exact⟨i+t,by omega,ht⟩
 ·rintro⟨t,h1,h2⟩
  exact⟨t - i,by rw[Cg,AZ,show i+(t - i)=t by omega];exact h2⟩
theorem yC {a:KA} {i k:Nat} {y:Keyed} (h:y ∈ (a.toList.drop i).take k):∃ t,i<=t/\t < i+k/\a[t]? = some y:=by
 obtain⟨t,ht⟩:=A5.mp h
 have hl:=(AE.mp ht).1
 rw[Ae] at hl
 rw[Be (by omega),Cg,AZ] at ht
 exact⟨i+t,by omega,by omega,ht⟩
theorem zv {a:KA} {i:Nat} (h:i < a.size):∃ x,a[i]? = some x:=⟨a[i],BK h⟩
theorem jV {R:Keyed->Keyed->Bool} {a:KA} (h:Srt R a.toList) {i j:Nat} {x y:Keyed} (hij:i < j) (hx:a[i]? = some x) (hy:a[j]? = some y):R x y=true:=by
 rw[<- AZ] at hx hy
 obtain⟨h1,rfl⟩:=AE.mp hx
 obtain⟨h2,rfl⟩:=AE.mp hy
 exact (Bc.mp h) i j h1 h2 hij
theorem zp {a:KA} {i:Nat} {x:Keyed} (h:a[i]? = some x):x ∈ a.toList:=by
 rw[<- AZ] at h
 exact AN h
structure MC (it:List Keyed) (R:Keyed->Keyed->Bool) (a b:KA):Prop where
 ia:∀ x ∈ a.toList,x ∈ it
 ib:∀ x ∈ b.toList,x ∈ it
 nd:(a.toList++b.toList).Nodup
 sa:Srt R a.toList
 sb:Srt R b.toList
 a1:1<=a.size
 b1:1<=b.size
 fst:∀ x y,a[0]? = some x->b[0]? = some y->R y x=true
 lst:∀ x,a[a.size - 1]? = some x->∀ y ∈ b.toList,R y x=true
structure RS (R:Keyed->Keyed->Bool) (a b r:KA):Prop where
 s:Srt R r.toList
 p:r.toList.Perm (a.toList++b.toList)
structure ML (R:Keyed->Keyed->Bool) (a b:KA) (O X Y:List Keyed):Prop where
 sx:Srt R (O++X)
 sy:Srt R (O++Y)
 pm:(O++X++Y).Perm (a.toList++b.toList)
theorem ML.tx {R:Keyed->Keyed->Bool} {a b:KA} {O P X Y:List Keyed} (m:ML R a b O (P++X) Y) (h:∀ p ∈ P,∀ y ∈ Y,R p y=true):ML R a b (O++P) X Y:=by
 obtain⟨h1,h2⟩:=xM m.sx m.sy h
 exact⟨h1,h2,by rw[Ag O P X];exact m.pm⟩
theorem ML.ty {R:Keyed->Keyed->Bool} {a b:KA} {O P X Y:List Keyed} (m:ML R a b O X (P++Y)) (h:∀ p ∈ P,∀ x ∈ X,R p x=true):ML R a b (O++P) X Y:=by
 obtain⟨h1,h2⟩:=xM m.sy m.sx h
 refine⟨h2,h1,List.Perm.trans ?_ m.pm⟩
 rw[Ag,Ag,Ag]
 refine Ds _ ?_
 rw[<- Ag,<- Ag]
 exact Dh _ List.perm_append_comm
theorem ex_to {a:KA} (i:Nat):(a.extract i a.size).toList=a.toList.drop i:=by
 rw[Bg,BJ]
 exact BY (by rw[CW,Am];exact AG _)
theorem ex_tk {a:KA} (i k:Nat):(a.extract i (i+k)).toList=(a.toList.drop i).take k:=by
 rw[Bg,BJ,show i+k - i=k by omega]
theorem dn_to {a b o:KA} {i j:Nat}:(dnL a b o i j).toList=o.toList++a.toList.drop i++b.toList.drop j:=by
 unfold dnL
 rw[BC,BC,ex_to,ex_to]
theorem la_to {a b o:KA} {i j:Nat}:(laL a b o i j).toList=o.toList++b.toList.drop j++a.toList.drop i:=by
 unfold laL
 rw[BC,BC,ex_to,ex_to]
theorem QU {a:KA} {i:Nat} (h:i=a.size):a.toList.drop i=[]:=Cr (by rw[Am];omega)
abbrev ML' (R:Keyed->Keyed->Bool) (a b o:KA) (i j:Nat):Prop:=ML R a b o.toList (a.toList.drop i) (b.toList.drop j)
theorem ML.dnb {R:Keyed->Keyed->Bool} {a b o:KA} {i j:Nat} (m:ML' R a b o i j) (h:j=b.size):RS R a b (dnL a b o i j):=by
 have p:=m.pm
 have q:=m.sx
 rw[QU h,Ap] at p
 exact⟨by rw[dn_to,QU h,Ap];exact q,by rw[dn_to,QU h,Ap];exact p⟩
theorem ML.dna {R:Keyed->Keyed->Bool} {a b o:KA} {i j:Nat} (m:ML' R a b o i j) (h:i=a.size):RS R a b (dnL a b o i j):=by
 have p:=m.pm
 have q:=m.sy
 rw[QU h,Ap] at p
 exact⟨by rw[dn_to,QU h,Ap];exact q,by rw[dn_to,QU h,Ap];exact p⟩
theorem ML.la {it:List Keyed} {R:Keyed->Keyed->Bool} {a b o:KA} {i j:Nat} (c:MC it R a b) (m:ML' R a b o i j) (h:i+1=a.size):RS R a b (laL a b o i j):=by
 obtain⟨x,hx⟩:=zv (a:=a) (i:=i) (by omega)
 have e:a.toList.drop i=[x]:=by rw[dr hx,QU h]
 have m2:=ML.ty (P:=b.toList.drop j) (Y:=[]) (X:=[x]) (O:=o.toList) (a:=a) (b:=b) (R:=R) ⟨e ▸ m.sx,by rw[Ap];exact m.sy,by rw[Ap];exact e ▸ m.pm⟩ fun p hp y hy=>by
  rw[AJ.mp hy]
  refine c.lst x ?_ p (DD hp)
  rw[show a.size - 1=i by omega]
  exact hx
 have p:=m2.pm
 rw[Ap] at p
 exact⟨by rw[la_to,e];exact m2.sx,by rw[la_to,e];exact p⟩
def SG (t u:SortSt):Prop:=kindOf u=kindOf t/\arrOf u=arrOf t/\pendingOf u=pendingOf t/\failedOf u=failedOf t
def GL (R:Keyed->Keyed->Bool) (a b o:KA) (i j n:Nat):Prop:=ML' R a b o i j/\i+1 < a.size/\j < b.size/\n < i+j
def FL (R:Keyed->Keyed->Bool) (a b:KA) (t:SortSt) (n:Nat):ForInStep LS->SortSt->Prop
 | .done c,u=>SG t u/\((∃ r,c.1=some r/\RS R a b r)\/(c.1=none/\GL R a b c.2.1 c.2.2.1 c.2.2.2.1 n))
 | .yield c,u=>SG t u/\c.1=none/\GL R a b c.2.1 c.2.2.1 c.2.2.2.1 n
section
variable {prog:Program} {w:World} {A:Around} {E:Value->Shared->Prop} {s:Shared} {κ:SortKind} {it:List Keyed} {R:Keyed->Keyed->Bool} {st t:SortSt} {M:Model} {a b o:KA} {i j g k l n:Nat}
theorem ML.px (m:ML' R a b o i j) {x:Keyed} (hx:a[i]? = some x) (h:∀ y ∈ b.toList.drop j,R x y=true):ML' R a b (o.push x) (i+1) j:=by
 have e:=dr hx
 have m2:=ML.tx (P:=[x]) (X:=a.toList.drop (i+1)) (by rw[List.singleton_append,<- e];exact m) fun p hp y hy=>by rw[AJ.mp hp];exact h y hy
 rw[<- Ct] at m2
 exact m2
theorem ML.py (m:ML' R a b o i j) {y:Keyed} (hy:b[j]? = some y) (h:∀ x ∈ a.toList.drop i,R y x=true):ML' R a b (o.push y) i (j+1):=by
 have e:=dr hy
 have m2:=ML.ty (P:=[y]) (Y:=b.toList.drop (j+1)) (by rw[List.singleton_append,<- e];exact m) fun p hp x hx=>by rw[AJ.mp hp];exact h x hx
 rw[<- Ct] at m2
 exact m2
theorem xN {c:KA} (i k:Nat):c.toList.drop i=(c.toList.drop i).take k++c.toList.drop (i+k):=by
 rw[<- List.drop_drop,Dp]
theorem ML.pxs (m:ML' R a b o i j) (k:Nat) (h:∀ x ∈ (a.toList.drop i).take k,∀ y ∈ b.toList.drop j,R x y=true):ML' R a b (o++a.extract i (i+k)) (i+k) j:=by
 have m2:=ML.tx (P:=(a.toList.drop i).take k) (X:=a.toList.drop (i+k)) (by rw[<- xN];exact m) h
 rw[<- ex_tk,<- BC] at m2
 exact m2
theorem ML.pys (m:ML' R a b o i j) (k:Nat) (h:∀ y ∈ (b.toList.drop j).take k,∀ x ∈ a.toList.drop i,R y x=true):ML' R a b (o++b.extract j (j+k)) i (j+k):=by
 have m2:=ML.ty (P:=(b.toList.drop j).take k) (Y:=b.toList.drop (j+k)) (by rw[<- xN];exact m) h
 rw[<- ex_tk,<- BC] at m2
 exact m2
theorem lo4_ok (c:MC it R a b) (e0:SG t st) (m:ML' R a b o i j) (h1:i+1 < a.size) (h2:j < b.size) (hn:n<=i+j) (hx:∀ x,a[i]? = some x->∀ y ∈ b.toList.drop j,R x y=true):wpS M A E s (lo4 a b o i j g k l) (FL R a b t n) st:=by
 obtain⟨x,ex⟩:=zv (a:=a) (i:=i) (by omega)
 have m2:=m.px ex (hx x ex)
 unfold lo4
 refine AT (jD ex ?_)
 by_cases c1:(i+1+1 == a.size)=true
 ·rw[if_pos c1]
  exact Ab ⟨e0,.inl ⟨_,rfl,m2.la c (by simpa using c1)⟩⟩
 rw[if_neg c1]
 have c1':i+1+1 ≠ a.size:=fun z=>c1 (by simpa using z)
 have gl:GL R a b (o.push x) (i+1) j n:=⟨m2,by omega,h2,by omega⟩
 by_cases c2:(decide (k < 7) && decide (l < 7))=true
 ·rw[if_pos c2]
  exact Ab ⟨e0,.inr ⟨rfl,gl⟩⟩
 ·rw[if_neg c2]
  exact Ab ⟨e0,rfl,gl⟩
theorem MC.no (C:Cm prog w A s κ it R) (c:MC it R a b) {x y:Keyed} (hx:x ∈ a.toList) (hy:y ∈ b.toList) (h:R y x=false):R x y=true:=
 C.tot y (c.ib y hy) x (c.ia x hx) (fun z=>by
  have:=(Bu.mp c.nd).2.2 x hx y hy
  exact this z.symm) h
theorem lo3_ok (C:Cm prog w A s κ it R) (c:MC it R a b) (hk:kindOf st=κ) (e0:SG t st) (m:ML' R a b o i j) (h1:i+1 < a.size) (h2:j < b.size) (hn:n<=i+j) (hy:∀ y,b[j]? = some y->∀ x ∈ a.toList.drop i,R y x=true):wpS (model prog w) A E s (lo3 a b o i j g k l) (FL R a b t n) st:=by
 obtain⟨y,ey⟩:=zv (a:=b) (i:=j) h2
 obtain⟨x,ex⟩:=zv (a:=a) (i:=i) (by omega)
 have m2:=m.py ey (hy y ey)
 unfold lo3
 refine AT (jD ey ?_)
 by_cases c1:(j+1 == b.size)=true
 ·rw[if_pos c1]
  exact Ab ⟨e0,.inl ⟨_,rfl,m2.dnb (by simpa using c1)⟩⟩
 rw[if_neg c1]
 have c1':j+1 ≠ b.size:=fun z=>c1 (by simpa using z)
 refine AT (jD ex (AT (Jx C (f:=fun t=>match b[j+1+t]? with | some z=>R z x | none=>false) hk (c.ia x (zp ex)) (fun t ht=>?_) (fun p q pq hq h=>?_) (by omega) fun m' k1 k2 k3=>?_)))
 ·obtain⟨z,ez⟩:=zv (a:=b) (i:=j+1+t) (by omega)
  exact⟨z,ez,c.ib z (zp ez),by simp only[ez];rfl⟩
 ·obtain⟨z,ez⟩:=zv (a:=b) (i:=j+1+q) (by omega)
  obtain⟨z',ez'⟩:=zv (a:=b) (i:=j+1+p) (by omega)
  simp only[ez] at h
  simp only[ez']
  rcases An pq with e | e
  ·rw[e,ez] at ez'
   rw[<- AH ez']
   exact h
  ·exact C.tr z' (c.ib z' (zp ez')) z (c.ib z (zp ez)) x (c.ia x (zp ex)) (jV c.sb (by omega) ez' ez) h
 have ax:∀ u ∈ a.toList.drop i,u=x\/R x u=true:=fun u hu=>by
  obtain⟨q,q1,q2⟩:=QT.mp hu
  rcases An q1 with e | e
  ·rw[<- e,ex] at q2
   exact .inl (AH q2).symm
  ·exact .inr (jV c.sa e ex q2)
 have m3:=m2.pys m' fun z hz u hu=>by
  obtain⟨q,q1,q2,q3⟩:=yC hz
  have f1:=k2 (q - (j+1)) (by omega)
  rw[show j+1+(q - (j+1))=q by omega] at f1
  simp only[q3] at f1
  rcases ax u hu with rfl | h
  ·exact f1
  ·exact C.tr z (c.ib z (zp q3)) x (c.ia x (zp ex)) u (c.ia u (DD hu)) f1 h
 have hxx:j+1+m' < b.size->∀ x',a[i]? = some x'->∀ u ∈ b.toList.drop (j+1+m'),R x' u=true:=fun hlt x' ex' u hu=>by
  rw[ex] at ex'
  cases ex'
  obtain⟨z,ez⟩:=zv (a:=b) (i:=j+1+m') hlt
  have f1:=k3 m' (AG _) (by omega)
  simp only[ez] at f1
  have f2:=c.no C (zp ex) (zp ez) f1
  obtain⟨q,q1,q2⟩:=QT.mp hu
  rcases An q1 with e | e
  ·rw[<- e,ez] at q2
   rw[<- AH q2]
   exact f2
  ·exact C.tr x (c.ia x (zp ex)) z (c.ib z (zp ez)) u (c.ib u (zp q2)) f2 (jV c.sb e ez q2)
 dsimp only
 by_cases c2:m' > 0
 ·rw[if_pos c2]
  by_cases c3:(j+1+m' == b.size)=true
  ·rw[if_pos c3]
   exact Ab ⟨e0,.inl ⟨_,rfl,m3.dnb (by simpa using c3)⟩⟩
  rw[if_neg c3]
  have c3':j+1+m' ≠ b.size:=fun z=>c3 (by simpa using z)
  exact lo4_ok c e0 m3 h1 (by omega) (by omega) (hxx (by omega))
 ·rw[if_neg c2]
  obtain rfl:m'=0:=by omega
  exact lo4_ok c e0 m2 h1 (by omega) (by omega) (hxx (by omega))
theorem sG_ok {Q:Unit->SortSt->Prop} (h:∀ u,SG st u->Q () u):wpS M A E s (sG' g) Q st:=Dy (h _ ⟨rfl,rfl,rfl,rfl⟩)
theorem SG.tr {u v:SortSt} (h:SG t u) (k:SG u v):SG t v:=⟨k.1.trans h.1,k.2.1.trans h.2.1,k.2.2.1.trans h.2.2.1,k.2.2.2.trans h.2.2.2⟩
theorem lo2_ok (C:Cm prog w A s κ it R) (c:MC it R a b) (hk:kindOf st=κ) (e0:SG t st) (m:ML' R a b o i j) (h1:i+1 < a.size) (h2:j < b.size) (hn:n<=i+j):wpS (model prog w) A E s (lo2 a b o i j g k l) (FL R a b t n) st:=by
 obtain⟨y,ey⟩:=zv (a:=b) (i:=j) h2
 unfold lo2
 refine AT (sG_ok fun u su=>?_)
 have e1:=e0.tr su
 have hk1:kindOf u=κ:=su.1.trans hk
 refine AT (jD ey (AT (Jx C (f:=fun t=>match a[i+t]? with | some z=>!R y z | none=>false) hk1 (c.ib y (zp ey)) (fun t ht=>?_) (fun p q pq hq h=>?_) (by omega) fun m' k1 k2 k3=>?_)))
 ·obtain⟨z,ez⟩:=zv (a:=a) (i:=i+t) (by omega)
  exact⟨z,ez,c.ia z (zp ez),by simp only[ez];rfl⟩
 ·obtain⟨z,ez⟩:=zv (a:=a) (i:=i+q) (by omega)
  obtain⟨z',ez'⟩:=zv (a:=a) (i:=i+p) (by omega)
  simp only[ez] at h
  simp only[ez']
  rcases An pq with e | e
  ·rw[e,ez] at ez'
   rw[<- AH ez']
   exact h
  ·have h':R y z=false:=by simpa using h
   have f1:=c.no C (zp ez) (zp ey) h'
   have f2:=C.tr z' (c.ia z' (zp ez')) z (c.ia z (zp ez)) y (c.ib y (zp ey)) (jV c.sa (by omega) ez' ez) f1
   rw[C.asym z' (c.ia z' (zp ez')) y (c.ib y (zp ey)) f2]
   rfl
 have by':∀ u ∈ b.toList.drop j,u=y\/R y u=true:=fun u hu=>by
  obtain⟨q,q1,q2⟩:=QT.mp hu
  rcases An q1 with e | e
  ·rw[<- e,ey] at q2
   exact .inl (AH q2).symm
  ·exact .inr (jV c.sb e ey q2)
 have m3:=m.pxs m' fun z hz u hu=>by
  obtain⟨q,q1,q2,q3⟩:=yC hz
  have f1:=k2 (q - i) (by omega)
  rw[show i+(q - i)=q by omega] at f1
  simp only[q3] at f1
  have f2:=c.no C (zp q3) (zp ey) (by simpa using f1)
  rcases by' u hu with rfl | h
  ·exact f2
  ·exact C.tr z (c.ia z (zp q3)) y (c.ib y (zp ey)) u (c.ib u (DD hu)) f2 h
 have hyy:i+m' < a.size->∀ y',b[j]? = some y'->∀ u ∈ a.toList.drop (i+m'),R y' u=true:=fun hlt y' ey' u hu=>by
  rw[ey] at ey'
  cases ey'
  obtain⟨z,ez⟩:=zv (a:=a) (i:=i+m') hlt
  have f1:=k3 m' (AG _) (by omega)
  simp only[ez] at f1
  have f2:R y z=true:=by simpa using f1
  obtain⟨q,q1,q2⟩:=QT.mp hu
  rcases An q1 with e | e
  ·rw[<- e,ez] at q2
   rw[<- AH q2]
   exact f2
  ·exact C.tr y (c.ib y (zp ey)) z (c.ia z (zp ez)) u (c.ia u (zp q2)) f2 (jV c.sa e ez q2)
 dsimp only
 by_cases c2:m' > 0
 ·rw[if_pos c2]
  by_cases c3:(i+m'+1 == a.size)=true
  ·rw[if_pos c3]
   exact Ab ⟨e1,.inl ⟨_,rfl,m3.la c (by simpa using c3)⟩⟩
  rw[if_neg c3]
  have c3':i+m'+1 ≠ a.size:=fun z=>c3 (by simpa using z)
  by_cases c4:(i+m' == a.size)=true
  ·rw[if_pos c4]
   exact Ab ⟨e1,.inl ⟨_,rfl,m3.dna (by simpa using c4)⟩⟩
  rw[if_neg c4]
  have c4':i+m' ≠ a.size:=fun z=>c4 (by simpa using z)
  exact lo3_ok C c hk1 e1 m3 (by omega) h2 (by omega) (hyy (by omega))
 ·rw[if_neg c2]
  obtain rfl:m'=0:=by omega
  exact lo3_ok C c hk1 e1 m h1 h2 hn (hyy (by omega))
theorem lo1_ok (C:Cm prog w A s κ it R) (c:MC it R a b) (hk:kindOf st=κ) (e0:SG t st) {d:LS} (g:GL R a b d.2.1 d.2.2.1 d.2.2.2.1 n):wpS (model prog w) A E s (lo1 a b d) (FL R a b t (n+1)) st:=by
 unfold lo1
 obtain⟨m,h1,h2,h3⟩:=g
 split
 ·exact lo2_ok C c hk e0 m h1 h2 h3
 ·exact lo2_ok C c hk e0 m h1 h2 h3
def FI (R:Keyed->Keyed->Bool) (a b:KA) (t:SortSt) (n:Nat):ForInStep LI->SortSt->Prop
 | .done c,u=>t=u/\((∃ r,c.1=some r/\RS R a b r)\/(c.1=none/\GL R a b c.2.1 c.2.2.1 c.2.2.2.1 n))
 | .yield c,u=>t=u/\c.1=none/\GL R a b c.2.1 c.2.2.1 c.2.2.2.1 n
theorem loI_ok (C:Cm prog w A s κ it R) (c:MC it R a b) (hk:kindOf st=κ) {d:LI} (gl:GL R a b d.2.1 d.2.2.1 d.2.2.2.1 n):wpS (model prog w) A E s (loI a b g d) (FI R a b st (n+1)) st:=by
 obtain⟨m,h1,h2,h3⟩:=gl
 obtain⟨y,ey⟩:=zv (a:=b) (i:=d.2.2.2.1) h2
 obtain⟨x,ex⟩:=zv (a:=a) (i:=d.2.2.1) (by omega)
 unfold loI
 refine AT (jD ey (AT (jD ex (AT (xL C hk (c.ib y (zp ey)) (c.ia x (zp ex)) ?_)))))
 dsimp only
 cases hr:R y x with
 | true=>
  rw[if_pos rfl]
  have m2:=m.py ey fun u hu=>by
   obtain⟨q,q1,q2⟩:=QT.mp hu
   rcases An q1 with e | e
   ·rw[<- e,ex] at q2
    rw[<- AH q2]
    exact hr
   ·exact C.tr y (c.ib y (zp ey)) x (c.ia x (zp ex)) u (c.ia u (zp q2)) hr (jV c.sa e ex q2)
  refine AT (jD ey ?_)
  by_cases c1:(d.2.2.2.1+1 == b.size)=true
  ·rw[if_pos c1]
   exact Ab ⟨rfl,.inl ⟨_,rfl,m2.dnb (by simpa using c1)⟩⟩
  rw[if_neg c1]
  have c1':d.2.2.2.1+1 ≠ b.size:=fun z=>c1 (by simpa using z)
  have gl:GL R a b (d.2.1.push y) d.2.2.1 (d.2.2.2.1+1) (n+1):=⟨m2,h1,by omega,by omega⟩
  split
  ·exact Ab ⟨rfl,.inr ⟨rfl,gl⟩⟩
  ·exact Ab ⟨rfl,rfl,gl⟩
 | false=>
  rw[if_neg (by decide)]
  have f2:=c.no C (zp ex) (zp ey) hr
  have m2:=m.px ex fun u hu=>by
   obtain⟨q,q1,q2⟩:=QT.mp hu
   rcases An q1 with e | e
   ·rw[<- e,ey] at q2
    rw[<- AH q2]
    exact f2
   ·exact C.tr x (c.ia x (zp ex)) y (c.ib y (zp ey)) u (c.ib u (zp q2)) f2 (jV c.sb e ey q2)
  refine AT (jD ex ?_)
  by_cases c1:(d.2.2.1+1+1 == a.size)=true
  ·rw[if_pos c1]
   exact Ab ⟨rfl,.inl ⟨_,rfl,m2.la c (by simpa using c1)⟩⟩
  rw[if_neg c1]
  have c1':d.2.2.1+1+1 ≠ a.size:=fun z=>c1 (by simpa using z)
  have gl:GL R a b (d.2.1.push x) (d.2.2.1+1) d.2.2.2.1 (n+1):=⟨m2,by omega,h2,by omega⟩
  split
  ·exact Ab ⟨rfl,.inr ⟨rfl,gl⟩⟩
  ·exact Ab ⟨rfl,rfl,gl⟩
theorem GL.le {n':Nat} (h:GL R a b o i j n) (e:n'<=n):GL R a b o i j n':=⟨h.1,h.2.1,h.2.2.1,by have:=h.2.2.2;omega⟩
def FO (R:Keyed->Keyed->Bool) (a b:KA) (t:SortSt) (n:Nat):ForInStep LO->SortSt->Prop
 | .done c,u=>SG t u/\∃ r,c.1=some r/\RS R a b r
 | .yield c,u=>SG t u/\c.1=none/\GL R a b c.2.1 c.2.2.1 c.2.2.2.1 n
theorem loO_ok (C:Cm prog w A s κ it R) (c:MC it R a b) (hk:kindOf st=κ) (e0:SG t st) {d:LO} (gl:GL R a b d.2.1 d.2.2.1 d.2.2.2.1 n):wpS (model prog w) A E s (loO a b d) (FO R a b t (n+1)) st:=by
 unfold loO
 refine AT (Bk (BR (I:=fun x e u=>st=u/\e.1=none/\GL R a b e.2.1 e.2.2.1 e.2.2.2.1 (n+x)) (Q:=fun e u=>st=u/\((∃ r,e.1=some r/\RS R a b r)\/(e.1=none/\GL R a b e.2.1 e.2.2.1 e.2.2.2.1 (n+1)))) ?_ ?_ ⟨rfl,rfl,gl⟩) ?_)
 ·rintro x e u _ _ ⟨rfl,he,ge⟩
  refine Bk (loI_ok C c hk ge) fun r v h=>?_
  cases r with
  | done e'=>
   obtain⟨h1,h2 | h2⟩:=h
   ·exact⟨h1,.inl h2⟩
   ·exact⟨h1,.inr ⟨h2.1,h2.2.le (by omega)⟩⟩
  | yield e'=>exact h
 ·rintro e u ⟨rfl,he,ge⟩
  refine⟨rfl,.inr ⟨he,ge.le ?_⟩⟩
  have:=c.a1
  omega
 rintro⟨r,d'⟩ u ⟨rfl,h⟩
 cases r with
 | some r=>
  obtain⟨r',e,h⟩:=h.resolve_right fun z=>by cases z.1
  cases e
  exact Ab ⟨e0,r,rfl,h⟩
 | none=>
  have gl2:=(h.resolve_left fun ⟨_,z,_⟩=>by cases z).2
  dsimp only
  refine AT (wpS_lift (Ba ⟨rfl,?_⟩))
  refine AT (Bk (BR (I:=fun x e u=>SG t u/\e.1=none/\GL R a b e.2.1 e.2.2.1 e.2.2.2.1 (n+1+x)) (Q:=fun e u=>SG t u/\((∃ r,e.1=some r/\RS R a b r)\/(e.1=none/\GL R a b e.2.1 e.2.2.1 e.2.2.2.1 (n+1)))) ?_ ?_ ⟨e0,rfl,gl2⟩) ?_)
  ·rintro x e u _ _ ⟨hu,he,ge⟩
   refine Bk (lo1_ok C c (hu.1.trans (e0.1.symm.trans hk)) hu ge) fun r v h=>?_
   cases r with
   | done e'=>
    obtain⟨h1,h2 | h2⟩:=h
    ·exact⟨h1,.inl h2⟩
    ·exact⟨h1,.inr ⟨h2.1,h2.2.le (by omega)⟩⟩
   | yield e'=>exact h
  ·rintro e u ⟨hu,he,ge⟩
   exact⟨hu,.inr ⟨he,ge.le (by omega)⟩⟩
  rintro⟨r,d'⟩ u ⟨hu,h⟩
  cases r with
  | some r=>
   obtain⟨r',e,h⟩:=h.resolve_right fun z=>by cases z.1
   cases e
   exact Ab ⟨hu,r,rfl,h⟩
  | none=>
   have gl3:=(h.resolve_left fun ⟨_,z,_⟩=>by cases z).2
   exact AT (sG_ok fun v hv=>Ab ⟨hu.tr hv,rfl,gl3⟩)
theorem mLo_ok (C:Cm prog w A s κ it R) (c:MC it R a b) (hk:kindOf st=κ) {Q:KA->SortSt->Prop} (q:∀ r u,SG st u->RS R a b r->Q r u):wpS (model prog w) A E s (mLo' a b) Q st:=by
 have a1:=c.a1
 have b1:=c.b1
 obtain⟨y,ey⟩:=zv (a:=b) (i:=0) (by omega)
 obtain⟨x,ex⟩:=zv (a:=a) (i:=0) (by omega)
 have s0:SG st st:=⟨rfl,rfl,rfl,rfl⟩
 have yx:=c.fst x y ex ey
 have m0:ML' R a b #[y] 0 1:=by
  have:=ML.py (o:=#[]) (i:=0) (j:=0) (R:=R) (a:=a) (b:=b) ⟨c.sa,c.sb,DR _⟩ ey fun u hu=>by
   obtain⟨q,q1,q2⟩:=QT.mp hu
   rcases An q1 with e | e
   ·rw[<- e,ex] at q2
    rw[<- AH q2]
    exact yx
   ·exact C.tr y (c.ib y (zp ey)) x (c.ia x (zp ex)) u (c.ia u (zp q2)) yx (jV c.sa e ex q2)
  exact this
 rw[mLo_eq]
 refine AT (wpS_lift (Ba ⟨rfl,?_⟩))
 refine AT (jD ey ?_)
 by_cases c1:(1 == b.size)=true
 ·rw[if_pos c1]
  exact Ab (q _ _ s0 (m0.dnb (by simpa using c1)))
 rw[if_neg c1]
 have c1':1 ≠ b.size:=fun z=>c1 (by simpa using z)
 by_cases c2:(0+1 == a.size)=true
 ·rw[if_pos c2]
  exact Ab (q _ _ s0 (m0.la c (by simpa using c2)))
 rw[if_neg c2]
 have c2':0+1 ≠ a.size:=fun z=>c2 (by simpa using z)
 refine AT (wpS_get (AT (Bk (BR (I:=fun x d u=>SG st u/\d.1=none/\GL R a b d.2.1 d.2.2.1 d.2.2.2.1 x) (Q:=fun d u=>SG st u/\∃ r,d.1=some r/\RS R a b r) ?_ ?_ ⟨s0,rfl,m0,by show 0+1 < _;omega,by show 1 < _;omega,by show 0 < 0+1;decide⟩) ?_)))
 ·rintro x d u _ _ ⟨hu,hd,gd⟩
  refine Bk (loO_ok C c (hu.1.trans hk) hu gd) fun r v h=>?_
  cases r with
  | done d'=>exact h
  | yield d'=>exact h
 ·rintro d u ⟨hu,hd,gd⟩
  have:=gd.2.2.2
  have:=gd.2.1
  have:=gd.2.2.1
  omega
 rintro⟨r,d⟩ u ⟨hu,r',e,hr⟩
 cases e
 exact Ab (q _ _ hu hr)
end
theorem mHi_eq0 (a b:KA):mHi' a b=(do
 rule "list.sort.merge-hi"
 let tl:=a.size+b.size
 let dn (o:KA) (i j:Nat):=a.extract 0 i++b.extract 0 j++o.reverse
 let fb (o:KA) (i j:Nat):=b.extract 0 j++a.extract 0 i++o.reverse
 let mut i:=a.size - 1
 let mut j:=b.size
 let mut o:KA:=#[<- elem' a i]
 if i == 0 then return dn o i j
 if j == 1 then return fb o i j
 let mut g:=gallopOf (<- get)
 for _ in [0:tl] do
  let mut ac:=0
  let mut bc:=0
  for _ in [0:tl] do
   let some aw <- lt' (<- elem' b (j - 1)) (<- elem' a (i - 1)) | return dn o i j
   if aw then
    i:=i - 1;o:=o.push (<- elem' a i);ac:=ac+1;bc:=0
    if i == 0 then return dn o i j
    if ac ≥ g then break
   else
    j:=j - 1;o:=o.push (<- elem' b j);bc:=bc+1;ac:=0
    if j == 1 then return fb o i j
    if bc ≥ g then break
  rule "list.sort.gallop"
  g:=g+1
  for _ in [0:tl] do
   if g > 1 then g:=g - 1
   sG' g
   let some z <- Yv false (<- elem' b (j - 1)) a 0 i (i - 1) | return dn o i j
   let k:=i - z
   ac:=k
   if k > 0 then
    o:=o++(a.extract z i).reverse;i:=z
    if i == 0 then return dn o i j
   j:=j - 1;o:=o.push (<- elem' b j)
   if j == 1 then return fb o i j
   let some z <- Yv true (<- elem' a (i - 1)) b 0 j (j - 1) | return dn o i j
   let k:=j - z
   bc:=k
   if k > 0 then
    o:=o++(b.extract z j).reverse;j:=z
    if j == 1 then return fb o i j
    if j == 0 then return dn o i j
   i:=i - 1;o:=o.push (<- elem' a i)
   if i == 0 then return dn o i j
   if ac < 7 && bc < 7 then break
  g:=g+1
  sG' g
 unsupported "internal:list.sort.merge-bound"):=rfl
abbrev HS:=Option KA×Nat×Nat×KA×Nat×Nat×Nat
def dnH (a b o:KA) (i j:Nat):KA:=a.extract 0 i++b.extract 0 j++o.reverse
def fbH (a b o:KA) (i j:Nat):KA:=b.extract 0 j++a.extract 0 i++o.reverse
def hi4 (a b o:KA) (i j g k l:Nat):SM (ForInStep HS):=do
 let x <- elem' a (i - 1)
 if i - 1 == 0 then return .done (some (dnH a b (o.push x) (i - 1) j),i - 1,j,o.push x,g,k,l)
 if k < 7 && l < 7 then return .done (none,i - 1,j,o.push x,g,k,l)
 return .yield (none,i - 1,j,o.push x,g,k,l)
def hi3 (a b o:KA) (i j g k l:Nat):SM (ForInStep HS):=do
 let y <- elem' b (j - 1)
 if j - 1 == 1 then return .done (some (fbH a b (o.push y) i (j - 1)),i,j - 1,o.push y,g,k,l)
 match <- Yv true (<- elem' a (i - 1)) b 0 (j - 1) (j - 1 - 1) with
 | some z=>
  if j - 1 - z > 0 then
   if z == 1 then return .done (some (fbH a b (o.push y++(b.extract z (j - 1)).reverse) i z),i,z,o.push y++(b.extract z (j - 1)).reverse,g,k,j - 1 - z)
   if z == 0 then return .done (some (dnH a b (o.push y++(b.extract z (j - 1)).reverse) i z),i,z,o.push y++(b.extract z (j - 1)).reverse,g,k,j - 1 - z)
   hi4 a b (o.push y++(b.extract z (j - 1)).reverse) i z g k (j - 1 - z)
  else hi4 a b (o.push y) i (j - 1) g k (j - 1 - z)
 | _=>return .done (some (dnH a b (o.push y) i (j - 1)),i,j - 1,o.push y,g,k,l)
def hi2 (a b o:KA) (i j g k l:Nat):SM (ForInStep HS):=do
 sG' g
 match <- Yv false (<- elem' b (j - 1)) a 0 i (i - 1) with
 | some z=>
  if i - z > 0 then
   if z == 0 then return .done (some (dnH a b (o++(a.extract z i).reverse) z j),z,j,o++(a.extract z i).reverse,g,i - z,l)
   hi3 a b (o++(a.extract z i).reverse) z j g (i - z) l
  else hi3 a b o i j g (i - z) l
 | _=>return .done (some (dnH a b o i j),i,j,o,g,k,l)
def hi1 (a b:KA) (c:HS):SM (ForInStep HS):=if c.2.2.2.2.1 > 1 then hi2 a b c.2.2.2.1 c.2.1 c.2.2.1 (c.2.2.2.2.1 - 1) c.2.2.2.2.2.1 c.2.2.2.2.2.2 else hi2 a b c.2.2.2.1 c.2.1 c.2.2.1 c.2.2.2.2.1 c.2.2.2.2.2.1 c.2.2.2.2.2.2
abbrev HI:=Option KA×Nat×Nat×KA×Nat×Nat
def hiI (a b:KA) (g:Nat) (c:HI):SM (ForInStep HI):=do
 match <- lt' (<- elem' b (c.2.2.1 - 1)) (<- elem' a (c.2.1 - 1)) with
 | some w=>
  if w then
   let x <- elem' a (c.2.1 - 1)
   if c.2.1 - 1 == 0 then return .done (some (dnH a b (c.2.2.2.1.push x) (c.2.1 - 1) c.2.2.1),c.2.1 - 1,c.2.2.1,c.2.2.2.1.push x,c.2.2.2.2.1+1,0)
   if c.2.2.2.2.1+1 ≥ g then return .done (none,c.2.1 - 1,c.2.2.1,c.2.2.2.1.push x,c.2.2.2.2.1+1,0)
   return .yield (none,c.2.1 - 1,c.2.2.1,c.2.2.2.1.push x,c.2.2.2.2.1+1,0)
  else
   let y <- elem' b (c.2.2.1 - 1)
   if c.2.2.1 - 1 == 1 then return .done (some (fbH a b (c.2.2.2.1.push y) c.2.1 (c.2.2.1 - 1)),c.2.1,c.2.2.1 - 1,c.2.2.2.1.push y,0,c.2.2.2.2.2+1)
   if c.2.2.2.2.2+1 ≥ g then return .done (none,c.2.1,c.2.2.1 - 1,c.2.2.2.1.push y,0,c.2.2.2.2.2+1)
   return .yield (none,c.2.1,c.2.2.1 - 1,c.2.2.2.1.push y,0,c.2.2.2.2.2+1)
 | _=>return .done (some (dnH a b c.2.2.2.1 c.2.1 c.2.2.1),c.2.1,c.2.2.1,c.2.2.2.1,c.2.2.2.2.1,c.2.2.2.2.2)
abbrev HO':=Option KA×Nat×Nat×KA×Nat
def hiO (a b:KA) (c:HO'):SM (ForInStep HO'):=do
 let d <- forIn [0:a.size+b.size] ((none,c.2.1,c.2.2.1,c.2.2.2.1,0,0):HI) fun _ d=>hiI a b c.2.2.2.2 d
 match d.1 with
 | some r=>return .done (some r,d.2.1,d.2.2.1,d.2.2.2.1,c.2.2.2.2)
 | none=>
  rule "list.sort.gallop"
  let e <- forIn [0:a.size+b.size] ((none,d.2.1,d.2.2.1,d.2.2.2.1,c.2.2.2.2+1,d.2.2.2.2.1,d.2.2.2.2.2):HS) fun _ e=>hi1 a b e
  match e.1 with
  | some r=>return .done (some r,e.2.1,e.2.2.1,e.2.2.2.1,e.2.2.2.2.1)
  | none=>
   sG' (e.2.2.2.2.1+1)
   return .yield (none,e.2.1,e.2.2.1,e.2.2.2.1,e.2.2.2.2.1+1)
theorem mHi_eq (a b:KA):mHi' a b=(do
 rule "list.sort.merge-hi"
 let x <- elem' a (a.size - 1)
 if a.size - 1 == 0 then return dnH a b #[x] (a.size - 1) b.size
 if b.size == 1 then return fbH a b #[x] (a.size - 1) b.size
 let t <- get
 let c <- forIn [0:a.size+b.size] ((none,a.size - 1,b.size,#[x],gallopOf t):HO') fun _ c=>hiO a b c
 match c.1 with
 | some r=>return r
 | none=>unsupported "internal:list.sort.merge-bound"):=by
 rw[mHi_eq0]
 dsimp only
 congr 1
 funext _
 congr 1
 funext y
 refine ite_congr rfl (fun _=>rfl) (fun _=>?_)
 refine ite_congr rfl (fun _=>rfl) (fun _=>?_)
 congr 1
 funext t
 congr 1
 ·congr 1
  funext _ c
  unfold hiO
  congr 1
  ·funext d
   obtain⟨r,d⟩:=d
   cases r with
   | some r=>rfl
   | none=>
    dsimp only
    congr 1
    funext _
    congr 1
    funext e
    obtain⟨r,e⟩:=e
    cases r <;> rfl
 ·funext c
  obtain⟨r,c⟩:=c
  cases r <;> rfl
structure MH (R:Keyed->Keyed->Bool) (a b:KA) (O X Y:List Keyed):Prop where
 sx:Srt R (X++O)
 sy:Srt R (Y++O)
 pm:(X++Y++O).Perm (a.toList++b.toList)
section
variable {prog:Program} {w:World} {A:Around} {E:Value->Shared->Prop} {s:Shared} {κ:SortKind} {it:List Keyed} {R:Keyed->Keyed->Bool} {st t:SortSt} {M:Model} {a b o:KA} {i j g k l n:Nat}
theorem xO {O P X Y:List Keyed} (h1:Srt R ((X++P)++O)) (h2:Srt R (Y++O)) (h:∀ p ∈ P,∀ y ∈ Y,R y p=true):Srt R (X++(P++O))/\Srt R (Y++(P++O)):=by
 unfold Srt at *
 rw[Ag] at h1
 refine⟨h1,?_⟩
 rw[DC] at h1 h2 ⊢
 refine⟨h2.1,h1.2.1,fun y hy p hp=>?_⟩
 rcases AV.mp hp with hp | hp
 ·exact h p hp y hy
 ·exact h2.2.2 y hy p hp
theorem MH.ty {O P X Y:List Keyed} (m:MH R a b O X (Y++P)) (h:∀ p ∈ P,∀ x ∈ X,R x p=true):MH R a b (P++O) X Y:=by
 obtain⟨h1,h2⟩:=xO m.sy m.sx h
 exact⟨h2,h1,by have:=m.pm;simpa only [List.append_assoc] using this⟩
theorem MH.tx {O P X Y:List Keyed} (m:MH R a b O (X++P) Y) (h:∀ p ∈ P,∀ y ∈ Y,R y p=true):MH R a b (P++O) X Y:=by
 obtain⟨h1,h2⟩:=xO m.sx m.sy h
 refine⟨h1,h2,List.Perm.trans ?_ m.pm⟩
 simp only[List.append_assoc]
 refine Ds _ ?_
 rw[<- Ag,<- Ag]
 exact Dh _ List.perm_append_comm
abbrev MH' (R:Keyed->Keyed->Bool) (a b o:KA) (i j:Nat):Prop:=MH R a b o.toList.reverse (a.toList.take i) (b.toList.take j)
theorem ex0 {c:KA} (i:Nat):(c.extract 0 i).toList=c.toList.take i:=by
 rw[Bg,BJ,Cq,Nat.sub_zero]
theorem yD:(dnH a b o i j).toList=a.toList.take i++b.toList.take j++o.toList.reverse:=by
 unfold dnH
 rw[BC,BC,ex0,ex0,DE]
theorem fbH_to:(fbH a b o i j).toList=b.toList.take j++a.toList.take i++o.toList.reverse:=by
 unfold fbH
 rw[BC,BC,ex0,ex0,DE]
theorem MH.dna (m:MH' R a b o i j) (h:i=0):RS R a b (dnH a b o i j):=by
 subst h
 have p:=m.pm
 rw[CT,Bw] at p
 exact⟨by rw[yD,CT,Bw];exact m.sy,by rw[yD,CT,Bw];exact p⟩
theorem MH.dnb (m:MH' R a b o i j) (h:j=0):RS R a b (dnH a b o i j):=by
 subst h
 have p:=m.pm
 rw[CT,Ap] at p
 exact⟨by rw[yD,CT,Ap];exact m.sx,by rw[yD,CT,Ap];exact p⟩
theorem tk1 {c:KA} {i:Nat} {x:Keyed} (h:c[i]? = some x):c.toList.take (i+1)=c.toList.take i++[x]:=by
 rw[<- AZ] at h
 rw[List.take_succ,h]
 rfl
theorem tkm {c:KA} {i:Nat} {y:Keyed} (h:y ∈ c.toList.take i):∃ q,q < i/\c[q]? = some y:=by
 obtain⟨q,_,h2,h3⟩:=yC (a:=c) (i:=0) (k:=i) (by rw[Cq];exact h)
 exact⟨q,by omega,h3⟩
theorem MH.fb (C:Cm prog w A s κ it R) (c:MC it R a b) (m:MH' R a b o i j) (h:j=1):RS R a b (fbH a b o i j):=by
 subst h
 have b1:=c.b1
 have a1:=c.a1
 obtain⟨y,ey⟩:=zv (a:=b) (i:=0) (by omega)
 obtain⟨x,ex⟩:=zv (a:=a) (i:=0) (by omega)
 have e:b.toList.take 1=[y]:=by rw[tk1 ey];rfl
 have yx:=c.fst x y ex ey
 have m2:=MH.tx (P:=a.toList.take i) (X:=[]) (Y:=[y]) (O:=o.toList.reverse) (a:=a) (b:=b) (R:=R) ⟨m.sx,e ▸ m.sy,e ▸ m.pm⟩ fun p hp z hz=>by
  rw[AJ.mp hz]
  obtain⟨q,q1,q2⟩:=tkm hp
  rcases Nat.eq_zero_or_pos q with h0 | h0
  ·rw[h0,ex] at q2
   rw[<- AH q2]
   exact yx
  ·exact C.tr y (c.ib y (zp ey)) x (c.ia x (zp ex)) p (c.ia p (zp q2)) yx (jV c.sa h0 ex q2)
 have p:=m2.pm
 rw[Bw] at p
 exact⟨by rw[fbH_to,e,Ag];exact m2.sy,by rw[fbH_to,e,Ag];exact p⟩
theorem MH.px (m:MH' R a b o (i+1) j) {x:Keyed} (hx:a[i]? = some x) (h:∀ y ∈ b.toList.take j,R y x=true):MH' R a b (o.push x) i j:=by
 have m2:=MH.tx (P:=[x]) (X:=a.toList.take i) (by rw[<- tk1 hx];exact m) fun p hp y hy=>by rw[AJ.mp hp];exact h y hy
 unfold MH'
 rw[Ct,DI]
 exact m2
theorem MH.py (m:MH' R a b o i (j+1)) {y:Keyed} (hy:b[j]? = some y) (h:∀ x ∈ a.toList.take i,R x y=true):MH' R a b (o.push y) i j:=by
 have m2:=MH.ty (P:=[y]) (Y:=b.toList.take j) (by rw[<- tk1 hy];exact m) fun p hp x hx=>by rw[AJ.mp hp];exact h x hx
 unfold MH'
 rw[Ct,DI]
 exact m2
theorem xP {c:KA} {z i:Nat} (h:z<=i):c.toList.take i=c.toList.take z++(c.extract z i).toList:=by
 rw[Bg,BJ]
 conv=>lhs;rw[show i=z+(i - z) by omega,List.take_add]
theorem exm {c:KA} {z i:Nat} {y:Keyed} (h:y ∈ (c.extract z i).toList):∃ q,z<=q/\q < i/\c[q]? = some y:=by
 rw[Bg,BJ] at h
 obtain⟨q,h1,h2,h3⟩:=yC h
 exact⟨q,h1,by omega,h3⟩
theorem MH.pxs (m:MH' R a b o i j) {z:Nat} (hz:z<=i) (h:∀ x ∈ (a.extract z i).toList,∀ y ∈ b.toList.take j,R y x=true):MH' R a b (o++(a.extract z i).reverse) z j:=by
 have m2:=MH.tx (P:=(a.extract z i).toList) (X:=a.toList.take z) (by rw[<- xP hz];exact m) h
 unfold MH'
 rw[BC,DI,DE,List.reverse_reverse]
 exact m2
theorem MH.pys (m:MH' R a b o i j) {z:Nat} (hz:z<=j) (h:∀ y ∈ (b.extract z j).toList,∀ x ∈ a.toList.take i,R x y=true):MH' R a b (o++(b.extract z j).reverse) i z:=by
 have m2:=MH.ty (P:=(b.extract z j).toList) (Y:=b.toList.take z) (by rw[<- xP hz];exact m) h
 unfold MH'
 rw[BC,DI,DE,List.reverse_reverse]
 exact m2
def GH (R:Keyed->Keyed->Bool) (a b o:KA) (i j n:Nat):Prop:=MH' R a b o i j/\1<=i/\i<=a.size/\2<=j/\j<=b.size/\n+i+j < a.size+b.size
def FH (R:Keyed->Keyed->Bool) (a b:KA) (t:SortSt) (n:Nat):ForInStep HS->SortSt->Prop
 | .done c,u=>SG t u/\((∃ r,c.1=some r/\RS R a b r)\/(c.1=none/\GH R a b c.2.2.2.1 c.2.1 c.2.2.1 n))
 | .yield c,u=>SG t u/\c.1=none/\GH R a b c.2.2.2.1 c.2.1 c.2.2.1 n
theorem hi4_ok (e0:SG t st) (m:MH' R a b o i j) (h1:1<=i) (h1':i<=a.size) (h2:2<=j) (h2':j<=b.size) (hn:n+i+j<=a.size+b.size) (hx:∀ x,a[i - 1]? = some x->∀ y ∈ b.toList.take j,R y x=true):wpS M A E s (hi4 a b o i j g k l) (FH R a b t n) st:=by
 obtain⟨x,ex⟩:=zv (a:=a) (i:=i - 1) (by omega)
 have m2:=MH.px (i:=i - 1) (by rw[show i - 1+1=i by omega];exact m) ex (hx x ex)
 unfold hi4
 refine AT (jD ex ?_)
 by_cases c1:(i - 1 == 0)=true
 ·rw[if_pos c1]
  exact Ab ⟨e0,.inl ⟨_,rfl,m2.dna (by simpa using c1)⟩⟩
 rw[if_neg c1]
 have c1':i - 1 ≠ 0:=fun z=>c1 (by simpa using z)
 have gl:GH R a b (o.push x) (i - 1) j n:=⟨m2,by omega,by omega,h2,h2',by omega⟩
 split
 ·exact Ab ⟨e0,.inr ⟨rfl,gl⟩⟩
 ·exact Ab ⟨e0,rfl,gl⟩
theorem Yk {c:KA} (hc:Srt R c.toList) {i:Nat} {x u:Keyed} (ex:c[i - 1]? = some x) (hu:u ∈ c.toList.take i):u=x\/R u x=true:=by
 obtain⟨q,q1,q2⟩:=tkm hu
 rcases An (show q<=i - 1 by omega) with e | e
 ·rw[e,ex] at q2
  exact .inl (AH q2).symm
 ·exact .inr (jV hc e q2 ex)
theorem hi3_ok (C:Cm prog w A s κ it R) (c:MC it R a b) (hk:kindOf st=κ) (e0:SG t st) (m:MH' R a b o i j) (h1:1<=i) (h1':i<=a.size) (h2:2<=j) (h2':j<=b.size) (hn:n+i+j<=a.size+b.size) (hy:∀ y,b[j - 1]? = some y->∀ x ∈ a.toList.take i,R x y=true):wpS (model prog w) A E s (hi3 a b o i j g k l) (FH R a b t n) st:=by
 obtain⟨y,ey⟩:=zv (a:=b) (i:=j - 1) (by omega)
 obtain⟨x,ex⟩:=zv (a:=a) (i:=i - 1) (by omega)
 have m2:=MH.py (j:=j - 1) (by rw[show j - 1+1=j by omega];exact m) ey (hy y ey)
 unfold hi3
 refine AT (jD ey ?_)
 by_cases c1:(j - 1 == 1)=true
 ·rw[if_pos c1]
  exact Ab ⟨e0,.inl ⟨_,rfl,m2.fb C c (by simpa using c1)⟩⟩
 rw[if_neg c1]
 have c1':j - 1 ≠ 1:=fun z=>c1 (by simpa using z)
 refine AT (jD ex (AT (Jx C (f:=fun t=>match b[0+t]? with | some z=>R z x | none=>false) hk (c.ia x (zp ex)) (fun t ht=>?_) (fun p q pq hq h=>?_) (by omega) fun z k1 k2 k3=>?_)))
 ·obtain⟨z,ez⟩:=zv (a:=b) (i:=0+t) (by omega)
  exact⟨z,ez,c.ib z (zp ez),by simp only[ez];rfl⟩
 ·obtain⟨z,ez⟩:=zv (a:=b) (i:=0+q) (by omega)
  obtain⟨z',ez'⟩:=zv (a:=b) (i:=0+p) (by omega)
  simp only[ez] at h
  simp only[ez']
  rcases An pq with e | e
  ·rw[e,ez] at ez'
   rw[<- AH ez']
   exact h
  ·exact C.tr z' (c.ib z' (zp ez')) z (c.ib z (zp ez)) x (c.ia x (zp ex)) (jV c.sb (by omega) ez' ez) h
 simp only[Nat.zero_add] at k2 k3
 have m3:=m2.pys (z:=z) (by omega) fun v hv u hu=>by
  obtain⟨q,q1,q2,q3⟩:=exm hv
  have f1:=k3 q q1 q2
  simp only[q3] at f1
  have f2:=c.no C (zp ex) (zp q3) f1
  rcases Yk c.sa ex hu with rfl | h
  ·exact f2
  ·exact C.tr u (c.ia u (BU hu)) x (c.ia x (zp ex)) v (c.ib v (zp q3)) h f2
 have hxx:∀ x',a[i - 1]? = some x'->∀ u ∈ b.toList.take z,R u x'=true:=fun x' ex' u hu=>by
  rw[ex] at ex'
  cases ex'
  obtain⟨q,q1,q2⟩:=tkm hu
  have f1:=k2 q q1
  simp only[q2] at f1
  exact f1
 dsimp only
 by_cases c2:j - 1 - z > 0
 ·rw[if_pos c2]
  by_cases c3:(z == 1)=true
  ·rw[if_pos c3]
   exact Ab ⟨e0,.inl ⟨_,rfl,m3.fb C c (by simpa using c3)⟩⟩
  rw[if_neg c3]
  have c3':z ≠ 1:=fun q=>c3 (by simpa using q)
  by_cases c4:(z == 0)=true
  ·rw[if_pos c4]
   exact Ab ⟨e0,.inl ⟨_,rfl,m3.dnb (by simpa using c4)⟩⟩
  rw[if_neg c4]
  have c4':z ≠ 0:=fun q=>c4 (by simpa using q)
  exact hi4_ok e0 m3 h1 h1' (by omega) (by omega) (by omega) hxx
 ·rw[if_neg c2]
  obtain rfl:z=j - 1:=by omega
  exact hi4_ok e0 m2 h1 h1' (by omega) (by omega) (by omega) hxx
theorem hi2_ok (C:Cm prog w A s κ it R) (c:MC it R a b) (hk:kindOf st=κ) (e0:SG t st) (m:MH' R a b o i j) (h1:1<=i) (h1':i<=a.size) (h2:2<=j) (h2':j<=b.size) (hn:n+i+j<=a.size+b.size):wpS (model prog w) A E s (hi2 a b o i j g k l) (FH R a b t n) st:=by
 obtain⟨y,ey⟩:=zv (a:=b) (i:=j - 1) (by omega)
 unfold hi2
 refine AT (sG_ok fun u su=>?_)
 have e1:=e0.tr su
 have hk1:kindOf u=κ:=su.1.trans hk
 refine AT (jD ey (AT (Jx C (f:=fun t=>match a[0+t]? with | some z=>!R y z | none=>false) hk1 (c.ib y (zp ey)) (fun t ht=>?_) (fun p q pq hq h=>?_) (by omega) fun z k1 k2 k3=>?_)))
 ·obtain⟨z,ez⟩:=zv (a:=a) (i:=0+t) (by omega)
  exact⟨z,ez,c.ia z (zp ez),by simp only[ez];rfl⟩
 ·obtain⟨z,ez⟩:=zv (a:=a) (i:=0+q) (by omega)
  obtain⟨z',ez'⟩:=zv (a:=a) (i:=0+p) (by omega)
  simp only[ez] at h
  simp only[ez']
  rcases An pq with e | e
  ·rw[e,ez] at ez'
   rw[<- AH ez']
   exact h
  ·have f1:=c.no C (zp ez) (zp ey) (by simpa using h)
   have f2:=C.tr z' (c.ia z' (zp ez')) z (c.ia z (zp ez)) y (c.ib y (zp ey)) (jV c.sa (by omega) ez' ez) f1
   rw[C.asym z' (c.ia z' (zp ez')) y (c.ib y (zp ey)) f2]
   rfl
 simp only[Nat.zero_add] at k2 k3
 have m3:=m.pxs (z:=z) k1 fun v hv u hu=>by
  obtain⟨q,q1,q2,q3⟩:=exm hv
  have f1:=k3 q q1 q2
  simp only[q3] at f1
  have f2:R y v=true:=by simpa using f1
  rcases Yk c.sb ey hu with rfl | h
  ·exact f2
  ·exact C.tr u (c.ib u (BU hu)) y (c.ib y (zp ey)) v (c.ia v (zp q3)) h f2
 have hyy:∀ y',b[j - 1]? = some y'->∀ u ∈ a.toList.take z,R u y'=true:=fun y' ey' u hu=>by
  rw[ey] at ey'
  cases ey'
  obtain⟨q,q1,q2⟩:=tkm hu
  have f1:=k2 q q1
  simp only[q2] at f1
  exact c.no C (zp q2) (zp ey) (by simpa using f1)
 dsimp only
 by_cases c2:i - z > 0
 ·rw[if_pos c2]
  by_cases c3:(z == 0)=true
  ·rw[if_pos c3]
   exact Ab ⟨e1,.inl ⟨_,rfl,m3.dna (by simpa using c3)⟩⟩
  rw[if_neg c3]
  have c3':z ≠ 0:=fun q=>c3 (by simpa using q)
  exact hi3_ok C c hk1 e1 m3 (by omega) (by omega) h2 h2' (by omega) hyy
 ·rw[if_neg c2]
  obtain rfl:z=i:=by omega
  exact hi3_ok C c hk1 e1 m h1 h1' h2 h2' hn hyy
theorem hi1_ok (C:Cm prog w A s κ it R) (c:MC it R a b) (hk:kindOf st=κ) (e0:SG t st) {d:HS} (g:GH R a b d.2.2.2.1 d.2.1 d.2.2.1 n):wpS (model prog w) A E s (hi1 a b d) (FH R a b t (n+1)) st:=by
 unfold hi1
 obtain⟨m,h1,h2,h3,h4,h5⟩:=g
 split
 ·exact hi2_ok C c hk e0 m h1 h2 h3 h4 (by omega)
 ·exact hi2_ok C c hk e0 m h1 h2 h3 h4 (by omega)
def FJ (R:Keyed->Keyed->Bool) (a b:KA) (t:SortSt) (n:Nat):ForInStep HI->SortSt->Prop
 | .done c,u=>t=u/\((∃ r,c.1=some r/\RS R a b r)\/(c.1=none/\GH R a b c.2.2.2.1 c.2.1 c.2.2.1 n))
 | .yield c,u=>t=u/\c.1=none/\GH R a b c.2.2.2.1 c.2.1 c.2.2.1 n
theorem hiI_ok (C:Cm prog w A s κ it R) (c:MC it R a b) (hk:kindOf st=κ) {d:HI} (gl:GH R a b d.2.2.2.1 d.2.1 d.2.2.1 n):wpS (model prog w) A E s (hiI a b g d) (FJ R a b st (n+1)) st:=by
 obtain⟨m,h1,h1',h2,h2',h3⟩:=gl
 obtain⟨y,ey⟩:=zv (a:=b) (i:=d.2.2.1 - 1) (by omega)
 obtain⟨x,ex⟩:=zv (a:=a) (i:=d.2.1 - 1) (by omega)
 unfold hiI
 refine AT (jD ey (AT (jD ex (AT (xL C hk (c.ib y (zp ey)) (c.ia x (zp ex)) ?_)))))
 dsimp only
 cases hr:R y x with
 | true=>
  rw[if_pos rfl]
  have m2:=MH.px (i:=d.2.1 - 1) (by rw[show d.2.1 - 1+1=d.2.1 by omega];exact m) ex fun u hu=>by
   rcases Yk c.sb ey hu with rfl | h
   ·exact hr
   ·exact C.tr u (c.ib u (BU hu)) y (c.ib y (zp ey)) x (c.ia x (zp ex)) h hr
  refine AT (jD ex ?_)
  by_cases c1:(d.2.1 - 1 == 0)=true
  ·rw[if_pos c1]
   exact Ab ⟨rfl,.inl ⟨_,rfl,m2.dna (by simpa using c1)⟩⟩
  rw[if_neg c1]
  have c1':d.2.1 - 1 ≠ 0:=fun z=>c1 (by simpa using z)
  have gl:GH R a b (d.2.2.2.1.push x) (d.2.1 - 1) d.2.2.1 (n+1):=⟨m2,by omega,by omega,h2,h2',by omega⟩
  split
  ·exact Ab ⟨rfl,.inr ⟨rfl,gl⟩⟩
  ·exact Ab ⟨rfl,rfl,gl⟩
 | false=>
  rw[if_neg (by decide)]
  have f2:=c.no C (zp ex) (zp ey) hr
  have m2:=MH.py (j:=d.2.2.1 - 1) (by rw[show d.2.2.1 - 1+1=d.2.2.1 by omega];exact m) ey fun u hu=>by
   rcases Yk c.sa ex hu with rfl | h
   ·exact f2
   ·exact C.tr u (c.ia u (BU hu)) x (c.ia x (zp ex)) y (c.ib y (zp ey)) h f2
  refine AT (jD ey ?_)
  by_cases c1:(d.2.2.1 - 1 == 1)=true
  ·rw[if_pos c1]
   exact Ab ⟨rfl,.inl ⟨_,rfl,m2.fb C c (by simpa using c1)⟩⟩
  rw[if_neg c1]
  have c1':d.2.2.1 - 1 ≠ 1:=fun z=>c1 (by simpa using z)
  have gl:GH R a b (d.2.2.2.1.push y) d.2.1 (d.2.2.1 - 1) (n+1):=⟨m2,h1,h1',by omega,by omega,by omega⟩
  split
  ·exact Ab ⟨rfl,.inr ⟨rfl,gl⟩⟩
  ·exact Ab ⟨rfl,rfl,gl⟩
theorem GH.le {n':Nat} (h:GH R a b o i j n) (e:n'<=n):GH R a b o i j n':=⟨h.1,h.2.1,h.2.2.1,h.2.2.2.1,h.2.2.2.2.1,by have:=h.2.2.2.2.2;omega⟩
def FP (R:Keyed->Keyed->Bool) (a b:KA) (t:SortSt) (n:Nat):ForInStep HO'->SortSt->Prop
 | .done c,u=>SG t u/\∃ r,c.1=some r/\RS R a b r
 | .yield c,u=>SG t u/\c.1=none/\GH R a b c.2.2.2.1 c.2.1 c.2.2.1 n
theorem hiO_ok (C:Cm prog w A s κ it R) (c:MC it R a b) (hk:kindOf st=κ) (e0:SG t st) {d:HO'} (gl:GH R a b d.2.2.2.1 d.2.1 d.2.2.1 n):wpS (model prog w) A E s (hiO a b d) (FP R a b t (n+1)) st:=by
 unfold hiO
 refine AT (Bk (BR (I:=fun x e u=>st=u/\e.1=none/\GH R a b e.2.2.2.1 e.2.1 e.2.2.1 (n+x)) (Q:=fun e u=>st=u/\((∃ r,e.1=some r/\RS R a b r)\/(e.1=none/\GH R a b e.2.2.2.1 e.2.1 e.2.2.1 (n+1)))) ?_ ?_ ⟨rfl,rfl,gl⟩) ?_)
 ·rintro x e u _ _ ⟨rfl,he,ge⟩
  refine Bk (hiI_ok C c hk ge) fun r v h=>?_
  cases r with
  | done e'=>
   obtain⟨h1,h2 | h2⟩:=h
   ·exact⟨h1,.inl h2⟩
   ·exact⟨h1,.inr ⟨h2.1,h2.2.le (by omega)⟩⟩
  | yield e'=>exact h
 ·rintro e u ⟨rfl,he,ge⟩
  refine⟨rfl,.inr ⟨he,ge.le ?_⟩⟩
  have:=c.a1
  omega
 rintro⟨r,d'⟩ u ⟨rfl,h⟩
 cases r with
 | some r=>
  obtain⟨r',e,h⟩:=h.resolve_right fun z=>by cases z.1
  cases e
  exact Ab ⟨e0,r,rfl,h⟩
 | none=>
  have gl2:=(h.resolve_left fun ⟨_,z,_⟩=>by cases z).2
  dsimp only
  refine AT (wpS_lift (Ba ⟨rfl,?_⟩))
  refine AT (Bk (BR (I:=fun x e u=>SG t u/\e.1=none/\GH R a b e.2.2.2.1 e.2.1 e.2.2.1 (n+1+x)) (Q:=fun e u=>SG t u/\((∃ r,e.1=some r/\RS R a b r)\/(e.1=none/\GH R a b e.2.2.2.1 e.2.1 e.2.2.1 (n+1)))) ?_ ?_ ⟨e0,rfl,gl2⟩) ?_)
  ·rintro x e u _ _ ⟨hu,he,ge⟩
   refine Bk (hi1_ok C c (hu.1.trans (e0.1.symm.trans hk)) hu ge) fun r v h=>?_
   cases r with
   | done e'=>
    obtain⟨h1,h2 | h2⟩:=h
    ·exact⟨h1,.inl h2⟩
    ·exact⟨h1,.inr ⟨h2.1,h2.2.le (by omega)⟩⟩
   | yield e'=>exact h
  ·rintro e u ⟨hu,he,ge⟩
   exact⟨hu,.inr ⟨he,ge.le (by omega)⟩⟩
  rintro⟨r,d'⟩ u ⟨hu,h⟩
  cases r with
  | some r=>
   obtain⟨r',e,h⟩:=h.resolve_right fun z=>by cases z.1
   cases e
   exact Ab ⟨hu,r,rfl,h⟩
  | none=>
   have gl3:=(h.resolve_left fun ⟨_,z,_⟩=>by cases z).2
   exact AT (sG_ok fun v hv=>Ab ⟨hu.tr hv,rfl,gl3⟩)
theorem mHi_ok (C:Cm prog w A s κ it R) (c:MC it R a b) (hk:kindOf st=κ) {Q:KA->SortSt->Prop} (q:∀ r u,SG st u->RS R a b r->Q r u):wpS (model prog w) A E s (mHi' a b) Q st:=by
 have a1:=c.a1
 have b1:=c.b1
 obtain⟨x,ex⟩:=zv (a:=a) (i:=a.size - 1) (by omega)
 have s0:SG st st:=⟨rfl,rfl,rfl,rfl⟩
 have m0:MH' R a b #[x] (a.size - 1) b.size:=by
  have ta:a.toList.take (a.size - 1+1)=a.toList:=BY (by rw[Am];omega)
  have tb:b.toList.take b.size=b.toList:=BY (by rw[Am];exact AG _)
  have:=MH.px (o:=#[]) (i:=a.size - 1) (j:=b.size) (R:=R) (a:=a) (b:=b) ⟨by rw[ta];simpa using c.sa,by rw[tb];simpa using c.sb,by rw[ta,tb];simp⟩ ex fun u hu=>c.lst x ex u (BU hu)
  exact this
 rw[mHi_eq]
 refine AT (wpS_lift (Ba ⟨rfl,?_⟩))
 refine AT (jD ex ?_)
 by_cases c1:(a.size - 1 == 0)=true
 ·rw[if_pos c1]
  exact Ab (q _ _ s0 (m0.dna (by simpa using c1)))
 rw[if_neg c1]
 have c1':a.size - 1 ≠ 0:=fun z=>c1 (by simpa using z)
 by_cases c2:(b.size == 1)=true
 ·rw[if_pos c2]
  exact Ab (q _ _ s0 (m0.fb C c (by simpa using c2)))
 rw[if_neg c2]
 have c2':b.size ≠ 1:=fun z=>c2 (by simpa using z)
 refine AT (wpS_get (AT (Bk (BR (I:=fun x d u=>SG st u/\d.1=none/\GH R a b d.2.2.2.1 d.2.1 d.2.2.1 x) (Q:=fun d u=>SG st u/\∃ r,d.1=some r/\RS R a b r) ?_ ?_ ⟨s0,rfl,m0,by show 1<=a.size - 1;omega,by show a.size - 1<=_;omega,by show 2<=b.size;omega,AG _,by show 0+(a.size - 1)+b.size < _;omega⟩) ?_)))
 ·rintro x d u _ _ ⟨hu,hd,gd⟩
  refine Bk (hiO_ok C c (hu.1.trans hk) hu gd) fun r v h=>?_
  cases r with
  | done d'=>exact h
  | yield d'=>exact h
 ·rintro d u ⟨hu,hd,gd⟩
  have:=gd.2.2.2.2.2
  omega
 rintro⟨r,d⟩ u ⟨hu,r',e,hr⟩
 cases e
 exact Ab (q _ _ hu hr)
end
theorem mA_eq (i:Nat):mergeAt' i=(do
 let t <- get
 let (some (p,m,pw),some (q,n,_)):=((pendingOf t)[i]?,(pendingOf t)[i+1]?) | unsupported "internal:list.sort.pending"
 set (SortSt.mk' (kindOf t) (arrOf t) (((pendingOf t).setIfInBounds i (p,m+n,pw)).eraseIdxIfInBounds (i+1)) (gallopOf t) (failedOf t))
 let some k <- Yv false (<- elem' (arrOf t) q) (arrOf t) p m 0 | return false
 let (p,m):=(p+k,m - k)
 if m == 0 then return true
 let some n <- Yv true (<- elem' (arrOf t) (p+m - 1)) (arrOf t) q n (n - 1) | return false
 if n == 0 then return true
 let x:=(arrOf t).extract p q
 let y:=(arrOf t).extract q (q+n)
 let r <- if m<=n then mLo' x y else mHi' x y
 modify fun t=>SortSt.mk' (kindOf t) (r.toList.zipIdx.foldl (fun a (v,j)=>a.setIfInBounds (p+j) v) (arrOf t)) (pendingOf t) (gallopOf t) (failedOf t)
 return (failedOf (<- get)).isNone):=rfl
theorem wpS_set' {M:Model} {A:Around} {E:Value->Shared->Prop} {s:Shared} {st u:SortSt} {Q:PUnit->SortSt->Prop} (h:Q ⟨⟩ u):wpS M A E s (set u:SM PUnit) Q st:=by
 unfold wpS
 exact AF ⟨rfl,h⟩
theorem wP (f:Nat):∀ (r:List Keyed) (n:Nat) (a:KA),((r.zipIdx n).foldl (fun a (v,j)=>a.setIfInBounds (f+j) v) a).size=a.size
 | [],_,_=>rfl
 | v :: r,n,a=>by
  rw[List.zipIdx_cons,Bx,wP f r]
  exact Array.size_setIfInBounds
theorem xQ (f:Nat):∀ (r:List Keyed) (n:Nat) (a:KA),f+n+r.length<=a.size->∀ q,((r.zipIdx n).foldl (fun a (v,j)=>a.setIfInBounds (f+j) v) a)[q]? = if f+n<=q/\q < f+n+r.length then r[q - (f+n)]? else a[q]?
 | [],n,a,_,q=>by
  rw[if_neg (by rintro⟨h1,h2⟩;rw[List.length_nil] at h2;omega)]
  rfl
 | v :: r,n,a,h,q=>by
  rw[Az] at h
  rw[List.zipIdx_cons,Bx,xQ f r (n+1) _ (by rw[Array.size_setIfInBounds];omega),Az,Array.getElem?_setIfInBounds]
  by_cases h1:q=f+n
  ·rw[if_neg (by omega),if_pos h1.symm,if_pos (by omega),if_pos (by omega),h1,Ck]
   rfl
  ·rw[if_neg (Af h1)]
   by_cases h2:f+n<=q/\q < f+n+(r.length+1)
   ·rw[if_pos (by omega),if_pos h2]
    obtain⟨d,hd⟩:∃ d,q - (f+n)=d+1:=⟨q - (f+n) - 1,by omega⟩
    rw[hd,List.getElem?_cons_succ,show q - (f+(n+1))=d by omega]
   ·rw[if_neg (by omega),if_neg h2]
def StA (R:Keyed->Keyed->Bool) (a:KA) (lo n:Nat):Prop:=∀ p q x y,lo<=p->p < q->q < lo+n->a[p]? = some x->a[q]? = some y->R x y=true
structure SA (t u:SortSt) (lo n:Nat):Prop where
 kd:kindOf u=kindOf t
 fl:failedOf u=failedOf t
 sz:(arrOf u).size=(arrOf t).size
 pm:(arrOf u).toList.Perm (arrOf t).toList
 off:∀ i,i < lo\/lo+n<=i->(arrOf u)[i]? = (arrOf t)[i]?
section
variable {prog:Program} {w:World} {A:Around} {E:Value->Shared->Prop} {s:Shared} {κ:SortKind} {it:List Keyed} {R:Keyed->Keyed->Bool} {st t:SortSt} {M:Model}
theorem SA.rfl' {lo n:Nat}:SA t t lo n:=⟨rfl,rfl,rfl,DR _,fun _ _=>rfl⟩
theorem SA.tr {u v:SortSt} {lo n:Nat} (h:SA t u lo n) (k:SA u v lo n):SA t v lo n:=⟨k.kd.trans h.kd,k.fl.trans h.fl,k.sz.trans h.sz,k.pm.trans h.pm,fun i hi=>(k.off i hi).trans (h.off i hi)⟩
theorem wQ {a:KA} {p q t:Nat} (hq:q<=a.size) (h:t < q - p):(a.extract p q)[t]? = a[p+t]?:=by
 rw[Array.getElem?_extract,if_pos (by omega)]
theorem xR {a:KA} {p q:Nat} (hq:q<=a.size):(a.extract p q).size=q - p:=by
 rw[Array.size_extract]
 omega
theorem cut3 {a:KA} {p q:Nat} (h:p<=q):a.toList=a.toList.take p++((a.extract p q).toList++a.toList.drop q):=by
 conv=>lhs;rw[<- Dp q a.toList,xP h,Ag]
theorem xS {a:KA} {lo n p q:Nat} (h:StA R a lo n) (h1:lo<=p) (h2:q<=lo+n) (hq:q<=a.size):Srt R (a.extract p q).toList:=by
 refine Bc.mpr fun i j hi hj hij=>?_
 have e1:(a.extract p q)[i]? = some (a.extract p q).toList[i]:=by rw[<- AZ];exact AD hi
 have e2:(a.extract p q)[j]? = some (a.extract p q).toList[j]:=by rw[<- AZ];exact AD hj
 rw[Am,xR hq] at hi hj
 rw[wQ hq hi] at e1
 rw[wQ hq hj] at e2
 exact h _ _ _ _ (by omega) (by omega) (by omega) e1 e2
theorem tm_mA (C:Cm prog w A s κ it R) {i p m pw q n pw':Nat} (hk:kindOf st=κ) (hf:failedOf st=none) (e1:(pendingOf st)[i]? = some (p,m,pw)) (e2:(pendingOf st)[i+1]? = some (q,n,pw')) (hq:q=p+m) (m1:1<=m) (n1:1<=n) (hz:q+n<=(arrOf st).size) (hin:∀ x ∈ (arrOf st).toList,x ∈ it) (nd:(arrOf st).toList.Nodup) (sm:StA R (arrOf st) p m) (sn:StA R (arrOf st) q n)
  {Q:Bool->SortSt->Prop} (qq:∀ u,SA st u p (m+n)->pendingOf u=((pendingOf st).setIfInBounds i (p,m+n,pw)).eraseIdxIfInBounds (i+1)->StA R (arrOf u) p (m+n)->Q true u):wpS (model prog w) A E s (mergeAt' i) Q st:=by
 obtain⟨y0,ey⟩:=zv (a:=arrOf st) (i:=q) (by omega)
 have mem:∀ {t:Nat} {x:Keyed},(arrOf st)[t]? = some x->x ∈ it:=fun h=>hin _ (zp h)
 have ne:∀ {t u:Nat} {x y:Keyed},t ≠ u->(arrOf st)[t]? = some x->(arrOf st)[u]? = some y->x ≠ y:=fun {t u x y} h h1 h2 e=>by
  rw[<- e] at h2
  rw[<- AZ] at h1 h2
  exact h ((CO (AE.mp h1).1 nd).mp (h1.trans h2.symm))
 rw[mA_eq]
 refine AT (wpS_get ?_)
 rw[e1,e2]
 dsimp only
 refine AT (wpS_set' ?_)
 have hk1:kindOf (SortSt.mk' (kindOf st) (arrOf st) (((pendingOf st).setIfInBounds i (p,m+n,pw)).eraseIdxIfInBounds (i+1)) (gallopOf st) (failedOf st))=κ:=hk
 have sa0:SA st (SortSt.mk' (kindOf st) (arrOf st) (((pendingOf st).setIfInBounds i (p,m+n,pw)).eraseIdxIfInBounds (i+1)) (gallopOf st) (failedOf st)) p (m+n):=⟨rfl,rfl,rfl,DR _,fun _ _=>rfl⟩
 refine AT (jD ey (AT (Jx C (f:=fun t=>match (arrOf st)[p+t]? with | some z=>!R y0 z | none=>false) hk1 (mem ey) (fun t ht=>?_) (fun c d cd hd h=>?_) (by omega) fun k k1 k2 k3=>?_)))
 ·obtain⟨z,ez⟩:=zv (a:=arrOf st) (i:=p+t) (by omega)
  exact⟨z,ez,mem ez,by simp only[ez];rfl⟩
 ·obtain⟨z,ez⟩:=zv (a:=arrOf st) (i:=p+d) (by omega)
  obtain⟨z',ez'⟩:=zv (a:=arrOf st) (i:=p+c) (by omega)
  simp only[ez] at h
  simp only[ez']
  rcases An cd with e | e
  ·rw[e,ez] at ez'
   rw[<- AH ez']
   exact h
  ·have f1:=C.tot y0 (mem ey) z (mem ez) (ne (by omega) ey ez) (by simpa using h)
   have f2:=C.tr z' (mem ez') z (mem ez) y0 (mem ey) (sm _ _ _ _ (by omega) (by omega) (by omega) ez' ez) f1
   rw[C.asym z' (mem ez') y0 (mem ey) f2]
   rfl
 -- what lies ahead of k is Yk the second run's first
 have L1:∀ {d:Nat} {x:Keyed},p<=d->d < p+k->(arrOf st)[d]? = some x->R x y0=true:=fun {d x} h1 h2 hx=>by
  have f1:=k2 (d - p) (by omega)
  rw[show p+(d - p)=d by omega] at f1
  simp only[hx] at f1
  exact C.tot y0 (mem ey) x (mem hx) (ne (by omega) ey hx) (by simpa using f1)
 have Y1:∀ {d:Nat} {x:Keyed},q<=d->d < q+n->(arrOf st)[d]? = some x->x=y0\/R y0 x=true:=fun {d x} h1 h2 hx=>by
  rcases An h1 with e | e
  ·rw[<- e,ey] at hx
   exact .inl (AH hx).symm
  ·exact .inr (sn _ _ _ _ (AG _) e h2 ey hx)
 have L2':∀ {d d':Nat} {x x':Keyed},p<=d->d < p+k->q<=d'->d' < q+n->(arrOf st)[d]? = some x->(arrOf st)[d']? = some x'->R x x'=true:=fun {d d' x x'} h1 h2 h3 h4 hx hx'=>by
  rcases Y1 h3 h4 hx' with rfl | h
  ·exact L1 h1 h2 hx
  ·exact C.tr x (mem hx) y0 (mem ey) x' (mem hx') (L1 h1 h2 hx) h
 dsimp only
 by_cases c1:(m - k == 0)=true
 ·rw[if_pos c1]
  have c1':m - k=0:=by simpa using c1
  refine Ab (qq _ sa0 rfl fun a b x y h1 h2 h3 hx hy=>?_)
  by_cases ha:a < q
  ·by_cases hb:b < q
   ·exact sm a b x y h1 h2 (by omega) hx hy
   ·exact L2' h1 (by omega) (by omega) (by omega) hx hy
  ·exact sn a b x y (by omega) h2 (by omega) hx hy
 rw[if_neg c1]
 have c1':m - k ≠ 0:=fun z=>c1 (by simpa using z)
 obtain⟨x9,ex⟩:=zv (a:=arrOf st) (i:=p+k+(m - k) - 1) (by omega)
 have ex':(arrOf st)[q - 1]? = some x9:=by rw[show q - 1=p+k+(m - k) - 1 by omega];exact ex
 refine AT (jD ex (AT (Jx C (f:=fun t=>match (arrOf st)[q+t]? with | some z=>R z x9 | none=>false) hk1 (mem ex) (fun t ht=>?_) (fun c d cd hd h=>?_) (by omega) fun l l1 l2 l3=>?_)))
 ·obtain⟨z,ez⟩:=zv (a:=arrOf st) (i:=q+t) (by omega)
  exact⟨z,ez,mem ez,by simp only[ez];rfl⟩
 ·obtain⟨z,ez⟩:=zv (a:=arrOf st) (i:=q+d) (by omega)
  obtain⟨z',ez'⟩:=zv (a:=arrOf st) (i:=q+c) (by omega)
  simp only[ez] at h
  simp only[ez']
  rcases An cd with e | e
  ·rw[e,ez] at ez'
   rw[<- AH ez']
   exact h
  ·exact C.tr z' (mem ez') z (mem ez) x9 (mem ex) (sn _ _ _ _ (by omega) (by omega) (by omega) ez' ez) h
 obtain⟨x0,ex0⟩:=zv (a:=arrOf st) (i:=p+k) (by omega)
 have f0:R y0 x0=true:=by
  have f1:=k3 k (AG _) (by omega)
  simp only[ex0] at f1
  simpa using f1
 have f9:R y0 x9=true:=by
  rcases An (show p+k<=q - 1 by omega) with e | e
  ·rw[e,ex'] at ex0
   rw[AH ex0]
   exact f0
  ·exact C.tr y0 (mem ey) x0 (mem ex0) x9 (mem ex') f0 (sm _ _ _ _ (by omega) e (by omega) ex0 ex')
 dsimp only
 by_cases c2:(l == 0)=true
 ·have c2':l=0:=by simpa using c2
  have f1:=l3 0 (by omega) (by omega)
  rw[EW] at f1
  simp only[ey] at f1
  rw[f9] at f1
  cases f1
 rw[if_neg c2]
 have c2':l ≠ 0:=fun z=>c2 (by simpa using z)
 have sx:((arrOf st).extract (p+k) q).size=q - (p+k):=xR (by omega)
 have sy:((arrOf st).extract q (q+l)).size=l:=by rw[xR (by omega)];omega
 have eq3:(arrOf st).toList=(arrOf st).toList.take (p+k)++((((arrOf st).extract (p+k) q).toList++((arrOf st).extract q (q+l)).toList)++(arrOf st).toList.drop (q+l)):=by
  rw[show ((arrOf st).extract (p+k) q).toList++((arrOf st).extract q (q+l)).toList=((arrOf st).extract (p+k) (q+l)).toList by
   rw[Bg,Bg,Bg,BJ,BJ,BJ,show q+l - (p+k)=(q - (p+k))+(q+l - q) by omega,List.take_add,List.drop_drop,show p+k+(q - (p+k))=q by omega]]
  exact cut3 (by omega)
 have ndx:(((arrOf st).extract (p+k) q).toList++((arrOf st).extract q (q+l)).toList).Nodup:=by
  rw[eq3] at nd
  exact (Bu.mp (Bu.mp nd).2.1).1
 have mc:MC it R ((arrOf st).extract (p+k) q) ((arrOf st).extract q (q+l)):=by
  refine⟨fun x hx=>?_,fun x hx=>?_,ndx,xS sm (by omega) (by omega) (by omega),xS sn (AG _) (by omega) (by omega),by omega,by omega,fun x y hx hy=>?_,fun x hx y hy=>?_⟩
  ·obtain⟨d,_,_,h⟩:=exm hx
   exact mem h
  ·obtain⟨d,_,_,h⟩:=exm hx
   exact mem h
  ·rw[wQ (by omega) (by omega),EW,ex0] at hx
   rw[wQ (by omega) (by omega),EW,ey] at hy
   rw[<- AH hx,<- AH hy]
   exact f0
  ·rw[sx,wQ (by omega) (by omega),show p+k+(q - (p+k) - 1)=q - 1 by omega,ex'] at hx
   rw[<- AH hx]
   obtain⟨d,d1,d2,h⟩:=exm hy
   have f1:=l2 (d - q) (by omega)
   rw[show q+(d - q)=d by omega] at f1
   simp only[h] at f1
   exact f1
 have fin:∀ (r:KA) (u:SortSt),SG (SortSt.mk' (kindOf st) (arrOf st) (((pendingOf st).setIfInBounds i (p,m+n,pw)).eraseIdxIfInBounds (i+1)) (gallopOf st) (failedOf st)) u->RS R ((arrOf st).extract (p+k) q) ((arrOf st).extract q (q+l)) r ->
   wpS (model prog w) A E s (do
    modify fun t=>SortSt.mk' (kindOf t) (r.toList.zipIdx.foldl (fun a (v,j)=>a.setIfInBounds (p+k+j) v) (arrOf t)) (pendingOf t) (gallopOf t) (failedOf t)
    let t <- get
    pure (failedOf t).isNone) Q u:=by
  intro r u hu rs
  refine AT (Dy (AT (wpS_get ?_)))
  have hfu:failedOf u=none:=hu.2.2.2.trans hf
  have hau:arrOf u=arrOf st:=hu.2.1
  have rl:r.toList.length=q+l - (p+k):=by
   rw[rs.p.length_eq,AI,Am,Am,sx,sy]
   omega
  show wpS _ _ _ _ (pure (failedOf u).isNone) _ _
  rw[hfu]
  have fa:=xQ (p+k) r.toList 0 (arrOf u) (by rw[hau,rl];omega)
  have fs:=wP (p+k) r.toList 0 (arrOf u)
  rw[EW,rl,hau] at fa
  rw[hau] at fs
  rw[hau]
  generalize hg:((r.toList.zipIdx 0).foldl (fun a (v,j)=>a.setIfInBounds (p+k+j) v) (arrOf st))=na at *
  have er:∀ d,p+k<=d->d < q+l->na[d]? = r.toList[d - (p+k)]?:=fun d h1 h2=>by rw[fa,if_pos (by omega)]
  have eo:∀ d,d < p+k\/q+l<=d->na[d]? = (arrOf st)[d]?:=fun d h=>by rw[fa,if_neg (by omega)]
  have enl:na.toList=(arrOf st).toList.take (p+k)++(r.toList++(arrOf st).toList.drop (q+l)):=by
   have hl:(arrOf st).toList.length=(arrOf st).size:=Am
   refine Bd fun d=>?_
   rw[AZ]
   by_cases h1:d < p+k
   ·rw[eo d (.inl h1),BD (by rw[Ae];omega),Be h1,AZ]
   ·rw[A3 (by rw[Ae];omega),Ae,show min (p+k) (arrOf st).toList.length=p+k by omega]
    by_cases h2:d < q+l
    ·rw[er d (by omega) h2,BD (by omega)]
    ·rw[eo d (.inr (by omega)),A3 (by omega),Cg,AZ,rl,show q+l+(d - (p+k) - (q+l - (p+k)))=d by omega]
  have rmem:∀ {d:Nat} {v:Keyed},p+k<=d->d < q+l->na[d]? = some v->∃ d',p+k<=d'/\d' < q+l/\(arrOf st)[d']? = some v:=fun {d v} h1 h2 hv=>by
   rw[er d h1 h2] at hv
   have:=rs.p.mem_iff.mp (AN hv)
   rcases AV.mp this with h | h
   ·obtain⟨d',z1,z2,z3⟩:=exm h
    exact⟨d',z1,by omega,z3⟩
   ·obtain⟨d',z1,z2,z3⟩:=exm h
    exact⟨d',by omega,z2,z3⟩
  refine Ab (qq _ ⟨hu.1,hf.symm,fs,?_,fun d hd=>?_⟩ hu.2.2.1 fun c d x y h1 h2 h3 hx hy=>?_)
  ·show na.toList.Perm _
   rw[enl]
   conv=>rhs;rw[eq3]
   exact Ds _ (Dh _ rs.p)
  ·exact eo d (by omega)
  have hx:na[c]? = some x:=hx
  have hy:na[d]? = some y:=hy
  by_cases ca:c < p+k
  ·rw[eo c (.inl ca)] at hx
   have yy:∃ d',c < d'/\p<=d'/\d' < q+n/\(d' < q\/q<=d')/\(arrOf st)[d']? = some y:=by
    by_cases da:p+k<=d/\d < q+l
    ·obtain⟨d',z1,z2,z3⟩:=rmem da.1 da.2 hy
     exact⟨d',by omega,by omega,by omega,by omega,z3⟩
    ·rw[eo d (by omega)] at hy
     exact⟨d,h2,by omega,by omega,by omega,hy⟩
   obtain⟨d',z1,z2,z3,z4,z5⟩:=yy
   rcases z4 with z4 | z4
   ·exact sm c d' x y h1 z1 (by omega) hx z5
   ·exact L2' h1 ca z4 z3 hx z5
  ·by_cases cb:c < q+l
   ·by_cases db:d < q+l
    ·rw[er c (by omega) cb] at hx
     rw[er d (by omega) db] at hy
     obtain⟨z1,rfl⟩:=AE.mp hx
     obtain⟨z2,rfl⟩:=AE.mp hy
     exact (Bc.mp rs.s) _ _ z1 z2 (by omega)
    ·obtain⟨c',z1,z2,z3⟩:=rmem (by omega) cb hx
     rw[eo d (by omega)] at hy
     by_cases c3:c' < q
     ·have f1:=l3 (d - q) (by omega) (by omega)
      rw[show q+(d - q)=d by omega] at f1
      simp only[hy] at f1
      have f2:=C.tot y (mem hy) x9 (mem ex') (ne (by omega) hy ex') f1
      rcases An (show c'<=q - 1 by omega) with e | e
      ·rw[e,ex'] at z3
       rw[<- AH z3]
       exact f2
      ·exact C.tr x (mem z3) x9 (mem ex') y (mem hy) (sm _ _ _ _ (by omega) e (by omega) z3 ex') f2
     ·exact sn c' d x y (by omega) (by omega) (by omega) z3 hy
   ·rw[eo c (by omega)] at hx
    rw[eo d (by omega)] at hy
    exact sn c d x y (by omega) h2 (by omega) hx hy
 split
 ·exact AT (mLo_ok C mc hk1 fun r u hu rs=>fin r u hu rs)
 ·exact AT (mHi_ok C mc hk1 fun r u hu rs=>fin r u hu rs)
end
section
variable {prog:Program} {w:World} {A:Around} {E:Value->Shared->Prop} {s:Shared} {κ:SortKind} {it:List Keyed} {R:Keyed->Keyed->Bool} {st t:SortSt} {M:Model}
theorem Yl (C:Cm prog w A s κ it R) {i j:Nat} {x y:Keyed} {Q:Option Bool->SortSt->Prop} (hk:kindOf st=κ) (hx:(arrOf st)[i]? = some x) (hy:(arrOf st)[j]? = some y) (ix:x ∈ it) (iy:y ∈ it) (h:Q (some (R x y)) st):wpS (model prog w) A E s (ltAt' i j) Q st:=by
 rw[ltAt'_eq]
 exact AT (wpS_get (AT (jD hx (AT (jD hy (xL C hk ix iy h))))))
structure SI (κ:SortKind) (it:List Keyed) (u:SortSt):Prop where
 kd:kindOf u=κ
 fl:failedOf u=none
 mem:∀ x ∈ (arrOf u).toList,x ∈ it
 nd:(arrOf u).toList.Nodup
theorem SI.of {u:SortSt} {lo n:Nat} (h:SI κ it st) (k:SA st u lo n):SI κ it u:=⟨k.kd.trans h.kd,k.fl.trans h.fl,fun x hx=>h.mem x (k.pm.mem_iff.mp hx),k.pm.nodup_iff.mpr h.nd⟩
theorem SI.ne (h:SI κ it st) {i j:Nat} {x y:Keyed} (ij:i ≠ j) (h1:(arrOf st)[i]? = some x) (h2:(arrOf st)[j]? = some y):x ≠ y:=fun e=>by
 rw[<- e] at h2
 rw[<- AZ] at h1 h2
 exact ij ((CO (AE.mp h1).1 h.nd).mp (h1.trans h2.symm))
theorem StA.snoc (C:Cm prog w A s κ it R) (h:SI κ it st) {lo n:Nat} (n1:1<=n) (k:StA R (arrOf st) lo n) {x y:Keyed} (hx:(arrOf st)[lo+n]? = some x) (hy:(arrOf st)[lo+n - 1]? = some y) (e:R x y=false):StA R (arrOf st) lo (n+1):=by
 have yx:=C.tot x (h.mem _ (zp hx)) y (h.mem _ (zp hy)) (h.ne (by omega) hx hy) e
 intro p q u v h1 h2 h3 hu hv
 by_cases c:q < lo+n
 ·exact k p q u v h1 h2 c hu hv
 ·obtain rfl:q=lo+n:=by omega
  rw[hx] at hv
  obtain rfl:=AH hv
  rcases An (show p<=lo+n - 1 by omega) with z | z
  ·rw[z,hy] at hu
   rw[<- AH hu]
   exact yx
  ·exact C.tr u (h.mem _ (zp hu)) y (h.mem _ (zp hy)) x (h.mem _ (zp hx)) (k p _ u y h1 z (by omega) hu hy) yx
theorem tm_count (C:Cm prog w A s κ it R) {lo nr:Nat} (h:SI κ it st) (n1:1<=nr) (hz:lo+nr<=(arrOf st).size) {Q:Option Nat->SortSt->Prop} (q:∀ m u,SA st u lo nr->pendingOf u=pendingOf st->1<=m->m<=nr->StA R (arrOf u) lo m->Q (some m) u):wpS (model prog w) A E s (countRun' lo nr) Q st:=by
 rw[countRun'_eq]
 dsimp only
 refine AT (Bk (BR (I:=fun x c u=>st=u/\c=(none,x)/\StA R (arrOf st) lo x) (Q:=fun c u=>st=u/\∃ m,c=(none,m)/\1<=m/\m<=nr/\StA R (arrOf st) lo m/\(m < nr->∀ x y,(arrOf st)[lo+m]? = some x->(arrOf st)[lo+m - 1]? = some y->R x y=true)) ?_ ?_ ⟨rfl,rfl,fun p q x y h1 h2 h3=>by omega⟩) ?_)
 ·rintro x c u x1 x2 ⟨rfl,rfl,hS⟩
  obtain⟨a,ea⟩:=zv (a:=arrOf st) (i:=lo+x) (by omega)
  obtain⟨b,eb⟩:=zv (a:=arrOf st) (i:=lo+x - 1) (by omega)
  refine AT (Yl C h.kd ea eb (h.mem _ (zp ea)) (h.mem _ (zp eb)) ?_)
  dsimp only
  cases e:R a b with
  | true=>
   refine Ab ⟨rfl,x,rfl,x1,by omega,hS,fun _ a' b' ha hb=>?_⟩
   rw[ea] at ha
   rw[eb] at hb
   cases ha
   cases hb
   exact e
  | false=>exact Ab ⟨rfl,rfl,hS.snoc C h x1 ea eb e⟩
 ·rintro c u ⟨rfl,rfl,hS⟩
  rw[show max 1 nr=nr by omega] at hS ⊢
  exact⟨rfl,nr,rfl,n1,AG _,hS,fun z=>by omega⟩
 rintro c u ⟨rfl,m,rfl,m1,m2,hS,hlast⟩
 dsimp only
 by_cases c1:(m == nr)=true
 ·rw[if_pos c1]
  exact Ab (q m st SA.rfl' rfl m1 m2 hS)
 rw[if_neg c1]
 have c1':m ≠ nr:=fun z=>c1 (by simpa using z)
 by_cases c2:m > 1
 ·rw[if_pos c2]
  obtain⟨a,ea⟩:=zv (a:=arrOf st) (i:=lo) (by omega)
  obtain⟨b,eb⟩:=zv (a:=arrOf st) (i:=lo+m - 1) (by omega)
  refine AT (Yl C h.kd ea eb (h.mem _ (zp ea)) (h.mem _ (zp eb)) ?_)
  rw[hS lo (lo+m - 1) a b (AG _) (by omega) (by omega) ea eb]
  exact Ab (q m st SA.rfl' rfl m1 m2 hS)
 rw[if_neg c2]
 obtain rfl:m=1:=by omega
 refine AT (wpS_lift (Ba ⟨rfl,?_⟩))
 refine AT (Bk (BR (I:=fun x c u=>st=u/\c=(none,x,0)/\∀ p q x' y,lo<=p->p < q->q < lo+x->(arrOf st)[p]? = some x'->(arrOf st)[q]? = some y->R y x'=true) (Q:=fun c u=>st=u/\∃ m,c=(none,m,0)/\2<=m/\m<=nr/\∀ p q x' y,lo<=p->p < q->q < lo+m->(arrOf st)[p]? = some x'->(arrOf st)[q]? = some y->R y x'=true) ?_ ?_ ⟨rfl,rfl,fun p d x y h1 h2 h3 hx hy=>?_⟩) ?_)
 ·rintro x c u x1 x2 ⟨rfl,rfl,hS⟩
  obtain⟨a,ea⟩:=zv (a:=arrOf st) (i:=lo+x) (by omega)
  obtain⟨b,eb⟩:=zv (a:=arrOf st) (i:=lo+x - 1) (by omega)
  have ia:=h.mem _ (zp ea)
  have ib:=h.mem _ (zp eb)
  refine AT (Yl C h.kd ea eb ia ib ?_)
  dsimp only
  cases e:R a b with
  | true=>
   refine Ab ⟨rfl,rfl,fun p q u v h1 h2 h3 hu hv=>?_⟩
   by_cases c:q < lo+x
   ·exact hS p q u v h1 h2 c hu hv
   ·obtain rfl:q=lo+x:=by omega
    rw[ea] at hv
    obtain rfl:=AH hv
    rcases An (show p<=lo+x - 1 by omega) with z | z
    ·rw[z,eb] at hu
     rw[<- AH hu]
     exact e
    ·exact C.tr a ia b ib u (h.mem _ (zp hu)) e (hS p _ u b h1 z (by omega) hu eb)
  | false=>
   rw[if_neg (by decide)]
   refine AT (Yl C h.kd eb ea ib ia ?_)
   rw[C.tot a ia b ib (h.ne (by omega) ea eb) e]
   exact Ab ⟨rfl,x,rfl,by omega,by omega,hS⟩
 ·rintro c u ⟨rfl,rfl,hS⟩
  rw[show max (1+1) nr=nr by omega] at hS ⊢
  exact⟨rfl,nr,rfl,by omega,AG _,hS⟩
 ·obtain rfl:p=lo:=by omega
  obtain rfl:d=p+1:=by omega
  exact hlast (by omega) y x hy (by rw[show p+1 - 1=p by omega];exact hx)
 rintro c u ⟨rfl,m,rfl,m2,m3,hS⟩
 dsimp only
 rw[if_neg (by omega),reverseSlice'_eq]
 refine AT (Dy ?_)
 have gm:=fun k=>getElem?_mirror_all (xs:=arrOf st) (i:=lo) (j:=lo+m) (by omega) k
 have pm:=Array.Perm.toList (mirror_perm (arrOf st) lo (lo+m) ((lo+m - lo) / 2))
 have sz:=mirror_size (arrOf st) lo (lo+m) ((lo+m - lo) / 2)
 generalize mirror (arrOf st) lo (lo+m) ((lo+m - lo) / 2)=b at *
 have sa:SA st (setArr st b) lo nr:=⟨rfl,rfl,sz,pm,fun i hi=>by
  show b[i]? = _
  rw[gm,if_neg (by omega)]⟩
 have hu:=h.of sa
 have hS2:StA R (arrOf (setArr st b)) lo m:=fun p q x y h1 h2 h3 hx hy=>by
  have hx:b[p]? = some x:=hx
  have hy:b[q]? = some y:=hy
  rw[gm,if_pos (by omega)] at hx hy
  exact hS _ _ _ _ (by omega) (by omega) (by omega) hy hx
 have hp:pendingOf (setArr st b)=pendingOf st:=rfl
 have hz':lo+nr<=(arrOf (setArr st b)).size:=by rw[sa.sz];exact hz
 generalize setArr st b=u at *
 refine AT (Bk (BR (I:=fun x c v=>u=v/\c=(none,x)/\StA R (arrOf u) lo x) (Q:=fun c v=>u=v/\∃ m,c=(none,m)/\1<=m/\m<=nr/\StA R (arrOf u) lo m) ?_ ?_ ⟨rfl,rfl,hS2⟩) ?_)
 ·rintro x c v x1 x2 ⟨rfl,rfl,hS⟩
  obtain⟨a,ea⟩:=zv (a:=arrOf u) (i:=lo+x) (by omega)
  obtain⟨b,eb⟩:=zv (a:=arrOf u) (i:=lo+x - 1) (by omega)
  refine AT (Yl C hu.kd ea eb (hu.mem _ (zp ea)) (hu.mem _ (zp eb)) ?_)
  dsimp only
  cases e:R a b with
  | true=>exact Ab ⟨rfl,x,rfl,by omega,by omega,hS⟩
  | false=>exact Ab ⟨rfl,rfl,hS.snoc C hu (by omega) ea eb e⟩
 ·rintro c v ⟨rfl,rfl,hS⟩
  rw[show max m nr=nr by omega] at hS ⊢
  exact⟨rfl,nr,rfl,n1,AG _,hS⟩
 rintro c v ⟨rfl,m',rfl,a1,a2,a3⟩
 exact Ab (q m' u sa hp a1 a2 a3)
theorem tm_bin (C:Cm prog w A s κ it R) {lo n ok:Nat} (h:SI κ it st) (k1:1<=ok) (kn:ok<=n) (hz:lo+n<=(arrOf st).size) (hS:StA R (arrOf st) lo ok) {Q:Bool->SortSt->Prop} (q:∀ u,SA st u lo n->pendingOf u=pendingOf st->StA R (arrOf u) lo n->Q true u):wpS (model prog w) A E s (binarySort' lo n ok) Q st:=by
 rw[binarySort'_eq]
 refine AT (Bk (BR (I:=fun k c u=>c=(none,())/\SA st u lo n/\pendingOf u=pendingOf st/\StA R (arrOf u) lo k) (Q:=fun c u=>c=(none,())/\SA st u lo n/\pendingOf u=pendingOf st/\StA R (arrOf u) lo n) ?_ ?_ ⟨rfl,SA.rfl',rfl,by rw[show max ok 1=ok by omega];exact hS⟩) ?_)
 ·rintro k c u x1 x2 ⟨rfl,sa,hp,hS⟩
  have hu:=h.of sa
  have hz':lo+n<=(arrOf u).size:=by rw[sa.sz];exact hz
  obtain⟨a,ea⟩:=zv (a:=arrOf u) (i:=lo+k) (by omega)
  have ia:=hu.mem _ (zp ea)
  dsimp only
  refine AT (Bk (BR (I:=fun x c v=>u=v/\∃ l r,c=(none,l,r)/\r - l+x<=k/\l<=r/\r<=k/\(∀ i b,i < l->(arrOf u)[lo+i]? = some b->R b a=true)/\∀ i b,r<=i->i < k->(arrOf u)[lo+i]? = some b->R a b=true) (Q:=fun c v=>u=v/\∃ l,c=(none,l,l)/\l<=k/\(∀ i b,i < l->(arrOf u)[lo+i]? = some b->R b a=true)/\∀ i b,l<=i->i < k->(arrOf u)[lo+i]? = some b->R a b=true) ?_ ?_ ⟨rfl,0,k,rfl,by omega,by omega,by omega,fun i b hi=>by omega,fun i b h1 h2=>by omega⟩) ?_)
  ·rintro x c v _ x3 ⟨rfl,l,r,rfl,a1,a2,a3,a4,a5⟩
   dsimp only
   by_cases c1:l ≥ r
   ·rw[if_pos c1]
    obtain rfl:l=r:=by omega
    exact Ab ⟨rfl,l,rfl,a3,a4,a5⟩
   rw[if_neg c1]
   obtain⟨b,eb⟩:=zv (a:=arrOf u) (i:=lo+(l+r) / 2) (by omega)
   have ib:=hu.mem _ (zp eb)
   refine AT (Yl C hu.kd ea eb ia ib ?_)
   dsimp only
   cases e:R a b with
   | true=>
    refine Ab ⟨rfl,l,(l+r) / 2,rfl,by omega,by omega,by omega,a4,fun i b' h1 h2 hb=>?_⟩
    rcases An h1 with z | z
    ·rw[<- z,eb] at hb
     rw[<- AH hb]
     exact e
    ·exact C.tr a ia b ib b' (hu.mem _ (zp hb)) e (hS _ _ b b' (by omega) (by omega) (by omega) eb hb)
   | false=>
    have ba:=C.tot a ia b ib (hu.ne (by omega) ea eb) e
    refine Ab ⟨rfl,(l+r) / 2+1,r,rfl,by omega,by omega,a3,fun i b' h1 hb=>?_,a5⟩
    rcases An (show i<=(l+r) / 2 by omega) with z | z
    ·rw[z,eb] at hb
     rw[<- AH hb]
     exact ba
    ·exact C.tr b' (hu.mem _ (zp hb)) b ib a ia (hS _ _ b' b (by omega) (by omega) (by omega) hb eb) ba
  ·rintro c v ⟨rfl,l,r,rfl,a1,a2,a3,a4,a5⟩
   obtain rfl:l=r:=by omega
   exact⟨rfl,l,rfl,a3,a4,a5⟩
  rintro c v ⟨rfl,l,rfl,l1,l2,l3⟩
  dsimp only
  rw[moveDown'_eq]
  refine AT (Dy ?_)
  rw[show lo+k - (lo+l)=k - l by omega]
  have gm:=fun i=>getElem?_bubble (xs:=arrOf u) (src:=lo+k) (by omega) (k - l) (by omega) i
  have pm:=Array.Perm.toList (bubble_perm (arrOf u) (lo+k) (k - l))
  have sz:=bubble_size (arrOf u) (lo+k) (k - l)
  rw[show lo+k - (k - l)=lo+l by omega] at gm
  generalize bubble (arrOf u) (lo+k) (k - l)=b at *
  refine Ab ⟨rfl,sa.tr ⟨rfl,rfl,sz,pm,fun i hi=>?_⟩,hp,fun p q x y h1 h2 h3 hx hy=>?_⟩
  ·show b[i]? = _
   rw[gm,if_neg (by omega),if_neg (by omega)]
  have hx:b[p]? = some x:=hx
  have hy:b[q]? = some y:=hy
  rw[gm] at hx hy
  by_cases p1:p=lo+l
  ·rw[if_pos p1,ea] at hx
   rw[if_neg (by omega),if_pos (by omega)] at hy
   rw[<- AH hx]
   exact l3 (q - 1 - lo) y (by omega) (by omega) (by rw[show lo+(q - 1 - lo)=q - 1 by omega];exact hy)
  rw[if_neg p1] at hx
  by_cases q1:q=lo+l
  ·rw[if_pos q1,ea] at hy
   rw[if_neg (by omega)] at hx
   rw[<- AH hy]
   exact l2 (p - lo) x (by omega) (by rw[show lo+(p - lo)=p by omega];exact hx)
  rw[if_neg q1] at hy
  by_cases p2:lo+l < p/\p<=lo+k
  ·rw[if_pos p2] at hx
   rw[if_pos (by omega)] at hy
   exact hS _ _ x y (by omega) (by omega) (by omega) hx hy
  ·rw[if_neg p2] at hx
   by_cases q2:lo+l < q/\q<=lo+k
   ·rw[if_pos q2] at hy
    exact hS _ _ x y (by omega) (by omega) (by omega) hx hy
   ·rw[if_neg q2] at hy
    exact hS _ _ x y (by omega) (by omega) (by omega) hx hy
 ·rintro c u ⟨rfl,sa,hp,hS⟩
  rw[show max (max ok 1) n=n by omega] at hS
  exact⟨rfl,sa,hp,hS⟩
 rintro c u ⟨rfl,sa,hp,hS⟩
 exact Ab (q u sa hp hS)
end
abbrev Pd:=Nat×Nat×Nat
def Til (R:Keyed->Keyed->Bool) (a:KA):List Pd->Nat->Nat->Prop
 | [],x,y=>x=y
 | r :: l,x,y=>r.1=x/\1<=r.2.1/\StA R a r.1 r.2.1/\Til R a l (r.1+r.2.1) y
section
variable {prog:Program} {w:World} {A:Around} {E:Value->Shared->Prop} {s:Shared} {κ:SortKind} {it:List Keyed} {R:Keyed->Keyed->Bool} {st t:SortSt} {M:Model}
theorem Til.le {a:KA}:∀ {l:List Pd} {x y:Nat},Til R a l x y->x+l.length<=y
 | [],x,y,h=>by have:x=y:=h;simp;omega
 | r :: l,x,y,h=>by
  have:=Til.le h.2.2.2
  have h1:=h.1
  have h2:=h.2.1
  rw[Az]
  omega
theorem QV {a:KA}:∀ {l1 l2:List Pd} {x y:Nat},Til R a (l1++l2) x y ↔ ∃ z,Til R a l1 x z/\Til R a l2 z y
 | [],l2,x,y=>⟨fun h=>⟨x,rfl,h⟩,fun ⟨z,e,h⟩=>by rw[show x=z from e];exact h⟩
 | r :: l1,l2,x,y=>by
  constructor
  ·rintro⟨h1,h2,h3,h4⟩
   obtain⟨z,z1,z2⟩:=QV.mp h4
   exact⟨z,⟨h1,h2,h3,z1⟩,z2⟩
  ·rintro⟨z,⟨h1,h2,h3,h4⟩,z2⟩
   exact⟨h1,h2,h3,QV.mpr ⟨z,h4,z2⟩⟩
theorem StA.same {a b:KA} {lo n:Nat} (h:StA R a lo n) (e:∀ i,lo<=i->i < lo+n->b[i]? = a[i]?):StA R b lo n:=fun p q x y h1 h2 h3 hx hy=>h p q x y h1 h2 h3 (by rw[<- e p h1 (by omega)];exact hx) (by rw[<- e q (by omega) h3];exact hy)
theorem Til.same {a b:KA}:∀ {l:List Pd} {x y:Nat},Til R a l x y->(∀ i,x<=i->i < y->b[i]? = a[i]?)->Til R b l x y
 | [],_,_,h,_=>h
 | r :: l,x,y,⟨h1,h2,h3,h4⟩,e=>by
  have:=Til.le h4
  exact⟨h1,h2,h3.same fun i i1 i2=>e i (by omega) (by omega),h4.same fun i i1 i2=>e i (by omega) i2⟩
structure SR (κ:SortKind) (it:List Keyed) (R:Keyed->Keyed->Bool) (n lo:Nat) (u:SortSt):Prop where
 si:SI κ it u
 sz:(arrOf u).size=n
 pm:(arrOf u).toList.Perm it
 ti:Til R (arrOf u) (pendingOf u).toList 0 lo
 le:lo<=n
theorem xT (C:Cm prog w A s κ it R) {n lo i:Nat} (h:SR κ it R n lo st) (hi:i+1 < (pendingOf st).size) {Q:Bool->SortSt->Prop} (q:∀ u,SR κ it R n lo u->(pendingOf u).size+1=(pendingOf st).size->(∀ d,lo<=d->(arrOf u)[d]? = (arrOf st)[d]?)->Q true u):wpS (model prog w) A E s (mergeAt' i) Q st:=by
 have hl:(pendingOf st).toList.length=(pendingOf st).size:=Am
 have e:(pendingOf st).toList=(pendingOf st).toList.take i++((pendingOf st).toList[i]'(by omega) :: (pendingOf st).toList[i+1]'(by omega) :: (pendingOf st).toList.drop (i+2)):=by
  rw[<- Bm,<- Bm,Dp]
 have e1:(pendingOf st)[i]? = some ((pendingOf st).toList[i]'(by omega)):=by rw[<- AZ];exact AD _
 have e2:(pendingOf st)[i+1]? = some ((pendingOf st).toList[i+1]'(by omega)):=by rw[<- AZ];exact AD _
 generalize (pendingOf st).toList[i]'(by omega)=r1 at e e1
 generalize (pendingOf st).toList[i+1]'(by omega)=r2 at e e2
 obtain⟨p,m,pw⟩:=r1
 obtain⟨p',n',pw'⟩:=r2
 have ti:=h.ti
 rw[e] at ti
 obtain⟨z,t1,t2⟩:=QV.mp ti
 obtain⟨a1,a2,a3,b1,b2,b3,b4⟩:=t2
 have bl:=Til.le b4
 have hle:=h.le
 dsimp only at a1 a2 a3 b1 b2 b3 b4 bl
 refine tm_mA C h.si.kd h.si.fl e1 e2 b1 a2 b2 (by rw[h.sz];omega) h.si.mem h.si.nd a3 b3 fun u sa hp hS=>?_
 have el:(pendingOf u).toList=(pendingOf st).toList.take i++((p,m+n',pw) :: (pendingOf st).toList.drop (i+2)):=by
  rw[hp]
  refine Bd fun d=>?_
  have il:((pendingOf st).toList.take i).length=i:=by rw[Ae];omega
  rw[Array.toList_eraseIdxIfInBounds,List.getElem?_eraseIdx,Array.toList_setIfInBounds]
  by_cases d1:d < i
  ·rw[if_pos (by omega),CU (by omega),BD (by omega),Be d1]
  ·rw[A3 (by omega),il]
   by_cases d2:d=i
   ·rw[if_pos (by omega),d2,Cp (by omega),Ck]
    rfl
   ·obtain⟨k,hk⟩:∃ k,d=i+1+k:=⟨d - (i+1),by omega⟩
    rw[if_neg (by omega),CU (by omega),hk,show i+1+k - i=k+1 by omega,List.getElem?_cons_succ,Cg]
    congr 1
    omega
 have hsz:(pendingOf u).size+1=(pendingOf st).size:=by
  have:=BL List.length el
  rw[Am,AI,Az,Ae,CW,hl] at this
  omega
 refine q u ⟨h.si.of sa,sa.sz.trans h.sz,sa.pm.trans h.pm,?_,h.le⟩ hsz fun d hd=>sa.off d (.inr (by omega))
 rw[el]
 have zl:=Til.le t1
 refine QV.mpr ⟨z,t1.same fun d d1 d2=>sa.off d (by omega),a1,by show 1<=m+n';omega,hS,?_⟩
 show Til R _ _ (p+(m+n')) lo
 rw[<- Nat.add_assoc,<- b1]
 exact b4.same fun d d1 d2=>sa.off d (by omega)
def srT (sz lo n:Nat):SM (ForInStep (Option Unit×Nat)):=do
 let t <- get
 match (pendingOf t).back? with
 | some (a,b,_)=>
  let c <- forIn [0:sz] ((none,()):Option Unit×Unit) fun _ _=>do
   let t <- get
   match (if (pendingOf t).size > 1 then (pendingOf t)[(pendingOf t).size - 2]? else none) with
   | some (_,_,od)=>
    if od<=power' sz (2 * a+b) (2 * a+b+b+n) sz then pure (ForInStep.done (none,()))
    else do
     let z <- mergeAt' ((pendingOf t).size - 2)
     if (!z)=true then pure (ForInStep.done (some (),())) else pure (ForInStep.yield (none,()))
   | _=>pure (ForInStep.done (none,()))
  match c.1 with
  | some r=>pure (ForInStep.done (some r,lo))
  | none=>
   modify fun t=>setPending t ((pendingOf t).modify ((pendingOf t).size - 1) fun x=>(x.1,x.2.1,power' sz (2 * a+b) (2 * a+b+b+n) sz))
   modify fun t=>setPending t ((pendingOf t).push (lo,n,0))
   pure (ForInStep.yield (none,lo+n))
 | _=>do
  modify fun t=>setPending t ((pendingOf t).push (lo,n,0))
  pure (ForInStep.yield (none,lo+n))
theorem SR.push {sz lo n:Nat} {u:SortSt} (h:SR κ it R sz lo u) (n1:1<=n) (hn:lo+n<=sz) (hS:StA R (arrOf u) lo n):SR κ it R sz (lo+n) (setPending u ((pendingOf u).push (lo,n,0))):=by
 refine⟨⟨h.si.kd,h.si.fl,h.si.mem,h.si.nd⟩,h.sz,h.pm,?_,hn⟩
 show Til R (arrOf u) ((pendingOf u).push (lo,n,0)).toList 0 (lo+n)
 rw[Ct]
 exact QV.mpr ⟨lo,h.ti,rfl,n1,hS,rfl⟩
theorem til_pw {a:KA} (pw:Nat):∀ {l:List Pd} {x y:Nat} (i:Nat),Til R a l x y->Til R a (l.modify i fun r=>(r.1,r.2.1,pw)) x y
 | [],_,_,i,h=>by cases i <;> exact h
 | r :: l,x,y,0,h=>h
 | r :: l,x,y,i+1,⟨h1,h2,h3,h4⟩=>⟨h1,h2,h3,til_pw pw i h4⟩
theorem srT_ok (C:Cm prog w A s κ it R) {sz lo n:Nat} (h:SR κ it R sz lo st) (n1:1<=n) (hn:lo+n<=sz) (hS:StA R (arrOf st) lo n) {Q:ForInStep (Option Unit×Nat)->SortSt->Prop} (q:∀ u,SR κ it R sz (lo+n) u->Q (.yield (none,lo+n)) u):wpS (model prog w) A E s (srT sz lo n) Q st:=by
 unfold srT
 refine AT (wpS_get ?_)
 cases (pendingOf st).back? with
 | none=>exact AT (Dy (Ab (q _ (h.push n1 hn hS))))
 | some r=>
  obtain⟨a,b,c⟩:=r
  dsimp only
  refine AT (Bk (BR (I:=fun x c u=>c=(none,())/\SR κ it R sz lo u/\StA R (arrOf u) lo n) (Q:=fun c u=>c=(none,())/\SR κ it R sz lo u/\StA R (arrOf u) lo n) ?_ (fun c u h=>h) ⟨rfl,h,hS⟩) ?_)
  ·rintro x c u _ _ ⟨rfl,hu,hSu⟩
   refine AT (wpS_get ?_)
   by_cases c1:(pendingOf u).size > 1
   ·rw[if_pos c1]
    cases (pendingOf u)[(pendingOf u).size - 2]? with
    | none=>exact Ab ⟨rfl,hu,hSu⟩
    | some r=>
     obtain⟨_,_,od⟩:=r
     dsimp only
     split
     ·exact Ab ⟨rfl,hu,hSu⟩
     ·exact AT (xT C hu (by omega) fun v hv _ off=>Ab ⟨rfl,hv,hSu.same fun d d1 _=>off d d1⟩)
   ·rw[if_neg c1]
    exact Ab ⟨rfl,hu,hSu⟩
  rintro c u ⟨rfl,hu,hSu⟩
  dsimp only
  refine AT (Dy (AT (Dy (Ab (q _ (SR.push (u:=setPending u _) ⟨⟨hu.si.kd,hu.si.fl,hu.si.mem,hu.si.nd⟩,hu.sz,hu.pm,?_,hu.le⟩ n1 hn hSu))))))
  show Til R (arrOf u) ((pendingOf u).modify _ _).toList 0 lo
  rw[Array.toList_modify]
  exact til_pw _ _ hu.ti
theorem xU (C:Cm prog w A s κ it R) {sz lo n:Nat} (h:SR κ it R sz lo st) (n1:1<=n) (hn:lo+n<=sz) (hS:StA R (arrOf st) lo n) {Q:ForInStep (Option Unit×Nat)->SortSt->Prop} (q:∀ u,SR κ it R sz (lo+n) u->Q (.yield (none,lo+n)) u) (X:SM (ForInStep (Option Unit×Nat))) (e:X=srT sz lo n):wpS (model prog w) A E s X Q st:=e ▸ srT_ok C h n1 hn hS q
theorem xV:∀ (f n r:Nat),1<=n->1<=minRun' f n r
 | 0,n,r,h=>by show 1<=n+r;omega
 | f+1,n,r,h=>by
  rw[minRun'_succ]
  split
  ·omega
  ·exact xV f _ _ (by omega)
theorem tm_sort (C:Cm prog w A s κ it R) (h0:SI κ it st) (hp:(arrOf st).toList.Perm it) (hpd:pendingOf st = #[]) {Q:Unit->SortSt->Prop} (q:∀ u,(arrOf u).toList.Perm it->failedOf u=none->Srt R (arrOf u).toList->Q () u):wpS (model prog w) A E s sortRuns' Q st:=by
 rw[sortRuns'_eq]
 refine AT (wpS_get ?_)
 have sr0:SR κ it R (arrOf st).size 0 st:=⟨h0,rfl,hp,by rw[hpd];exact rfl,A6 _⟩
 generalize hz:(arrOf st).size=sz at *
 have mr:=xV sz sz 0
 dsimp only
 refine AT (Bk (BR (I:=fun x c u=>∃ lo,c=(none,lo)/\SR κ it R sz lo u/\(lo=sz\/x<=lo)) (Q:=fun c u=>c=(none,sz)/\SR κ it R sz sz u) ?_ ?_ ⟨0,rfl,sr0,.inr (AG _)⟩) ?_)
 ·rintro x c u _ x2 ⟨lo,rfl,hu,hx⟩
  have hle:=hu.le
  dsimp only
  by_cases c1:lo ≥ sz
  ·rw[if_pos c1]
   obtain rfl:lo=sz:=by omega
   exact Ab ⟨rfl,hu⟩
  rw[if_neg c1]
  have husz:=hu.sz
  refine AT (tm_count C hu.si (by omega) (by omega) fun m v sa hpv m1 m2 hS=>?_)
  have hv:SR κ it R sz lo v:=⟨hu.si.of sa,sa.sz.trans hu.sz,sa.pm.trans hu.pm,by
   rw[hpv]
   exact hu.ti.same fun d d1 d2=>sa.off d (.inl d2),hle⟩
  have hvsz:=hv.sz
  dsimp only
  by_cases c2:m < minRun' sz sz 0
  ·rw[if_pos c2]
   refine AT (wpS_lift (Ba ⟨rfl,?_⟩))
   refine AT (tm_bin C hv.si m1 (by omega) (by omega) hS fun v2 sa2 hp2 hS2=>?_)
   have hv2:SR κ it R sz lo v2:=⟨hv.si.of sa2,sa2.sz.trans hv.sz,sa2.pm.trans hv.pm,by
    rw[hp2]
    exact hv.ti.same fun d d1 d2=>sa2.off d (.inl d2),hle⟩
   rw[if_neg (by decide)]
   refine xU C hv2 (n:=min (sz - lo) (minRun' sz sz 0)) (by omega) (by omega) hS2 (fun u' hu'=>⟨_,rfl,hu',.inr (by omega)⟩) _ ?_
   unfold srT
   congr 1
   funext t
   cases (pendingOf t).back? with
   | none=>rfl
   | some r=>
    obtain⟨a,b,c⟩:=r
    dsimp only
    congr 1
    funext c
    obtain⟨r,_⟩:=c
    cases r <;> rfl
  ·rw[if_neg c2]
   refine xU C hv (n:=m) m1 (by omega) hS (fun u' hu'=>⟨_,rfl,hu',.inr (by omega)⟩) _ ?_
   unfold srT
   congr 1
   funext t
   cases (pendingOf t).back? with
   | none=>rfl
   | some r=>
    obtain⟨a,b,c⟩:=r
    dsimp only
    congr 1
    funext c
    obtain⟨r,_⟩:=c
    cases r <;> rfl
 ·rintro c u ⟨lo,rfl,hu,hx⟩
  have hle:=hu.le
  obtain rfl:lo=sz:=by omega
  exact⟨rfl,hu⟩
 rintro c u ⟨rfl,hu⟩
 dsimp only
 refine AT (Bk (BR (I:=fun x c v=>c=(none,())/\SR κ it R sz sz v/\(pendingOf v).size+x<=max 1 sz+x/\((pendingOf v).size<=1\/(pendingOf v).size+x<=sz)) (Q:=fun c v=>c=(none,())/\SR κ it R sz sz v/\(pendingOf v).size<=1) ?_ ?_ ?_) ?_)
 ·rintro x c v _ x2 ⟨rfl,hv,_,hc⟩
  refine AT (wpS_get ?_)
  by_cases c1:(pendingOf v).size<=1
  ·rw[if_pos c1]
   exact Ab ⟨rfl,hv,c1⟩
  rw[if_neg c1]
  have ix:∀ (b:Bool) (k:Nat),(if b=true then k - 1 else k)<=k:=fun b k=>by cases b <;> simp
  exact AT (xT C hv (DO (Nat.succ_le_succ (ix _ _)) (by omega)) fun v2 hv2 e _=>Ab ⟨rfl,hv2,by omega,by omega⟩)
 ·rintro c v ⟨rfl,hv,_,hc⟩
  refine⟨rfl,hv,?_⟩
  omega
 ·have:=Til.le hu.ti
  rw[Am] at this
  exact⟨rfl,hu,by omega,.inr (by omega)⟩
 rintro c v ⟨rfl,hv,hc⟩
 refine Ab (q v hv.pm hv.si.fl ?_)
 have ti:=hv.ti
 have all:StA R (arrOf v) 0 sz:=by
  cases e:(pendingOf v).toList with
  | nil=>
   rw[e] at ti
   have:0=sz:=ti
   exact fun p q x y _ _ h3=>by omega
  | cons r l=>
   have hl:(pendingOf v).toList.length=(pendingOf v).size:=Am
   rw[e,Az] at hl
   rw[e] at ti
   have:l=[]:=Dc.mp (by omega)
   subst this
   obtain⟨a1,a2,a3,a4⟩:=ti
   have a4:r.1+r.2.1=sz:=a4
   rw[a1] at a3 a4
   rw[Nat.zero_add] at a4
   rw[a4] at a3
   exact a3
 refine Bc.mpr fun i j hi hj hij=>?_
 have e1:(arrOf v)[i]? = some (arrOf v).toList[i]:=by rw[<- AZ];exact AD hi
 have e2:(arrOf v)[j]? = some (arrOf v).toList[j]:=by rw[<- AZ];exact AD hj
 rw[Am,hv.sz] at hj
 exact all i j _ _ (A6 _) hij (by omega) e1 e2
end
theorem yE {α β:Type} (f:α->β) {l:List α} (h:(l.map f).Nodup):l.Nodup:=List.Pairwise.of_map f (fun a b (hne:f a ≠ f b) e=>hne (BL f e)) h
theorem perm_inv {α β:Type} {f:α->β} {m l:List β} (h:m.Perm l):∀ r:List α,l=r.map f->∃ r':List α,r'.Perm r/\m=r'.map f:=by
 induction h with
 | nil=>
  intro r e
  exact⟨r,DR _,e⟩
 | cons x _ ih=>
  intro r e
  cases r with
  | nil=>cases e
  | cons y r=>
   obtain⟨e1,e2⟩:=CB e
   obtain⟨r',p,e3⟩:=ih r e2
   exact⟨y :: r',p.cons y,by rw[Ai,<- e1,e3]⟩
 | swap x y l=>
  intro r e
  match r,e with
  | a :: b :: r,e=>
   obtain⟨e1,e2⟩:=CB e
   obtain⟨e3,e4⟩:=CB e2
   exact⟨b :: a :: r,List.Perm.swap _ _ _,by rw[Ai,Ai,e1,e3,e4]⟩
 | trans _ _ ih1 ih2=>
  intro r e
  obtain⟨r2,p2,e2⟩:=ih2 r e
  obtain⟨r1,p1,e1⟩:=ih1 r2 e2
  exact⟨r1,p1.trans p2,e1⟩
section
variable {prog:Program} {w:World} {A:Around} {E:Value->Shared->Prop} {s:Shared}
theorem Z2 {a:Addr} {vs:List Value} {n:Nat} {lt:Value->Value->Bool} {P:PySem.Fin->Shared->Prop} (ho:s.heap.get? a=some (seqObj "list" vs.toArray n)) (hl:vs.length<=900) (nd:vs.Nodup) (asym:∀ x ∈ vs,∀ y ∈ vs,lt x y=true->lt y x=false) (tot:∀ x ∈ vs,∀ y ∈ vs,x ≠ y->lt x y=false->lt y x=true) (tr:∀ x ∈ vs,∀ y ∈ vs,∀ z ∈ vs,lt x y=true->lt y z=true->lt x z=true)
  (hk:2<=vs.length->∀ g:Heap,(∀ b o,s.heap.get? b=some o->b ≠ a->g.get? b=some o)->∃ κ,(∀ Q:SortKind->Shared->Prop,Q κ { s with heap:=g }->wpAny (model prog w) A (keyKind' vs.toArray) Q E { s with heap:=g })/\∀ x ∈ vs,∀ y ∈ vs,∀ Q:Bool->Shared->Prop,Q (lt x y) { s with heap:=g }->wpAny (model prog w) A (keyLt' κ x y) Q (fun _ _=>False) { s with heap:=g })
  (h:∀ out:List Value,out.Perm vs->out.Pairwise (fun x y=>lt x y=true)->P (.done (.ret .none)) { s with heap:=sortedHeap s.heap a vs out.toArray }):wpAny (model prog w) A (Builtin.«list.sort» ⟨[.ref a],[]⟩) P E s:=by
 rw[list_sort_plain]
 have ha:a < s.heap.objs.size:=AL ho
 refine AA (listItems_at ho rfl ?_)
 refine AA (listUpdate_at ho rfl ?_ (by rw[Aa,BS];omega) (A6 _))
 obtain⟨e1,ho1⟩:∃ e1,(s.heap.update a (Obj.mapSeq fun _=>#[])).get? a=some (seqObj "list" #[] e1):=⟨_,get?_update_seq ho (fun _=>#[])⟩
 refine AA (seqEpoch_at ho1 rfl ?_)
 refine AA (wpAny_newTuple ?_ (by show vs.length<=_;rw[BS];omega))
 refine AA (wpAny_newList ?_ (A6 _))
 refine A4 ?_
 have ho6:(((s.heap.update a (Obj.mapSeq fun _=>#[])).push (seqObj "tuple" vs.toArray 0)).push (seqObj "list" #[] 0)).get? a=some (seqObj "list" #[] e1):=by
  rw[Heap.get?_push_ne _ _ _ (by rw[size_push',Heap.size_update];exact AU (B9 ha)),Heap.get?_push_ne _ _ _ (by rw[Heap.size_update];exact AU ha)]
  exact ho1
 have kp:∀ b o,s.heap.get? b=some o->b ≠ a->(((s.heap.update a (Obj.mapSeq fun _=>#[])).push (seqObj "tuple" vs.toArray 0)).push (seqObj "list" #[] 0)).get? b=some o:=fun b o e nb=>AC _ (AC _ ((A0 _ _ (Af nb)).trans e))
 show wpAny (model prog w) A _ P E { s with heap:=((s.heap.update a (Obj.mapSeq fun _=>#[])).push (seqObj "tuple" vs.toArray 0)).push (seqObj "list" #[] 0) }
 dsimp only
 have hsz:vs.toArray.size=vs.length:=by simp
 have e0:((vs.toArray.zip vs.toArray).map (·.2))=vs.toArray:=by
  apply Array.toList_inj.mp
  rw[Array.toList_map,Array.toList_zip]
  simp[List.map_snd_zip]
 by_cases h2:vs.toArray.size < 2
 ·rw[if_pos h2,if_pos h2]
  refine AA (AF ?_)
  rw[StateT.run_pure]
  refine AA (AF ?_)
  dsimp only
  refine AA (seqEpoch_at ho6 rfl ?_)
  refine AA (listUpdate_at ho6 rfl ?_ (hsz2:=by show ((vs.toArray.zip vs.toArray).map (·.2)).size<=_;rw[e0,hsz,BS];omega))
  simp only[bne_self_eq_false,Bool.false_eq_true,if_false]
  have q:=h vs (DR _) (by
   rw[hsz] at h2
   match vs,h2 with
   | [],_=>exact .nil
   | [x],_=>exact List.pairwise_singleton _ _)
  rw[<- e0] at q
  exact AF q
 ·rw[if_neg h2,if_neg h2]
  rw[hsz] at h2
  obtain⟨κ,hκ,hlt⟩:=hk (by omega) _ kp
  refine AA (hκ _ ?_)
  have im:∀ {x:Keyed},x ∈ vs.zip vs->x.1=x.2/\x.1 ∈ vs:=fun hx=>mem_zip_self hx
  have ezl:(vs.toArray.zip vs.toArray).toList=vs.zip vs:=by rw[Array.toList_zip]
  have znd:(vs.zip vs).Nodup:=yE Prod.snd (by rw[List.map_snd_zip (AG _)];exact nd)
  refine AA (Bp (tm_sort (E:=E) (κ:=κ) (it:=vs.zip vs) (R:=fun x y=>lt x.1 y.1) (st:=SortSt.mk' κ (vs.toArray.zip vs.toArray) #[] 7 none) ⟨fun x hx y hy Q c=>hlt x.1 (im hx).2 y.1 (im hy).2 Q c,fun x hx y hy=>asym x.1 (im hx).2 y.1 (im hy).2,fun x hx y hy ne=>tot x.1 (im hx).2 y.1 (im hy).2 fun z=>ne (Prod.ext z (by rw[<- (im hx).1,<- (im hy).1];exact z)),fun x hx y hy z hz=>tr x.1 (im hx).2 y.1 (im hy).2 z.1 (im hz).2⟩
   ⟨rfl,rfl,fun x hx=>by rw[<- ezl];exact hx,by show (vs.toArray.zip vs.toArray).toList.Nodup;rw[ezl];exact znd⟩ (by show (vs.toArray.zip vs.toArray).toList.Perm _;rw[ezl]) rfl (Q:=fun _ u=>(arrOf u).toList.Perm (vs.zip vs)/\failedOf u=none/\Srt (fun x y=>lt x.1 y.1) (arrOf u).toList) fun u a1 a2 a3=>⟨a1,a2,a3⟩) ?_ fun _ _ e=>e)
  rintro⟨⟨⟩,st'⟩ s' ⟨rfl,hp,hf,hs⟩
  dsimp only at hp hf hs ⊢
  have hsz2:(arrOf st').size=vs.length:=by
   have:=hp.length_eq
   rw[Am,List.length_zip] at this
   omega
  refine AA (seqEpoch_at ho6 rfl ?_)
  refine AA (listUpdate_at ho6 rfl ?_ (hsz2:=by rw[Array.size_map,hsz2,BS];omega))
  rw[hf]
  simp only[bne_self_eq_false,Bool.false_eq_true,if_false]
  have q:=h ((arrOf st').toList.map Prod.snd) (by
   have:=hp.map Prod.snd
   rw[List.map_snd_zip (AG _)] at this
   exact this) (by
   rw[BP]
   refine Cf (fun {x y} hx hy hr=>?_) hs
   rw[<- (im (hp.mem_iff.mp hx)).1,<- (im (hp.mem_iff.mp hy)).1]
   exact hr)
  have eo:((arrOf st').toList.map Prod.snd).toArray=(arrOf st').map (·.2):=by
   apply Array.toList_inj.mp
   rw[Array.toList_map]
  rw[eo] at q
  exact AF q
theorem wR {g:Heap} {k l:List Nat} {v:Value} (h1:Tl g k v) (h2:Tl g l v):k=l:=by
 obtain⟨b,o,its,n,rfl,e2,e3,e4,e5⟩:=h1
 obtain⟨b',o',its',n',e1,f2,f3,f4,f5⟩:=h2
 cases e1
 rw[e2] at f2
 cases f2
 rw[e4] at f4
 cases f4
 clear e2 e3 e4 f3
 generalize its.toList=xs at e5 f5
 induction e5 generalizing l with
 | nil=>cases f5;rfl
 | cons r _ ih=>
  cases f5 with
  | cons r' t'=>
   obtain⟨t,rfl⟩:=r
   obtain⟨t2,e⟩:=r'
   injection e with e _
   rw[ih t',EC.mp e]
open Classical in
noncomputable def ltT (g:Heap) (x y:Value):Bool:=decide (∃ k l,Tl g k x/\Tl g l y/\Z1 k l=true)
theorem Z3 {g:Heap} {k l:List Nat} {x y:Value} (hx:Tl g k x) (hy:Tl g l y):ltT g x y=Z1 k l:=by
 classical
 unfold ltT
 cases e:Z1 k l with
 | true=>exact Ak ⟨k,l,hx,hy,e⟩
 | false=>
  refine AY ?_
  rintro⟨k',l',h1,h2,h3⟩
  rw[wR h1 hx,wR h2 hy,e] at h3
  cases h3
theorem Jd {a:Addr} {vs:List Value} {n L:Nat} {ks:List (List Nat)} {P:PySem.Fin->Shared->Prop} (ho:s.heap.get? a=some (seqObj "list" vs.toArray n)) (hp:Paired (Tl s.heap) ks vs) (hL:∀ k ∈ ks,k.length=L) (L1:1<=L) (nd:ks.Nodup) (hl:vs.length<=900)
  (h:∀ ids:List Nat,ids.Perm (List.range vs.length)->(ids.map fun i=>ks.getD i []).Pairwise (fun x y=>Z1 x y=true)->P (.done (.ret .none)) { s with heap:=sortedHeap s.heap a vs (ids.map fun i=>vs.getD i .none).toArray }):wpAny (model prog w) A (Builtin.«list.sort» ⟨[.ref a],[]⟩) P E s:=by
 have kl:=AQ hp
 have kg:∀ i,i < vs.length->ks[i]? = some (ks.getD i [])/\vs[i]? = some (vs.getD i .none):=fun i hi=>by
  rw[AO,AO,AD hi,AD (show i < ks.length by omega)]
  exact⟨rfl,rfl⟩
 have vg:∀ x ∈ vs,∃ k ∈ ks,Tl s.heap k x:=fun x hx=>by
  obtain⟨i,hi⟩:=A5.mp hx
  have il:=(AE.mp hi).1
  exact⟨_,AN (kg i il).1,Paired.at hp i _ _ (kg i il).1 hi⟩
 have vnd:vs.Nodup:=by
  refine Bc.mpr fun i j hi hj hij e=>?_
  have h1:=Paired.at hp i _ _ (kg i hi).1 (AD hi)
  have h2:=Paired.at hp j _ _ (kg j hj).1 (AD hj)
  rw[e] at h1
  have e2:=wR h1 h2
  have:=(CO (i:=i) (j:=j) (by omega) nd).mp (by rw[(kg i hi).1,(kg j hj).1,e2])
  omega
 refine Z2 (lt:=ltT s.heap) ho hl vnd (fun x hx y hy e=>?_) (fun x hx y hy ne e=>?_) (fun x hx y hy z hz e1 e2=>?_) (fun h2 g kp=>?_) fun out per srt=>?_
 ·obtain⟨k,_,hk⟩:=vg x hx
  obtain⟨l,_,hl⟩:=vg y hy
  rw[Z3 hk hl] at e
  rw[Z3 hl hk]
  exact Qq _ _ e
 ·obtain⟨k,ik,hk⟩:=vg x hx
  obtain⟨l,il,hl⟩:=vg y hy
  rw[Z3 hk hl] at e
  rw[Z3 hl hk]
  refine xH _ _ ((hL k ik).trans (hL l il).symm) (fun z=>ne ?_) e
  subst z
  obtain⟨i,hi⟩:=A5.mp hx
  obtain⟨j,hj⟩:=A5.mp hy
  have i1:=(AE.mp hi).1
  have j1:=(AE.mp hj).1
  have t1:=wR (Paired.at hp i _ _ (kg i i1).1 hi) hk
  have t2:=wR (Paired.at hp j _ _ (kg j j1).1 hj) hl
  have:=(CO (i:=i) (j:=j) (by omega) nd).mp (by rw[(kg i i1).1,(kg j j1).1,t1,t2])
  rw[this,hj] at hi
  exact (AH hi).symm
 ·obtain⟨k,_,hk⟩:=vg x hx
  obtain⟨l,_,hl⟩:=vg y hy
  obtain⟨m,_,hm⟩:=vg z hz
  rw[Z3 hk hl] at e1
  rw[Z3 hl hm] at e2
  rw[Z3 hk hm]
  exact lex_tr _ _ _ e1 e2
 ·have kpT:∀ {k:List Nat} {v:Value},Tl s.heap k v->Tl g k v:=fun z=>z.keep fun b o e c=>kp b o e fun ba=>by
   subst ba
   rw[ho] at e
   cases e
   exact absurd (show Value.type "list" = Value.type "tuple" from c) (by intro z;injection z with z;revert z;decide)
  obtain⟨fs,t1,t2,t3⟩:=xI (Paired.imp' (fun _ _ z=>kpT z) hp) hL L1
  refine⟨tuples' true,fun Q hq=>kat_kind (T:=.type "int") t1 (by omega) (fun f hf=>by
   obtain⟨i,t,rfl⟩:=t3 f hf
   exact .now) (by decide) (by rw[show (Value.type "int" != Value.type "tuple")=true by decide];exact hq),fun x hx y hy Q hq=>?_⟩
  obtain⟨k,ik,hk⟩:=vg x hx
  obtain⟨l,il,hl⟩:=vg y hy
  rw[Z3 hk hl] at hq
  exact tl_lt (kpT hk) (kpT hl) ((hL k ik).trans (hL l il).symm) hq
 ·have ev:vs=(List.range vs.length).map fun i=>vs.getD i .none:=by
   refine Bd fun i=>?_
   rw[AR]
   by_cases hi:i < vs.length
   ·rw[Bz hi,(kg i hi).2]
    rfl
   ·rw[BH (by omega),BH (by rw[Aj];omega)]
    rfl
  obtain⟨ids,ip,rfl⟩:=perm_inv per (List.range vs.length) ev
  refine h ids ip ?_
  rw[BP] at srt ⊢
  refine Cf (fun {i j} hi hj hr=>?_) srt
  have i1:=Aw.mp (ip.mem_iff.mp hi)
  have j1:=Aw.mp (ip.mem_iff.mp hj)
  rw[Z3 (Paired.at hp i _ _ (kg i i1).1 (kg i i1).2) (Paired.at hp j _ _ (kg j j1).1 (kg j j1).2)] at hr
  exact hr
theorem QW {d:Addr} {vs:List Value} {ks:List (List Nat)} {L:Nat} {Q:Value->Shared->Prop} (hcol:∀ R:List Value->Shared->Prop,(∀ h' tk,(∀ b o,s.heap.get? b=some o->h'.get? b=some o)->R vs { s with heap:=h',toks:=tk })->wpAny (model prog w) A.in1 (collect (.ref d)) R E s)
  (hp:Paired (Tl s.heap) ks vs) (hL:∀ k ∈ ks,k.length=L) (L1:1<=L) (nd:ks.Nodup) (hl:vs.length<=900)
  (h:∀ (h1 h':Heap) (tk e:Nat) (ids:List Nat),(∀ b o,s.heap.get? b=some o->h1.get? b=some o)->(∀ b o,h1.get? b=some o->h'.get? b=some o)->h'.get? h1.objs.size=some (seqObj "list" (ids.map fun i=>vs.getD i .none).toArray e)->ids.Perm (List.range vs.length)->(ids.map fun i=>ks.getD i []).Pairwise (fun x y=>Z1 x y=true)->Q (.ref h1.objs.size) { s with heap:=h',toks:=tk }) :
  wpAny (model prog w) A (call (.builtin "sorted") [.ref d]) Q E s:=by
 refine Calls.call_function_entry kind_sorted plain_sorted entry_sorted (args_sorted1 _) ?_
 unfold Builtin.«sorted»
 refine AA (m:=checkCount "sorted" 1 1 _) (AF ?_)
 refine AA (hcol _ fun h' tk hk=>?_)
 refine AA (wpAny_newList ?_ (by rw[BS];omega))
 have hoL:(h'.push (seqObj "list" vs.toArray 0)).get? h'.objs.size=some (seqObj "list" vs.toArray 0):=AK _ rfl
 have hpp:Paired (Tl (h'.push (seqObj "list" vs.toArray 0))) ks vs:=Paired.imp' (fun k v z=>z.keep fun b o e _=>AC _ (hk b o e)) hp
 show wpAny _ _ _ _ _ { s with heap:=h'.push (seqObj "list" vs.toArray 0),toks:=tk }
 refine AA (A4 (A1 slot_list_sort ⟨_,hoL,rfl⟩ entry_list_sort (Jd hoL hpp hL L1 nd hl fun ids per asc=>⟨_,rfl,?_⟩) (args_list_sort _)))
 obtain⟨e,he⟩:=sortedHeap_at (vs:=vs) (out:=(ids.map fun i=>vs.getD i .none).toArray) hoL
 exact AF ⟨_,rfl,h h' _ tk e ids hk (fun b o q1=>by
  have hb:=AL q1
  rw[sortedHeap_old (AU hb) (by rw[CK];exact B9 hb)]
  exact AC _ q1) he per asc⟩
theorem xW {vs:List Value} {ns:List Int} (hI:IntsAre vs ns) (h2:2<=vs.length):keyKind' vs.toArray=pure oneType':=by
 match vs,h2,hI with
 | v1 :: v2 :: rest,_,hI=>exact keyKind_ints hI
theorem Ym {l:Addr} {vs:List Value} {ns:List Int} {Q:Value->Shared->Prop} (il:s.heap.IsList l vs.toArray) (hI:IntsAre vs ns) (nd:ns.Nodup) (hl:vs.length<=900)
  (h:∀ (h1 h':Heap) (tk e:Nat) (out:List Value) (ms:List Int),(∀ b o,s.heap.get? b=some o->h1.get? b=some o)->(∀ b o,h1.get? b=some o->h'.get? b=some o)->h'.get? h1.objs.size=some (seqObj "list" out.toArray e)->IntsAre out ms->ms.Perm ns->ms.Pairwise (· <= ·)->Q (.ref h1.objs.size) { s with heap:=h',toks:=tk }) :
  wpAny (model prog w) A (call (.builtin "sorted") [.ref l]) Q E s:=by
 refine Calls.call_function_entry kind_sorted plain_sorted entry_sorted (args_sorted1 _) ?_
 unfold Builtin.«sorted»
 refine AA (m:=checkCount "sorted" 1 1 _) (AF ?_)
 refine AA (collect_list (l:=l) il ?_ (by rw[BS];omega))
 have hk:∀ b o,s.heap.get? b=some o->((s.heap.push (seqObj "list" #[] 0)).update s.heap.objs.size (Obj.mapSeq (·++vs.toArray))).get? b=some o:=fun b o e=>by
  have hb:=AL e
  rw[A0 _ _ (BW hb)]
  exact AC _ e
 generalize (s.heap.push (seqObj "list" #[] 0)).update s.heap.objs.size (Obj.mapSeq (·++vs.toArray))=h' at *
 refine AA (wpAny_newList ?_ (by rw[BS];omega))
 have hoL:(h'.push (seqObj "list" vs.toArray 0)).get? h'.objs.size=some (seqObj "list" vs.toArray 0):=AK _ rfl
 show wpAny _ _ _ _ _ { s with heap:=h'.push (seqObj "list" vs.toArray 0) }
 have num:∀ x ∈ vs,∃ n t,x=Value.int n t:=hI.all
 have en:=hI.nums
 have vinj:∀ x ∈ vs,∀ y ∈ vs,x ≠ y->numOf x ≠ numOf y:=fun x hx y hy ne e=>by
  obtain⟨i,hi⟩:=A5.mp hx
  obtain⟨j,hj⟩:=A5.mp hy
  have h1:ns[i]? = some (numOf x):=by rw[<- en,AR,hi];rfl
  have h2:ns[j]? = some (numOf y):=by rw[<- en,AR,hj];rfl
  have:=(CO (i:=i) (j:=j) (AE.mp h1).1 nd).mp (by rw[h1,h2,e])
  rw[this,hj] at hi
  exact ne (AH hi).symm
 have vnd:vs.Nodup:=yE numOf (by rw[en];exact nd)
 refine AA (A4 (A1 slot_list_sort ⟨_,hoL,rfl⟩ entry_list_sort (Z2 (lt:=fun x y=>decide (numOf x < numOf y)) hoL hl vnd (fun x _ y _ e=>AY (by have:=BE e;omega)) (fun x hx y hy ne e=>Ak (by have:=of_decide_eq_false e;have:=vinj x hx y hy ne;omega)) (fun x _ y _ z _ e1 e2=>Ak (Int.lt_trans (BE e1) (BE e2))) (fun h2 g kp=>⟨oneType',fun Q hq=>?_,fun x hx y hy Q hq=>?_⟩) fun out per srt=>⟨_,rfl,?_⟩) (args_list_sort _)))
 ·rw[xW hI h2]
  exact AF hq
 ·obtain⟨n,t,rfl⟩:=num x hx
  obtain⟨n',t',rfl⟩:=num y hy
  rw[keyLt'_oneType]
  exact oneLt_int hq
 obtain⟨e,he⟩:=sortedHeap_at (vs:=vs) (out:=out.toArray) hoL
 refine AF ⟨_,rfl,h h' _ _ e out (out.map numOf) hk (fun b o q1=>by
  have hb:=AL q1
  rw[sortedHeap_old (AU hb) (by rw[CK];exact B9 hb)]
  exact AC _ q1) he (intsAre_map out fun v hv=>num v (per.mem_iff.mp hv)) ?_ ?_⟩
 ·have:=per.map numOf
  rw[en] at this
  exact this
 ·rw[BP]
  exact srt.imp fun e=>Int.le_of_lt (BE e)
end
section
variable {X:Cx}
theorem Je (K:Fs) (hK:X.K=K:=by rfl):qQ X (.builtin "sorted") (fun xs H Q=>∃ (p:Addr) (ns:List Int),xs=[.ref p]/\SqL K H p (ns.map V.int)/\ns.length<=900/\ns.Nodup/\∀ (l:Addr) (ms:List Int),H l=none->ms.Perm ns->ms.Pairwise (· <= ·)->Q (.ref l) (upd H l (.lst (ms.map V.int)))):=by
 subst hK
 intro pins s σ H xs us Q I r h
 obtain⟨p,ns,rfl,hq,h64,nd,q⟩:=h
 obtain⟨u,rfl,rx⟩:=vals1 r
 cases rx
 obtain⟨its,rv,pl,hz⟩:=I.list hq
 have hl:=rv.length
 rw[AB] at hl
 refine Ym pl.isList (yr rv) nd (by omega) fun g1 g2 tk e out ms k1 k2 he a1 a2 a3=>?_
 have I1:Inv X pins σ H { s with heap:=g1,toks:=tk }:=I.un (Un.kept k1) (I.hok.kept k1)
 refine⟨.ref g1.objs.size,_,I1.laid (t':=tk) (o:=.lst (ms.map V.int)) k2 (AG _) ?_,rfl,q _ ms (I1.hok.fresh (AG _)) a2 a3⟩
 refine⟨by rw[AB,a2.length_eq];exact CI (zo (by omega)),out,e,Y6 a1,?_⟩
 simpa [seqObj] using he
theorem QX (K:Fs) (hK:X.K=K:=by rfl):qQ X (.builtin "sorted") (fun xs H Q=>∃ (a:Addr) (vs:List V) (ks:List (List Nat)) (L:Nat),xs=[.ref a]/\SqL K H a vs/\Paired (Z6 H) ks vs/\(∀ k ∈ ks,k.length=L)/\1<=L/\ks.Nodup/\ks.length<=900 /\
  ∀ (l:Addr) (bs:List V) (ks':List (List Nat)),H l=none->Paired (Z6 H) ks' bs->ks'.Perm ks->ks'.Pairwise (fun x y=>Z1 x y=true)->Q (.ref l) (upd H l (.lst bs))):=by
 subst hK
 intro pins s σ H xs us Q I r h
 obtain⟨a,vs,ks,L,rfl,ha,hp,hL,L1,nd,h64,q⟩:=h
 obtain⟨u,rfl,rx⟩:=vals1 r
 cases rx
 obtain⟨us,rv,il,hz⟩:=I.list ha
 have pl:=AQ hp
 have rl:=rv.length
 have hpt:Paired (Tl s.heap) ks us:=by
  clear hL nd h64 q pl rl il ha hz
  induction hp generalizing us with
  | nil=>cases rv;exact .nil
  | cons c _ ih=>
   cases rv with
   | cons r1 rv=>
    obtain⟨t,rfl,ht⟩:=c
    cases r1
    exact .cons (col_tl I.hok ht) (ih _ rv)
 refine QW (vs:=us) (ks:=ks) (L:=L) (fun R hR=>collect_list (l:=a) il.isList (hR _ _ fun b o e=>?_) (by rw[BS];omega)) hpt hL L1 nd (by omega) fun g1 g2 tk e ids k1 k2 he per asc=>?_
 ·have hb:=AL e
  rw[A0 _ _ (BW hb)]
  exact AC _ e
 have I1:Inv X pins σ H { s with heap:=g1,toks:=tk }:=I.un (Un.kept k1) (I.hok.kept k1)
 have il':∀ i ∈ ids,i < vs.length:=fun i hi=>by
  have:=Aw.mp (per.mem_iff.mp hi)
  omega
 have idl:ids.length=us.length:=by rw[per.length_eq,Aj]
 refine⟨.ref g1.objs.size,_,I1.laid (t':=tk) (o:=.lst (ids.map fun i=>vs.getD i .non)) k2 (AG _) ?_,rfl,q _ _ (ids.map fun i=>ks.getD i []) (I1.hok.fresh (AG _)) (j9 hp _ _ il') (Jv _ _ (by rw[pl,rl];exact per)) asc⟩
 refine⟨by rw[AB,idl,BS];omega,ids.map fun i=>us.getD i .none,e,?_,by simpa [seqObj] using he⟩
 exact j9 rv _ _ (fun i hi=>Aw.mp (per.mem_iff.mp hi))
theorem QY (hc:X.calm=true):qQ X (.builtin "sorted") (fun xs H Q=>∃ (a:Addr) (kvs:List (List Key×V)) (ks:List (List Nat)) (L:Nat),xs=[.ref a]/\H a=some (.dT kvs)/\kvs.map Prod.fst=ks.map jK/\(∀ k ∈ ks,k.length=L)/\1<=L/\ks.Nodup/\ks.length<=900 /\
  ∀ (l:Addr) (bs:List V) (ks':List (List Nat)),H l=none->Paired (Z6 H) ks' bs->ks'.Perm ks->ks'.Pairwise (fun x y=>Z1 x y=true)->Q (.ref l) (upd H l (.lst bs))):=by
 intro pins s σ H xs us Q I r h
 obtain⟨a,kvs,ks,L,rfl,ha,ek,hL,L1,nd,h64,q⟩:=h
 obtain⟨u,rfl,rx⟩:=vals1 r
 cases rx
 obtain⟨z,lo,xs,rp,o,es,ep,h1,h2,h3,h4,h5⟩:=(show qd X.prog X.w H s.heap a (.dT kvs) from I.hok a _ ha)
 have hp:=xJ (P:=X.prog) (w:=X.w) (kvs:=kvs) ek rp
 have pl:=AQ hp
 have hpt:Paired (Tl s.heap) ks (xs.map fun x=>Value.ref x.2.1):=by
  clear hL nd h64 q pl h4 h5 ek rp
  induction xs generalizing ks with
  | nil=>cases hp;exact .nil
  | cons x xs ih=>
   cases hp with
   | cons c hp=>
    obtain⟨t,e,ht⟩:=c
    cases e
    exact .cons (col_tl I.hok ht) (ih _ hp)
 have esz:es.size=xs.length:=by rw[<- Am,h4,AB]
 have xl:xs.length=ks.length:=by rw[pl,AB]
 have el:(xs.map fun x=>Value.ref x.2.1).length=xs.length:=by rw[AB]
 refine QW (d:=a) (vs:=xs.map fun x=>Value.ref x.2.1) (ks:=ks) (L:=L) (fun R hR=>kdu_collect (A:=X.A.in1) (kdl_e (d:=a) (es:=es) (ep:=ep) lo) (I.ok.hd hc) ⟨o,h1,h2,h3⟩ (by rw[esz,BS];omega) fun h' tk acc hk hacc=>?_) hpt hL L1 nd (by omega) fun g1 g2 tk e ids k1 k2 he per asc=>?_
 ·have ev:acc.toList=es.toList.map (·.key):=by
   refine Bd fun i=>?_
   rw[AR,AZ,AZ]
   by_cases hi:i < es.size
   ·have g:acc[i]? = some (acc[i]'(by rw[hacc.1];exact hi)):=BK _
    obtain⟨e,he,ee⟩:=hacc.2 i _ g
    rw[g,he,ee]
    rfl
   ·rw[Bi (by rw[hacc.1];omega),Bi (by omega)]
    rfl
  rw[ev,h4,WN]
  exact hR h' tk hk
 have I1:Inv X pins σ H { s with heap:=g1,toks:=tk }:=I.un (Un.kept k1) (I.hok.kept k1)
 have idl:ids.length=xs.length:=by rw[per.length_eq,Aj,el]
 have vl:(xs.map fun x=>V.ref x.2.1).length=xs.length:=by rw[AB]
 refine⟨.ref g1.objs.size,_,I1.laid (t':=tk) (o:=.lst (ids.map fun i=>(xs.map fun x=>V.ref x.2.1).getD i .non)) k2 (AG _) ?_,rfl,q _ _ (ids.map fun i=>ks.getD i []) (I1.hok.fresh (AG _)) (j9 hp _ _ (fun i hi=>by have:=Aw.mp (per.mem_iff.mp hi);omega)) (Jv _ _ (by rw[<- xl,<- el];exact per)) asc⟩
 refine⟨by rw[AB,idl,BS];omega,ids.map fun i=>(xs.map fun x=>Value.ref x.2.1).getD i .none,e,?_,by simpa [seqObj] using he⟩
 refine j9 (as:=xs.map fun x=>V.ref x.2.1) (bs:=xs.map fun x=>Value.ref x.2.1) ?_ _ _ (fun i hi=>Aw.mp (per.mem_iff.mp hi))
 clear hpt hp pl h4 h5 rp he per asc idl vl el xl esz
 induction xs with
 | nil=>exact .nil
 | cons x xs ih=>exact .cons rfl ih
end
section
variable {X:Cx}
def rNotInTL (K:Fs):R2:=fun x y H Q=>∃ a b xs ys cs,x=.ref a/\y=.ref b/\SqT K H a xs/\xs.all Zm=true/\SqL K H b ys/\WG K H xs.length cs ys/\Q (.bl (!(cs.any fun c=>QG c xs))) H
theorem Yn (K:Fs) {k:Nat} (hr:jY k X.A) (hK:X.K=K:=by rfl):OpR X (compareOp .NotIn) (rNotInTL K):=by
 subst hK
 intro pins s σ H x y v u Q I rx ry h
 obtain⟨a,b,xs,ys,cs,rfl,rfl,ha,fx,hb,tk,q⟩:=h
 cases rx
 cases ry
 obtain⟨its,r,pl,hz⟩:=I.list hb
 refine SeqAt.notIn_listAt (isIn X.K H xs) pl.isList (fun w hw=>isIn_mem I hr ha fx tk r w (by simpa using hw)) ⟨.bl _,H,I,rfl,?_⟩
 rw[isIn_any I tk r]
 exact q
end
structure xX (N':List Str) (scope:Scope) (N2:List Str) (ix:List (Option Nat)) (scope2:Scope):Prop where
 kind:scope2.kind=.function
 nocell:∀ y ∈ scope2.names,y.2 ≠ .cell
 locs:∀ y ∈ scope2.names,y.2=.local->scope2.names.lookup y.1=some .local
 frees:∀ z ∈ scope2.names,z.2=.free->(scope.names.lookup z.1=some .cell\/scope.names.lookup z.1=some .free)
 nd:N2.Nodup
 len:ix.length=N2.length
 cap:(ix.zip N2).all (wA N' scope2)=true
theorem xY {X:Cx} {N':List Str} {scope:Scope} {y:Str} {C:Addr} {fp:List Addr} {s₀:Shared} {H₀:Hp} {N2:List Str} {ix:List (Option Nat)} {scope2:Scope} (h:xX N' scope N2 ix scope2) :
  zN (qC X N' scope y C fp s₀ H₀).N (qC X N' scope y C fp s₀ H₀).env.scope N2 ix scope2:=by
 refine⟨h.kind,h.nocell,h.locs,fun z hz hk=>?_,h.nd,h.len,h.cap⟩
 show (relabel scope X.env).names.lookup z.1 = some .cell \/ (relabel scope X.env).names.lookup z.1 = some .free
 rcases h.frees z hz hk with e | e
 ·rw [qr, e]
  exact .inl rfl
 ·rw [qr, e]
  simp only[Option.map_some,yX]
  split
  ·exact .inl rfl
  ·exact .inr rfl
section
variable {X:Cx} {N':List Str} {ix:List (Option Nat)} {scope:Scope} {pins:List (Addr × Obj)} {σ:St} {H:Hp} {s:Shared}
theorem WP {i:Nat} {z y:Str} {py spos:Pos} {elt tg iter:Expr} {ifs:List Expr} {pos:Pos} {wi:TI} {g:TG} {tt:TT} {te:TE} (S:jQ X.N X.env.scope N' ix scope z) (hc:X.calm=true) (hi:PI X tg iter wi)
  (hg:∀ C fp s₀ H₀,PG (qC X N' scope z C fp s₀ H₀) tg g) (ht:∀ C fp s₀ H₀,PF (qC X N' scope z C fp s₀ H₀) ifs tt) (he:∀ C fp s₀ H₀,PE (qC X N' scope z C fp s₀ H₀) elt te)
  (hN:X.N.Nodup) (hy:X.N[i]? = some y) (hl:X.env.scope.names.lookup y=some .local) (hsw:swapsWith (.ListComp elt [⟨tg,iter,ifs,0⟩] scope pos) (some (.Name y py)) spos.line X.env=pure true)
  (hs:∀ x,foldedSetIterable iter X.env x=pure x:=by intro _;rfl):PS X (.Assign [.Name y py] (.ListComp elt [⟨tg,iter,ifs,0⟩] scope pos) spos) (tAsg (tComp ix wi g tt te) (jm i)):=by
 intro pins s σ H D I h
 rw[exec_Assign_Name_used _ _ _ _ hsw]
 refine AA (Ec (AA ?_))
 rw[arm_evalThenUse_ListComp]
 refine AA (thn (Do (use:=some (assign (.Name y py) X.env)) (Q:=fun _ s'=>SP X pins D .next s') rfl hs (Z8 (S.has I.ok)) S.kind S.locs
  (thn (hi pins s σ H _ I h) fun v s1 h1=>thn h1 fun itv s2 h2=>?_)) fun _ s' q=>AF (AF q))
 obtain⟨it,fp,tn,J,H2,e,I2,T,st2,f2,q⟩:=h2
 subst e
 refine WL (Q:=fun x H1=>jm i x σ H1 D.nx) (Z:=fun acc C=>compPost (model X.prog X.w) X.A X.xe (some (assign (.Name y py) X.env)) (fun _ s'=>SP X pins D .next s') acc C) S hc hg ht he I2 T st2 f2 q ?_
 intro Dl C H' s' m I' hn hC hz qD
 have neL:C ≠ X.env.locals:=fun z=>absurd (AS I2.lt (by rw[<- z];exact hz)) (Ax _)
 have neC:∀ x c,X.env.cells.lookup x=some c->c ≠ C:=fun x c e z=>by obtain⟨v,w⟩:=I2.cell x c e;exact absurd (AS w.lt (by rw[z];exact hz)) (Ax _)
 show wpAny (model X.prog X.w) X.A (assign (.Name y py) X.env (.ref Dl)) _ X.xe s'
 refine Ek (Qu I' hN hy (.inl hl) (show RelV (.ref Dl) (.ref Dl) from rfl) (fun s'' J' ⟨a,sb,ha⟩=>?_) (.inr hl))
 have na:C ≠ a:=by
  rcases ha with z | z
  ·rw[z];exact neL
  ·exact Af (neC y a z)
 refine⟨m,hn.sameBut sb na,fun h' sb'=>?_⟩
 have I'':Inv X pins (σ.set i (some (.ref Dl))) H' { s'' with heap:=h',toks:=s''.toks }:=J'.turned (it:=C) (fun b o hb e=>(sb'.2 b hb).trans e) hC neL (.inr (Aq I2.sz hz)) neC
  (fun p hp z=>absurd (AS (AL (I2.pin p hp).1) (by rw[z];exact hz)) (Ax _))
 exact⟨_,H',I'',qD⟩
end
end L2
namespace K25
open PySem L2 L4
local macro_rules | `(tactic| walk_at "hp") => `(tactic| first | assumption | exact zd | (rw [zx (by first | assumption | exact Ne.symm (by assumption) | exact zE (by assumption) (by assumption) | exact Ne.symm (zE (by assumption) (by assumption)))]; walk_at "hp"))
local macro_rules | `(tactic| walk_at "r1") => `(tactic| first | refine ⟨_, rfl, ?_⟩ | refine .inl ⟨_, _, _, _, rfl, rfl, SqL.of (by walk_at "hp"), rfl, ?_⟩ | refine .inr (.inl ⟨_, _, _, _, rfl, rfl, SqT.of (by walk_at "hp"), rfl, ?_⟩) | refine ⟨_, _, rfl, rfl, ?_⟩ | refine ⟨(show CMul _ _ from .inr ⟨by omega, by omega⟩), ?_⟩ | refine ⟨(show CMul _ _ from .inl ⟨by omega, by omega⟩), ?_⟩ | refine ⟨(show CDiv _ _ from ⟨by omega, by omega⟩), ?_⟩ | refine ⟨(show CPow _ _ from ⟨by decide, by decide, by decide⟩), ?_⟩ | refine ⟨(show (0 : Int) < _ by omega), ?_⟩ | refine ⟨_, _, _, _, rfl, rfl, (by walk_at "hp"), rfl, ?_⟩)
local macro_rules | `(tactic| walk_at "rd") => `(tactic| repeat walk_at "r1")
local macro_rules | `(tactic| walk_at "dc") => `(tactic| first | refine J8 ?_ | refine JF ?_ | refine y8 (by decide +kernel) ?_ | refine Wz (by decide +kernel) ?_ | refine ⟨_, rfl, rfl, _, rfl, ?_⟩)
local macro_rules | `(tactic| walk_at "ds") => `(tactic| repeat walk_at "dc")
local macro_rules | `(tactic| walk_at "v") => `(tactic| first | exact Or.inl rfl | exact Or.inr (Or.inl rfl) | exact Or.inr (Or.inr rfl))
local macro_rules | `(tactic| walk_at "f") => `(tactic| first | exact .inl rfl | exact .inr rfl | assumption)
structure Cn where
 nm:Str
 pl:Nat
 cs:List Nat
structure Tb where
 m:Nat
 ws:List Nat
 cs:List Cn
def Cns (H:Hp):List Cn->List V->Prop:=Paired fun c v=>∃ t u,v=.ref t/\H t=some (.tup [.str c.nm,nV c.pl,.ref u])/\H u=some (.tup (c.cs.map nV))
theorem Cns.same {H H':Hp} (s:zL H H') {cs:List Cn} {vs:List V} (h:Cns H cs vs):Cns H' cs vs:=by
 unfold Cns at h ⊢
 induction h with
 | nil=>exact .nil
 | cons r _ ih=>
  obtain⟨t,u,e,h1,h2⟩:=r
  exact .cons ⟨t,u,e,s _ _ h1,s _ _ h2⟩ ih
theorem Cns.snoc {H:Hp} {cs:List Cn} {vs:List V} {c:Cn} {t u:Addr} (h:Cns H cs vs) (h1:H t=some (.tup [.str c.nm,nV c.pl,.ref u])) (h2:H u=some (.tup (c.cs.map nV))):Cns H (cs++[c]) (vs++[.ref t]):=by
 unfold Cns at h ⊢
 induction h with
 | nil=>exact .cons ⟨t,u,rfl,h1,h2⟩ .nil
 | cons r _ ih=>exact .cons r ih
theorem Cns.len {H:Hp} {cs:List Cn} {vs:List V} (h:Cns H cs vs):cs.length=vs.length:=AQ h
theorem Cns.get {H:Hp} {cs:List Cn} {vs:List V} (h:Cns H cs vs) {i:Nat} {c:Cn} (hc:cs[i]? = some c):∃ t u,vs[i]? = some (.ref t)/\H t=some (.tup [.str c.nm,nV c.pl,.ref u])/\H u=some (.tup (c.cs.map nV)):=by
 have hi:i < vs.length:=by
  rw[<- h.len]
  exact (AE.mp hc).1
 have e:vs[i]? = some vs[i]:=AD hi
 obtain⟨t,u,e1,h1,h2⟩:=Paired.at h i c _ hc e
 exact⟨t,u,by rw[e,e1],h1,h2⟩
def wb (H:Hp) (v:V) (T:Tb):Prop:=∃ a w c vs,v=.ref a/\H a=some (.tup [nV T.m,.ref w,.ref c])/\H w=some (.tup (T.ws.map nV))/\H c=some (.tup vs)/\Cns H T.cs vs
theorem wb.same {H H':Hp} (s:zL H H') {v:V} {T:Tb} (h:wb H v T):wb H' v T:=by
 obtain⟨a,w,c,vs,e,h1,h2,h3,h4⟩:=h
 exact⟨a,w,c,vs,e,s _ _ h1,s _ _ h2,s _ _ h3,h4.same s⟩
structure jR (T:Tb):Prop where
 m1:1<=T.m
 m9:T.m<=9
 ris:T.ws.Pairwise (· < ·)
 wlt:∀ x ∈ T.ws,x < T.m
 cl:T.cs.length<=16
 cn:∀ c ∈ T.cs,c.nm.length<=100/\c.pl<=2/\Tn.Cs T.m c.pl c.cs
theorem xZ {m k:Nat} (h9:m<=9) (k2:k<=2):m ^ k<=81:=by
 have h1:m ^ k<=9 ^ k:=Nat.pow_le_pow_left h9 k
 have h2:(9:Nat) ^ k<=9 ^ 2:=Nat.pow_le_pow_right (by decide) k2
 exact Aq h1 h2
theorem Cns.tk {H H':Hp} (s:Tk H H') {cs:List Cn} {vs:List V} (h:Cns H cs vs):Cns H' cs vs:=by
 unfold Cns at h ⊢
 induction h with
 | nil=>exact .nil
 | cons r _ ih=>
  obtain⟨t,u,e,h1,h2⟩:=r
  exact .cons ⟨t,u,e,s _ _ h1,s _ _ h2⟩ ih
theorem wb.tk {H H':Hp} (s:Tk H H') {v:V} {T:Tb} (h:wb H v T):wb H' v T:=by
 obtain⟨a,w,c,vs,e,h1,h2,h3,h4⟩:=h
 exact⟨a,w,c,vs,e,s _ _ h1,s _ _ h2,s _ _ h3,h4.tk s⟩
theorem cut_ints (ns:List Int) (lo hi:Option Int):∃ ms:List Int,Zk (ns.map V.int) lo hi=ms.map V.int:=by
 unfold Zk
 rw[<- List.map_drop,<- List.map_take]
 exact⟨_,rfl⟩
def WQ:Str := "qwertyuiopasdfghjklzxcvbnm"
theorem sign_all:((List.range 52).all fun k=>(atI WQ.cps.toList ((k:Int) - 26)).isSome)=true:=by ac_rfl
theorem WR {i:Int} (h1:-26<=i) (h2:i < 26):∃ c,atI WQ.cps.toList i=some c:=by
 have h:=Bf.mp sign_all (i+26).toNat (Aw.mpr (by omega))
 have e:(((i+26).toNat:Nat):Int) - 26=i:=by omega
 rw[e] at h
 exact DX.mp h
theorem Z9 {xs:List Nat} {i:Nat} (hi:i < xs.length):atI (xs.map nV) (i:Int)=some (nV (Tn.at' xs i)):=by
 refine qu ?_
 rw[AR,AD hi]
 unfold Tn.at'
 rw[AO,AD hi]
 rfl
theorem Zw (ws:List Nat):(ws.map nV).all Zm=true:=by
 rw[List.all_map,Bf]
 intro i _
 rfl
def Xa (K:Fs):Sp:=fun vs H Q _=>∃ (a:Addr) (ns:List Int) (pl:Int),vs=[.ref a,.int pl]/\SqL K H a (ns.map V.int)/\ns.length<=63/\∀ p H',H p=none->zL H H'->Wel H' p->Q (.ref p) H'
def WS:Sp:=fun vs H Q _=>∃ (p:Addr) (k:Nat),vs=[.ref p,.int (k:Int)]/\Wel H p/\k<=3/\∀ l xs H',Off p H H'->Wel H' p->H' l=some (.lst xs)->TL 16 xs->xs.Nodup->xs.length<=4->l ≠ p->Q (.ref l) H'
def WT:Sp:=fun vs H Q _=>∃ (p:Addr) (m pl:Nat),vs=[.ref p,nV m,nV pl]/\Wel H p/\1<=m/\m<=9/\pl<=2/\∀ t cs H',Off p H H'->Wel H' p->Tn.Cs m pl cs->H' t=some (.tup (cs.map nV))->Q (.ref t) H'
def nmsOf' (T:Tb):List Str:=T.cs.map Cn.nm
def WU:Sp:=fun vs H Q _=>∃ (p:Addr) (mo so:Nat),vs=[.ref p,nV mo,nV so]/\Wel H p/\1<=mo/\mo<=9/\so<=3/\∀ v T H',Off p H H'->Wel H' p->jR T->T.m<=mo->T.cs.length<=4->(nmsOf' T).Nodup->wb H' v T->Q v H'
def Xb:Sp:=fun vs H Q _=>∃ (m k:Nat) (c g:Addr) (cs r:List Nat),vs=[nV m,.ref c,.ref g]/\m<=9/\k<=2/\H c=some (.tup (cs.map nV))/\(H g=some (.lst (r.map nV))\/H g=some (.tup (r.map nV)))/\Tn.Rw m k r/\cs.length=m ^ k/\Q (nV (Tn.at' cs (Tn.place m r))) H
def spLaw (K:Fs):Sp:=fun vs H Q _=>∃ (a:Addr) (ns:List Int),vs=[.ref a]/\SqL K H a (ns.map V.int)/\ns.length<=63/\∀ H',Q (.bl true) H'
theorem nd_cut {xs:List V} (h:xs.Nodup) (lo hi:Option Int):(Zk xs lo hi).Nodup:=by
 unfold Zk
 exact h.sublist ((DT _ _).trans (List.drop_sublist _ _))
theorem rot8 (f:Nat):(Zk [.str "and",.str "or",.str "not",.str "then",.str "grades",.str "wished",.str "false",.str "true"] (some ((f:Int) % 8)) none++Zk [.str "and",.str "or",.str "not",.str "then",.str "grades",.str "wished",.str "false",.str "true"] none (some ((f:Int) % 8))).Nodup:=by
 have all:∀ r:Nat,r < 8->(Zk [.str "and",.str "or",.str "not",.str "then",.str "grades",.str "wished",.str "false",.str "true"] (some (r:Int)) none++Zk [.str "and",.str "or",.str "not",.str "then",.str "grades",.str "wished",.str "false",.str "true"] none (some (r:Int))).Nodup:=by ac_rfl
 have:=all (f % 8) (EI _ (by decide))
 rw[Int.natCast_emod] at this
 exact this
theorem Qr (c n:Nat):(Txt.mul (Str.mk #[c]) (n:Int)).length=n:=by
 unfold Txt.mul
 split
 ·rename_i h
  show 0=n
  omega
 ·split
  ·rename_i h1 h2
   have h2:(n:Int)=1:=by
    rcases (Bool.or_eq_true _ _).mp h2 with h | h
    ·exact eq_of_beq h
    ·exact absurd h (by show ¬ ((1:Nat) == 0)=true;decide)
   show 1=n
   omega
  ·have aux:∀ (k:Nat) (acc:Array Nat),((List.replicate k #[c]).foldl (· ++ ·) acc).size=acc.size+k:=by
    intro k
    induction k with
    | zero=>intro acc;rfl
    | succ k ih=>
     intro acc
     rw[By,Bx,ih,Ea]
     show acc.size+1+k=_
     omega
   show ((List.replicate (n:Int).toNat #[c]).foldl (· ++ ·) #[]).size=n
   rw[aux]
   simp
theorem nd_map {α:Type} (f:α->V) (L:List α) (h:L.Nodup) (inj:∀ a ∈ L,∀ b ∈ L,f a=f b->a=b):(L.map f).Nodup:=by
 unfold List.Nodup
 rw[BP]
 exact Cf (fun {a b} ha hb hab he=>hab (inj a ha b hb he)) h
def nm1 (c:Nat) (j:Nat):V:=.str (Txt.mul (Str.mk #[c]) (0+(j:Int)+2))
theorem nm1_nd (c n:Nat):((List.range n).map (nm1 c)).Nodup:=by
 refine nd_map _ _ List.nodup_range fun a _ b _ h=>?_
 have h1:=BL Str.length (V.str.inj h)
 rw[show 0+(a:Int)+2=((a+2:Nat):Int) by omega,show 0+(b:Int)+2=((b+2:Nat):Int) by omega,Qr,Qr] at h1
 omega
def sgAt (i:Int):Nat:=(atI WQ.cps.toList i).getD 0
theorem sg_inj:∀ a:Nat,a < 26->∀ b:Nat,b < 26->sgAt (a:Int)=sgAt (b:Int)->a=b:=by ac_rfl
theorem sg_of {i:Int} {c:Nat} (h:atI WQ.cps.toList i=some c):c=sgAt i:=by
 unfold sgAt
 rw[h]
 rfl
def nm2 (f:Nat) (A B:Str) (j:Nat):V:=.str (A++Str.mk #[sgAt (((f:Int)+(0+(j:Int))) % 26)]++B)
theorem mid_inj {A B:Str} {c d:Nat} (h:A++Str.mk #[c]++B=A++Str.mk #[d]++B):c=d:=by
 have h1:A.cps ++ #[c]++B.cps=A.cps ++ #[d]++B.cps:=BL Str.cps h
 have h2:=BL Array.toList h1
 simp only[Array.toList_append] at h2
 have h3:=List.append_cancel_right h2
 have h4:=List.append_cancel_left h3
 simpa using h4
theorem nm2_nd (f n:Nat) (A B:Str) (hn:n<=8):((List.range n).map (nm2 f A B)).Nodup:=by
 refine nd_map _ _ List.nodup_range fun a ha b hb h=>?_
 have a8:=Aw.mp ha
 have b8:=Aw.mp hb
 have h1:=mid_inj (V.str.inj h)
 rw[show ((f:Int)+(0+(a:Int))) % 26=(((f+a) % 26:Nat):Int) by omega,show ((f:Int)+(0+(b:Int))) % 26=(((f+b) % 26:Nat):Int) by omega] at h1
 have h2:=sg_inj _ (EI _ (by decide)) _ (EI _ (by decide)) h1
 omega
theorem Xc {ts:List Str} (h:(ts.map V.str).Nodup):ts.Nodup:=by
 unfold List.Nodup at h ⊢
 rw[BP] at h
 exact h.imp fun hab e=>hab (by rw[e])
abbrev Ln:Type:=Str ⊕ (Str×List Nat)
def jv (T:Tb):List Str:=T.cs.map Cn.nm
def findC (T:Tb) (nm:Str):Option Cn:=T.cs.find? fun c=>decide (c.nm=nm)
theorem Qs {T:Tb} (hn:(jv T).Nodup) {c:Cn} (hc:c ∈ T.cs):findC T c.nm=some c:=by
 obtain⟨m,ws,cs⟩:=T
 unfold findC jv at *
 dsimp only at *
 induction cs with
 | nil=>cases hc
 | cons d cs ih=>
  rw[Ai,Bl] at hn
  rw[List.find?_cons]
  rcases Al.mp hc with rfl | hc
  ·rw[Ak rfl]
  ·have ne:¬ d.nm=c.nm:=fun e=>hn.1 (e ▸ AW.mpr ⟨c,hc,rfl⟩)
   rw[AY ne]
   exact ih hn.2 hc
def cellOf (T:Tb) (nm:Str) (r:List Nat):Nat:=match findC T nm with
 | some c=>Tn.at' c.cs (Tn.place T.m r)
 | none=>0
def lineR (T:Tb) (γ:Str->Nat) (acc:List Nat):Ln->Nat
 | .inl x=>γ x
 | .inr z=>cellOf T z.1 (z.2.map (Tn.at' acc))
def qL (T:Tb) (γ:Str->Nat) (ls:List Ln):List Nat:=ls.foldl (fun acc l=>acc++[lineR T γ acc l]) []
theorem QZ (T:Tb) (γ:Str->Nat) (ls:List Ln) (l:Ln):qL T γ (ls++[l])=qL T γ ls++[lineR T γ (qL T γ ls) l]:=by
 unfold qL
 rw[List.foldl_append]
 rfl
def GoodLn (T:Tb) (LT:List Str) (i:Nat):Ln->Prop
 | .inl x=>x ∈ LT
 | .inr z=>(∀ n ∈ z.2,n < i)/\∃ c ∈ T.cs,c.nm=z.1/\c.pl=z.2.length
def ZB (T:Tb) (LT:List Str) (ls:List Ln):Prop:=∀ (i:Nat) (l:Ln),ls[i]? = some l->GoodLn T LT i l
theorem Jy (T:Tb) (γ:Str->Nat) (ls:List Ln):∀ i,i<=ls.length->(qL T γ (ls.take i)).length=i
 | 0,_=>rfl
 | i+1,h=>by
  have hi:ls[i]? = some ls[i]:=AD (by omega)
  rw[take_snoc hi,QZ,AI,Jy T γ ls i (by omega)]
  rfl
theorem at_left {xs ys:List Nat} {j:Nat} (h:j < xs.length):Tn.at' (xs++ys) j=Tn.at' xs j:=by
 unfold Tn.at'
 rw[AO,AO,BD h]
theorem at_last {xs:List Nat} {y:Nat}:Tn.at' (xs++[y]) xs.length=y:=by
 unfold Tn.at'
 rw[AO,A3 (AG _),Ck]
 rfl
theorem qI (T:Tb) (γ:Str->Nat) (ls:List Ln) {i:Nat} {l:Ln} (h:ls[i]? = some l):∀ m,i < m->m<=ls.length->Tn.at' (qL T γ (ls.take m)) i=lineR T γ (qL T γ (ls.take i)) l
 | 0,h0,_=>absurd h0 (CJ _)
 | m+1,h0,hm=>by
  have hi:ls[m]? = some ls[m]:=AD (by omega)
  rw[take_snoc hi,QZ]
  have gl:=Jy T γ ls m (by omega)
  by_cases e:i=m
  ·subst e
   rw[h] at hi
   rw[<- AH hi]
   conv=>lhs;arg 2;rw[<- gl]
   exact at_last
  ·rw[at_left (by omega)]
   exact qI T γ ls h m (by omega) (by omega)
theorem jR.cell_lt {T:Tb} (g:jR T) (hn:(jv T).Nodup) {c:Cn} (hc:c ∈ T.cs) {r:List Nat} (hr:Tn.Rw T.m c.pl r):cellOf T c.nm r < T.m:=by
 unfold cellOf
 rw[Qs hn hc]
 exact (g.cn c hc).2.2.at_lt (Tn.place_lt _ _ hr)
theorem line_at (T:Tb) (γ:Str->Nat) {LT:List Str} {ls:List Ln} (hg:ZB T LT ls) {i:Nat} {l:Ln} (h:ls[i]? = some l):Tn.at' (qL T γ ls) i=lineR T γ (qL T γ ls) l:=by
 have hi:i < ls.length:=(AE.mp h).1
 have e:=qI T γ ls h ls.length hi (AG _)
 rw[Ad] at e
 rw[e]
 cases l with
 | inl x=>rfl
 | inr z=>
  have hz:=(hg i _ h).1
  show cellOf T z.1 _=cellOf T z.1 _
  congr 1
  refine Ao fun n hn=>?_
  have hni:=hz n hn
  have hnl:ls[n]? = some ls[n]:=AD (by omega)
  have e1:=qI T γ ls hnl i hni (by omega)
  have e2:=qI T γ ls hnl ls.length (by omega) (AG _)
  rw[Ad] at e2
  rw[e1,e2]
theorem yF {T:Tb} (g:jR T) (hn:(jv T).Nodup) {γ:Str->Nat} {LT:List Str} {ls:List Ln} (hg:ZB T LT ls) (hγ:∀ x ∈ LT,γ x < T.m):∀ (b i:Nat),i < b->i < ls.length->Tn.at' (qL T γ ls) i < T.m
 | 0,i,h,_=>absurd h (CJ _)
 | b+1,i,hb,hi=>by
  have h:ls[i]? = some ls[i]:=AD hi
  have gl:=hg i _ h
  rw[line_at T γ hg h]
  generalize ls[i]=l at *
  cases l with
  | inl x=>exact hγ x gl
  | inr z=>
   obtain⟨hz,c,hc,e1,e2⟩:=gl
   show cellOf T z.1 _ < _
   rw[<- e1]
   exact g.cell_lt hn hc ⟨by rw[AB];exact e2.symm,fun x hx=>by
    obtain⟨n,hn',rfl⟩:=AW.mp hx
    have:=hz n hn'
    exact yF g hn hg hγ b n (by omega) (by omega)⟩
theorem at0 {x:V} {us:List V}:atI (x :: us) 0=some x:=qu (j:=0) rfl
theorem Z4 {xs:List V} (h:1<=xs.length):Zk xs (some 1) none=xs.drop 1:=by
 unfold Zk
 rw[show HT.sIx xs.length 0 (some 1)=1 by rw[show (1:Int)=((1:Nat):Int) from rfl,HT.sIx_nat];omega,HT.sIx_none]
 exact BY (by rw[CW];omega)
theorem wT {K:Fs} {H:Hp} {a:Addr} {xs:List V} {lo hi:Option Int} {Q:VK} (ha:H a=some (.tup xs)) (F:∀ t H',zL H H'->H' t=some (.tup (Zk xs lo hi))->Q (.ref t) H'):rSlT K (.ref a) lo hi H Q\/rSlTW K (.ref a) lo hi H Q:=by
 by_cases h:HT.sIx xs.length 0 lo=0/\HT.sIx xs.length xs.length hi=xs.length
 ·refine .inr ⟨a,xs,rfl,SqT.of ha,h,F a H (zL.refl H) ?_⟩
  unfold Zk
  rw[h.1,h.2,Cq,Nat.sub_zero,Ad]
  exact ha
 ·exact .inl ⟨a,xs,rfl,SqT.of ha,h,fun p hp=>F p _ (ze hp _) zd⟩
theorem catA_of {K:Fs} {H:Hp} {a b:Addr} {xs ys:List V} {Q:VK} (ha:H a=some (.tup xs)) (hb:H b=some (.tup ys)) (hz:xs.length+ys.length<=1000) (F:∀ t H',zL H H'->H' t=some (.tup (xs++ys))->Q (.ref t) H'):rCatA K (.ref a) (.ref b) H Q:=
 ⟨a,b,xs,ys,rfl,rfl,SqT.of ha,SqT.of hb,zt hz,fun z=>F b H (zL.refl H) (by rw[z];exact hb),fun _ z=>F a H (zL.refl H) (by rw[z,Ap];exact ha),fun _ _ p hp=>F p _ (ze hp _) zd⟩
def Ls (L:List Str):Prop:=∀ x ∈ L,Ltr x
def WV:Sp:=fun vs H Q _=>∃ x:Str,vs=[.str x]/\Small x/\x.length<=8/\∀ H',zL H H'->Q (.bl true) H'
def IsLn (H:Hp):Ln->V->Prop
 | .inl x,v=>v=.str x
 | .inr z,v=>∃ t,v=.ref t/\H t=some (.tup (.str z.1 :: z.2.map nV))
theorem IsLn.tk {H H':Hp} (k:Tk H H') {l:Ln} {v:V} (h:IsLn H l v):IsLn H' l v:=by
 cases l with
 | inl x=>exact h
 | inr z=>
  obtain⟨t,e,h⟩:=h
  exact⟨t,e,k _ _ h⟩
abbrev Lns (H:Hp):List Ln->List V->Prop:=Paired (IsLn H)
theorem Lns.tk {H H':Hp} (k:Tk H H') {ls:List Ln} {us:List V} (h:Lns H ls us):Lns H' ls us:=Paired.imp' (fun _ _ z=>z.tk k) h
theorem Lns.snoc {H:Hp} {ls:List Ln} {us:List V} {l:Ln} {u:V} (h:Lns H ls us) (k:IsLn H l u):Lns H (ls++[l]) (us++[u]):=by
 induction h with
 | nil=>exact .cons k .nil
 | cons r _ ih=>exact .cons r ih
def d0:Cn:=⟨"",0,[]⟩
def knOf (T:Tb) (au:Nat->Addr) (n:Nat):List (Key×V):=(List.range n).map fun i=>(Sum.inr (T.cs.getD i d0).nm,.ref (au i))
theorem kn_keys (T:Tb) (au:Nat->Addr):(knOf T au T.cs.length).map Prod.fst=(jv T).map Sum.inr:=by
 unfold knOf jv
 rw[BA,BA]
 refine Bd fun i=>?_
 rw[AR,AR]
 by_cases hi:i < T.cs.length
 ·rw[Bz hi,AD hi]
  simp[List.getD,hi]
 ·rw[BH (by rw[Aj];omega),BH (by omega)]
  rfl
theorem kn_nd {T:Tb} {au:Nat->Addr} (h:(jv T).Nodup):((knOf T au T.cs.length).map Prod.fst).Nodup:=by
 rw[kn_keys]
 unfold List.Nodup
 rw[BP]
 exact h.imp fun hab e=>hab (Sum.inr.inj e)
theorem Xd (xs ys:List Nat):QG (xs.map nV) (ys.map nV)=decide (xs=ys):=by
 unfold QG
 rw[AB,AB]
 induction xs generalizing ys with
 | nil=>cases ys <;> simp
 | cons x xs ih=>
  cases ys with
  | nil=>simp
  | cons y ys=>
   have:=ih ys
   rw[Ai,Ai,EJ,C9,Az,Az]
   have e1:eqV (nV x) (nV y)=decide (x=y):=by
    show (((x:Int)) == (y:Int))=_
    rw[CL,beq_iff_eq,decide_eq_true_iff]
    omega
   have e2:(xs.length+1 == ys.length+1)=(xs.length == ys.length):=by
    rw[CL,beq_iff_eq,beq_iff_eq]
    omega
   show ((eqV (nV x) (nV y) && _) && _)=_
   rw[e1,e2,Bool.and_assoc,this,CL]
   simp
def cKey (c:Cn):List Key:=[Sum.inr c.nm,Sum.inl (c.pl:Int)]
def IsCd (H:Hp) (d:Addr) (T:Tb):Prop:=∃ kvs,H d=some (.dT kvs)/\∀ c ∈ T.cs,∃ u,qY kvs (cKey c)=some (.ref u)/\H u=some (.tup (c.cs.map nV))
theorem IsCd.same {H H':Hp} {d:Addr} {T:Tb} (h:IsCd H d T) (s:zL H H'):IsCd H' d T:=by
 obtain⟨kvs,h1,h2⟩:=h
 refine⟨kvs,s _ _ h1,fun c hc=>?_⟩
 obtain⟨u,e1,e2⟩:=h2 c hc
 exact⟨u,e1,s _ _ e2⟩
def ctOf (T:Tb) (au:Nat->Addr) (n:Nat):List (List Key×V):=(List.range n).map fun i=>(cKey (T.cs.getD i d0),.ref (au i))
theorem ct_snoc (T:Tb) (au:Nat->Addr) (n:Nat):ctOf T au (n+1)=ctOf T au n++[(cKey (T.cs.getD n d0),.ref (au n))]:=by
 unfold ctOf
 rw[BV,AM]
 rfl
theorem ct_nd {T:Tb} {au:Nat->Addr} (h:(jv T).Nodup):((ctOf T au T.cs.length).map Prod.fst).Nodup:=by
 have h2:=kn_nd (au:=au) h
 unfold ctOf
 unfold knOf at h2
 rw[BA] at h2 ⊢
 unfold List.Nodup at h2 ⊢
 rw[BP] at h2 ⊢
 exact h2.imp fun hab e=>hab (by
  have e':cKey _=cKey _:=e
  unfold cKey at e'
  exact (CB e').1)
def spCbn:Sp:=fun vs H Q _=>∃ (v:V) (T:Tb),vs=[v]/\wb H v T/\jR T/\(jv T).Nodup/\∀ e H',zL H H'->IsCd H' e T->Q (.ref e) H'
theorem cut_mem {xs:List V} {lo hi:Option Int} {v:V} (h:v ∈ Zk xs lo hi):v ∈ xs:=by
 unfold Zk at h
 exact ((DT _ _).trans (List.drop_sublist _ _)).subset h
theorem sg_un:∀ f:Nat,f < 26->¬ Txt.mul (Str.mk #[sgAt (f:Int)]) 2=Txt.mul (Str.mk #[sgAt ((f:Int) - 1)]) 2:=by ac_rfl
theorem nm1_z {f:Nat} (hf:f < 26) (j:Nat):¬ nm1 (sgAt (f:Int)) j=.str (Txt.mul (Str.mk #[sgAt ((f:Int) - 1)]) 2):=fun e=>by
 have e0:=V.str.inj e
 have h1:=BL Str.length e0
 rw[show 0+(j:Int)+2=((j+2:Nat):Int) by omega,show (2:Int)=((2:Nat):Int) from rfl,Qr,Qr] at h1
 have:j=0:=by omega
 subst this
 exact sg_un f hf e0
def lnL:Ln->Bool
 | .inl _=>true
 | .inr _=>false
def yG:Sp:=fun vs H Q _=>∃ (v:V) (l:Ln),vs=[v]/\IsLn H l v/\(∀ x,l=.inl x->Ltr x)/\∀ H',zL H H'->Q (.bl (lnL l)) H'
structure Clos (ls:List Ln) (ns:List Nat):Prop where
 nd:ns.Nodup
 lt:∀ n ∈ ns,n < ls.length
 last:ls.length - 1 ∈ ns
 cl:∀ n ∈ ns,∀ z,ls[n]? = some (.inr z)->∀ m ∈ z.2,m ∈ ns
def nd1 (ns:List Nat):List (Key×V):=ns.map fun (n:Nat)=>((Sum.inl (n:Int):Key),V.bl true)
theorem WW:∀ (ns:List Nat) (n:Nat),(qY (nd1 ns) (Sum.inl (n:Int))).isSome=decide (n ∈ ns)
 | [],n=>by simp[nd1,qY]
 | m :: ns,n=>by
  unfold nd1
  rw[Ai]
  by_cases h:m=n
  ·rw[qv (by rw[h])]
   simp[h]
  ·rw[ql (fun e=>h (by have:=Dt e;omega))]
   have:=WW ns n
   unfold nd1 at this
   rw[this]
   have hn:¬ n=m:=fun e=>h e.symm
   simp[hn]
theorem nd1_keys (ns:List Nat):((nd1 ns).map fun p=>kV p.1)=ns.map nV:=by
 unfold nd1
 rw[BA]
 rfl
theorem nd1_put {ns:List Nat} {n:Nat} (h:n ∉ ns):ZJ (nd1 ns) (Sum.inl (n:Int)) (.bl true)=nd1 (ns++[n]):=by
 have hv:qY (nd1 ns) (Sum.inl (n:Int))=none:=by
  have:=WW ns n
  rw[AY h] at this
  cases e:qY (nd1 ns) (Sum.inl (n:Int)) with
  | none=>rfl
  | some x=>rw[e] at this;cases this
 rw[ZZ _ hv]
 unfold nd1
 rw[AM]
 rfl
def LtrLn (l:Ln):Prop:=∀ x,l=.inl x->Ltr x
theorem ZB.ltr {T:Tb} {LT:List Str} {ls:List Ln} (h:ZB T LT ls) (hL:Ls LT) {i:Nat} {l:Ln} (hi:ls[i]? = some l):LtrLn l:=fun x e=>by
 have:=h i l hi
 rw[e] at this
 exact hL x this
def SqE (H:Hp) (a:Addr) (us:List V):Prop:=H a=some (.tup us)\/H a=some (.lst us)
theorem SqE.same {H H':Hp} {a:Addr} {us:List V} (h:SqE H a us) (s:zL H H'):SqE H' a us:=h.imp (s _ _) (s _ _)
theorem SqE.ix {K:Fs} {H:Hp} {a:Addr} {us:List V} {k:Nat} {u:V} {Q:VK} (h:SqE H a us) (e:us[k]? = some u) (q:Q u H):rIx K (.ref a) (nV k) H Q:=by
 rcases h with h | h
 ·exact .inr (.inl ⟨a,_,_,_,rfl,rfl,SqT.of h,qu e,q⟩)
 ·exact .inl ⟨a,_,_,_,rfl,rfl,SqL.of h,qu e,q⟩
theorem SqE.len {K:Fs} {H:Hp} {a:Addr} {us:List V} (h:SqE H a us):LenV K (.ref a) H us.length:=by
 rcases h with h | h
 ·exact .inr ⟨_,SqT.of h,rfl⟩
 ·exact .inl ⟨_,SqL.of h,rfl⟩
theorem nat_nd {ns:List Nat} (h:ns.Nodup):(ns.map fun (n:Nat)=>(n:Int)).Nodup:=List.Pairwise.map _ (fun a b (e:a ≠ b) z=>e (EC.mp z)) h
def Xe:Sp:=fun vs H Q _=>∃ (lt:Addr) (us:List V) (ls:List Ln) (T:Tb) (LT:List Str),vs=[.ref lt]/\SqE H lt us/\Lns H ls us/\ZB T LT ls/\(∀ c ∈ T.cs,c.pl<=2)/\Ls LT/\1<=ls.length/\ls.length<=81/\∀ l ns H',zL H H'->H' l=some (.lst (ns.map nV))->Clos ls ns->Q (.ref l) H'
abbrev wU (H:Hp):List (List Nat)->List V->Prop:=Paired fun col v=>∃ t,v=.ref t/\H t=some (.tup (col.map nV))
theorem wU.tk {H H':Hp} (k:Tk H H') {cs:List (List Nat)} {us:List V} (h:wU H cs us):wU H' cs us:=Paired.imp' (fun _ _ ⟨t,e,h⟩=>⟨t,e,k _ _ h⟩) h
theorem wU.snoc {H:Hp} {cs:List (List Nat)} {us:List V} {c:List Nat} {t:Addr} (h:wU H cs us) (k:H t=some (.tup (c.map nV))):wU H (cs++[c]) (us++[.ref t]):=by
 induction h with
 | nil=>exact .cons ⟨t,rfl,k⟩ .nil
 | cons r _ ih=>exact .cons r ih
def zQ (m len:Nat) (col:List Nat):Prop:=col.length=len/\∀ x ∈ col,x < m
theorem yH {col:List Nat} {j:Nat} (h:j < col.length):col[j]? = some (Tn.at' col j):=by
 unfold Tn.at'
 rw[AO,AD h]
 rfl
theorem zQ.at {m len:Nat} {col:List Nat} (h:zQ m len col) {j:Nat} (hj:j < len):Tn.at' col j < m:=h.2 _ (AN (yH (by rw[h.1];exact hj)))
def Xf:Sp:=fun vs H Q _=>∃ (cu cl:Addr) (m pl:Nat) (cs:List Nat) (cols:List (List Nat)) (cvs:List V) (len:Nat),vs=[.ref cu,nV m,.ref cl,nV len]/\H cu=some (.tup (cs.map nV))/\Tn.Cs m pl cs/\H cl=some (.lst cvs)/\wU H cols cvs/\cols.length=pl/\pl<=2/\(∀ col ∈ cols,zQ m len col)/\1<=m/\m<=9/\len<=9/\∀ t H',zL H H'->H' t=some (.tup (((List.range len).map fun k=>Tn.at' cs (Tn.place m (cols.map fun col=>Tn.at' col k))).map nV))->Q (.ref t) H'
def WX:Sp:=fun vs H Q _=>∃ (v:V) (e al t:Addr) (T:Tb) (z:Str×List Nat) (cols:List (List Nat)) (avs:List V) (len:Nat),vs=[v,.ref e,.ref al,.ref t,nV len]/\wb H v T/\jR T/\(jv T).Nodup/\IsCd H e T/\H al=some (.lst avs)/\wU H cols avs/\(∀ col ∈ cols,zQ T.m len col)/\H t=some (.tup (.str z.1 :: z.2.map nV))/\(∀ n ∈ z.2,n < cols.length)/\(∃ c ∈ T.cs,c.nm=z.1/\c.pl=z.2.length)/\len<=9/\∀ t' H',zL H H'->H' t'=some (.tup (((List.range len).map fun k=>cellOf T z.1 (z.2.map fun n=>Tn.at' (cols.getD n []) k)).map nV))->Q (.ref t') H'
def reN (ns:List Nat):Ln->Ln
 | .inl x=>.inl x
 | .inr z=>.inr (z.1,z.2.map fun m=>ns.idxOf m)
def Z7 (ns:List Nat):List (Key×V):=ns.zipIdx.map fun p=>((Sum.inl ((p.1:Nat):Int):Key),nV p.2)
theorem Zx (ns:List Nat):(Z7 ns).length=ns.length:=by
 unfold Z7
 rw[AB,List.length_zipIdx]
theorem JR {ns:List Nat} {i:Nat} {p:Key×V} (h:(Z7 ns)[i]? = some p):∃ n,ns[i]? = some n/\p=(Sum.inl ((n:Nat):Int),nV i):=by
 unfold Z7 at h
 rw[AR,List.getElem?_zipIdx] at h
 cases e:ns[i]? with
 | none=>rw[e] at h;cases h
 | some n=>
  rw[e] at h
  refine⟨n,rfl,?_⟩
  have h2:=AH h
  rw[<- h2]
  simp
theorem wV (ns:List Nat):(Z7 ns).map Prod.fst=ns.map fun (n:Nat)=>(Sum.inl (n:Int):Key):=by
 refine Bd fun i=>?_
 rw[AR,AR]
 cases e:(Z7 ns)[i]? with
 | none=>
  have:=List.getElem?_eq_none_iff.mp e
  rw[Zx] at this
  rw[BH this]
  rfl
 | some p=>
  obtain⟨n,h1,rfl⟩:=JR e
  rw[h1]
  rfl
theorem nums_nd {ns:List Nat} (h:ns.Nodup):((Z7 ns).map Prod.fst).Nodup:=by
 rw[wV]
 unfold List.Nodup at h ⊢
 rw[BP]
 exact h.imp fun hab e=>hab (by have:=Dt e;omega)
theorem yI:∀ {kvs:List (Key×V)} {p:Key×V},(kvs.map Prod.fst).Nodup->p ∈ kvs->qY kvs p.1=some p.2
 | [],p,_,h=>by cases h
 | q :: kvs,p,nd,h=>by
  rw[Ai,Bl] at nd
  rcases Al.mp h with rfl | h
  ·exact qv rfl
  ·rw[ql (fun e=>nd.1 (e ▸ AW.mpr ⟨p,h,rfl⟩))]
   exact yI nd.2 h
theorem wZ:∀ {kvs:List (Key×V)} {k:Key},k ∉ kvs.map Prod.fst->qY kvs k=none
 | [],k,_=>rfl
 | q :: kvs,k,h=>by
  rw[Ai,Al,not_or] at h
  rw[ql (fun e=>h.1 e.symm)]
  exact wZ h.2
theorem nums_val {ns:List Nat} (nd:ns.Nodup) {n:Nat} (h:n ∈ ns):qY (Z7 ns) (Sum.inl (n:Int))=some (nV (ns.idxOf n)):=by
 have hlt:=Ei h
 have hp:(Z7 ns)[ns.idxOf n]? = some (Sum.inl ((n:Nat):Int),nV (ns.idxOf n)):=by
  have e:(Z7 ns)[ns.idxOf n]? = some ((Z7 ns)[ns.idxOf n]'(by rw[Zx];exact hlt)):=AD _
  obtain⟨m,h1,h2⟩:=JR e
  rw[e,h2]
  rw[AD hlt,EL] at h1
  rw[AH h1]
 exact yI (nums_nd nd) (p:=(Sum.inl ((n:Nat):Int),nV (ns.idxOf n))) (AN hp)
theorem Xg (ns:List Nat) (n:Nat):Z7 (ns++[n])=Z7 ns++[(Sum.inl ((n:Nat):Int),nV ns.length)]:=by
 unfold Z7
 rw[List.zipIdx_append,AM]
 simp
theorem nums_put {ns:List Nat} {i n:Nat} (nd:ns.Nodup) (h:ns[i]? = some n):ZJ (Z7 (ns.take i)) (Sum.inl (n:Int)) (.int ((Z7 (ns.take i)).length:Nat))=Z7 (ns.take (i+1)):=by
 have hi:=(AE.mp h).1
 have hn:n ∉ ns.take i:=fun hm=>by
  obtain⟨j,hj,e⟩:=List.mem_take_iff_getElem.mp hm
  obtain⟨h1,h2⟩:=AE.mp h
  exact (Bc.mp nd) j i (by omega) h1 (by omega) (by rw[e,h2])
 have hk:(Sum.inl (n:Int):Key) ∉ (Z7 (ns.take i)).map Prod.fst:=by
  rw[wV]
  intro hm
  obtain⟨m,hm1,e⟩:=AW.mp hm
  have:=Dt e
  exact hn (by rw[show n=m by omega];exact hm1)
 rw[ZZ _ (wZ hk),take_snoc h,Xg,Zx]
theorem Xh {ls:List Ln} {ns0:List Nat} {ms:List Int} (c:Clos ls ns0) (pm:ms.Perm (ns0.map fun (n:Nat)=>(n:Int))) (pw:ms.Pairwise (· <= ·)):∃ ns:List Nat,ms.map V.int=ns.map nV/\Clos ls ns/\ns.Pairwise (· < ·)/\ns.length=ns0.length:=by
 have m0:∀ i ∈ ms,∃ n ∈ ns0,i=((n:Nat):Int):=fun i hi=>by
  obtain⟨n,hn,e⟩:=AW.mp (pm.mem_iff.mp hi)
  exact⟨n,hn,e.symm⟩
 have mm:∀ x,x ∈ ms.map Int.toNat ↔ x ∈ ns0:=fun x=>by
  constructor
  ·intro hx
   obtain⟨i,hi,rfl⟩:=AW.mp hx
   obtain⟨n,hn,rfl⟩:=m0 i hi
   rw[A2]
   exact hn
  ·intro hx
   exact AW.mpr ⟨((x:Nat):Int),pm.mem_iff.mpr (AW.mpr ⟨x,hx,rfl⟩),A2 _⟩
 have nd0:(ns0.map fun (n:Nat)=>(n:Int)).Nodup:=by
  have:=c.nd
  unfold List.Nodup at this ⊢
  rw[BP]
  exact this.imp fun hab e=>hab (by omega)
 have nd:=pm.nodup_iff.mpr nd0
 have ris:(ms.map Int.toNat).Pairwise (· < ·):=by
  rw[BP]
  refine Cf (fun {a b} ha hb hab=>?_) (List.pairwise_and_iff.mpr ⟨pw,nd⟩)
  obtain⟨n,_,rfl⟩:=m0 a ha
  obtain⟨k,_,rfl⟩:=m0 b hb
  have h1:=hab.1
  have h2:=hab.2
  omega
 refine⟨ms.map Int.toNat,?_,⟨ris.imp fun h=>AU h,fun n hn=>c.lt n ((mm n).mp hn),(mm _).mpr c.last,fun n hn z hz m hm=>(mm m).mpr (c.cl n ((mm n).mp hn) z hz m hm)⟩,ris,by rw[AB,pm.length_eq,AB]⟩
 rw[BA]
 refine Ao fun i hi=>?_
 obtain⟨n,_,rfl⟩:=m0 i hi
 show V.int _=V.int _
 rw[A2]
theorem WY {α:Type} {f:Nat->α} {n j:Nat} {x:α} (h:((List.range n).map f)[j]? = some x):j < n/\x=f j:=by
 rw[AR] at h
 by_cases hj:j < n
 ·rw[Bz hj] at h
  exact⟨hj,(AH h).symm⟩
 ·rw[BH (by rw[Aj];omega)] at h
  cases h
def lnPs:Ln->List Nat
 | .inl _=>[]
 | .inr z=>z.2
def WZ:Sp:=fun vs H Q _=>∃ (v:V) (nd:Addr) (l:Ln) (ns:List Nat) (o:Obj),vs=[v,.ref nd]/\IsLn H l v/\LtrLn l/\H nd=some (.frz o (.dK (Z7 ns)))/\ns.Nodup/\(∀ m ∈ lnPs l,m ∈ ns)/\(lnPs l).length<=2/\ns.length<=81/\∀ w H',zL H H'->IsLn H' (reN ns l) w->Q w H'
def W0:Sp:=fun vs H Q _=>∃ (lt:Addr) (us:List V) (ls:List Ln) (T:Tb) (LT:List Str),vs=[.ref lt]/\SqE H lt us/\Lns H ls us/\ZB T LT ls/\(∀ c ∈ T.cs,c.pl<=2)/\Ls LT/\1<=ls.length/\ls.length<=81/\∀ t us' ns H',zL H H'->H' t=some (.tup us')->Clos ls ns->ns.Pairwise (· < ·)->Lns H' (ns.map fun n=>reN ns (ls.getD n (.inl ""))) us'->Q (.ref t) H'
def ZG (T:Tb) (γ:Nat->Str->Nat) (ls:List Ln) (len n:Nat):List Nat:=(List.range len).map fun k=>Tn.at' (qL T (γ k) ls) n
theorem Zy {T:Tb} (γ:Nat->Str->Nat) {ls:List Ln} (len:Nat) {n:Nat} {x:Str} (hn:ls[n]? = some (.inl x)):ZG T γ ls len n=(List.range len).map fun k=>γ k x:=by
 unfold ZG
 refine Ao fun k _=>?_
 have hi:=(AE.mp hn).1
 have e:=qI T (γ k) ls hn ls.length hi (AG _)
 rw[Ad] at e
 rw[e]
 rfl
theorem Qt {T:Tb} {LT:List Str} (γ:Nat->Str->Nat) {ls:List Ln} (hG:ZB T LT ls) (len:Nat) {n:Nat} {z:Str×List Nat} (hn:ls[n]? = some (.inr z)):ZG T γ ls len n=(List.range len).map fun k=>cellOf T z.1 (z.2.map fun m=>Tn.at' (qL T (γ k) ls) m):=by
 unfold ZG
 refine Ao fun k _=>?_
 have hi:=(AE.mp hn).1
 have e:=qI T (γ k) ls hn ls.length hi (AG _)
 rw[Ad] at e
 rw[e]
 show cellOf T z.1 (z.2.map (Tn.at' (qL T (γ k) (ls.take n))))=_
 congr 1
 refine Ao fun m hm=>?_
 have hmn:=(hG n _ hn).1 m hm
 have hml:ls[m]? = some ls[m]:=AD (by omega)
 have e1:=qI T (γ k) ls hml n hmn (by omega)
 have e2:=qI T (γ k) ls hml ls.length (by omega) (AG _)
 rw[Ad] at e2
 rw[e1,e2]
theorem yJ (T:Tb) (γ:Nat->Str->Nat) (ls:List Ln) (len n:Nat):(ZG T γ ls len n).length=len:=by
 unfold ZG
 rw[AB,Aj]
theorem Q0 (T:Tb) (γ:Nat->Str->Nat) (ls:List Ln) {len k:Nat} (n:Nat) (hk:k < len):Tn.at' (ZG T γ ls len n) k=Tn.at' (qL T (γ k) ls) n:=by
 have h:=yH (col:=ZG T γ ls len n) (j:=k) (by rw[yJ];exact hk)
 unfold ZG at h
 obtain⟨_,e⟩:=WY h
 exact e
theorem idx_lt {ns:List Nat} (ris:ns.Pairwise (· < ·)) {i n m:Nat} (hn:ns[i]? = some n) (hm:m ∈ ns) (lt:m < n):ns.idxOf m < i/\ns[ns.idxOf m]? = some m:=by
 have hj:=Ei hm
 have e:ns[ns.idxOf m]? = some m:=by rw[AD hj,EL]
 refine⟨?_,e⟩
 obtain⟨hi,ei⟩:=AE.mp hn
 rcases DK (ns.idxOf m) i with h | h
 ·exact h
 ·exfalso
  rcases An h with h | h
  ·rw[<- h,hn] at e
   have:=AH e
   omega
  ·have h2:=(Bc.mp ris) i (ns.idxOf m) hi hj h
   rw[ei,EL] at h2
   omega
theorem last_is {ns:List Nat} {N:Nat} (ris:ns.Pairwise (· < ·)) (lt:∀ n ∈ ns,n < N) (h:N - 1 ∈ ns):∃ ms,ns=ms++[N - 1]:=by
 rcases Dq ns with rfl | ⟨ms,e,rfl⟩
 ·cases h
 rw[Dr] at *
 refine⟨ms,?_⟩
 have he:=lt e (by simp)
 rcases AV.mp h with hm | hm
 ·have:=(DC.mp ris).2.2 _ hm e (by simp)
  omega
 ·rw[AJ.mp hm]
theorem rng_at (cs:List Nat):((List.range cs.length).map fun k=>Tn.at' cs k)=cs:=by
 refine Bd fun i=>?_
 rw[AR]
 by_cases hi:i < cs.length
 ·rw[Bz hi,yH hi]
  rfl
 ·rw[BH (by rw[Aj];omega),BH (by omega)]
  rfl
theorem Xi {s:Str} {c:Nat} (h:s.cps = #[c]) (h1:97<=c) (h2:c<=122):Ltr s:=⟨by show s.cps.size=1;rw[h];rfl,fun x hx=>by
 rw[h] at hx
 have:x=c:=by simpa using hx
 rw[this]
 exact⟨h1,h2⟩⟩
theorem Q1 {T:Tb} {LT:List Str} {ls:List Ln} (h:ZB T LT ls) (N:Nat):ZB T LT (ls.take N):=fun i l hi=>by
 have hlt:=(AE.mp hi).1
 rw[Ae] at hlt
 rw[Be (by omega)] at hi
 exact h i l hi
theorem yK {H:Hp}:∀ {ls:List Ln} {us:List V} (N:Nat),Lns H ls us->Lns H (ls.take N) (us.take N)
 | _,_,0,_=>.nil
 | _,_,_+1,.nil=>.nil
 | _,_,N+1,.cons r h=>.cons r (yK N h)
theorem Wa {xs:List V} {k:Nat}:Zk xs none (some (k:Int))=xs.take k:=by
 unfold Zk HT.sIx
 simp
 rw[if_neg (by omega)]
 omega
theorem Xj {T:Tb} (γ:Nat->Str->Nat) {ls:List Ln} (len:Nat) {N:Nat} (h1:1<=N) (h2:N<=ls.length):ZG T γ (ls.take N) len ((ls.take N).length - 1)=(List.range len).map fun k=>Tn.at' (qL T (γ k) ls) (N - 1):=by
 have e:(ls.take N).length=N:=by rw[Ae];omega
 rw[e]
 unfold ZG
 refine Ao fun k _=>?_
 have hl:ls[N - 1]? = some ls[N - 1]:=AD (by omega)
 have e1:=qI T (γ k) ls hl N (by omega) h2
 have e2:=qI T (γ k) ls hl ls.length (by omega) (AG _)
 rw[Ad] at e2
 rw[e1,e2]
def qo (T:Tb) (len:Nat) (cols:List (List Nat)) (z:Str×List Nat):List Nat:=(List.range len).map fun k=>cellOf T z.1 (z.2.map fun n=>Tn.at' (cols.getD n []) k)
def colV (T:Tb) (len:Nat) (nm:Str) (args:List (List Nat)):List Nat:=(List.range len).map fun k=>cellOf T nm (args.map fun a=>Tn.at' a k)
inductive Sd (T:Tb) (len:Nat) (B:List (List Nat)):List Nat->Prop
 | base {col:List Nat}:col ∈ B->Sd T len B col
 | op {c:Cn} {args:List (List Nat)}:c ∈ T.cs->args.length=c.pl->(∀ a ∈ args,Sd T len B a)->Sd T len B (colV T len c.nm args)
def yL (C:Addr):Sp:=fun vs H Q E=>∃ (fd c:Addr) (col:List Nat) (kvs:List (List Key×V)) (lv:V),vs=[.ref fd,.ref c,lv]/\H fd=some (.dT kvs)/\H c=some (.tup (col.map nV))/\kvs.length<=81/\((qY kvs (jK col)).isSome=true->Q .non H)/\(qY kvs (jK col)=none->kvs.length < 81->Q .non (upd H fd (.dT (kvs++[(jK col,lv)]))))/\(qY kvs (jK col)=none->kvs.length=81->E (.ref C) none H)
theorem Yw {b:Bool} {P Q:Prop} (h:b=true) (p:P):if b=true then P else Q:=by rw[if_pos h];exact p
theorem Wn {b:Bool} {P Q:Prop} (h:b=false) (q:Q):if b=true then P else Q:=by rw[h];exact q
def l0 (cs:List Cn):List (Str×List Nat):=(cs.filter fun c=>decide (c.pl=0)).map fun c=>(c.nm,([]:List Nat))
theorem l0_yes (cs:List Cn) {c:Cn} (h:c.pl=0):l0 (cs++[c])=l0 cs++[(c.nm,[])]:=by
 unfold l0
 rw[DQ,AM,List.filter_cons,if_pos (Ak h)]
 rfl
theorem l0_no (cs:List Cn) {c:Cn} (h:c.pl ≠ 0):l0 (cs++[c])=l0 cs:=by
 unfold l0
 rw[DQ,List.filter_cons,if_neg (fun z=>h (BE z))]
 simp
theorem Lns.app {H:Hp} {as bs:List Ln} {xs ys:List V} (h:Lns H as xs) (k:Lns H bs ys):Lns H (as++bs) (xs++ys):=by
 induction h with
 | nil=>exact k
 | cons r _ ih=>exact .cons r ih
def lwC (k:Nat) (c:Cn):List (Str×List Nat):=(if c.pl=1 then [(c.nm,[k])] else [])++(if c.pl=2 then ((List.range (k+1)).map fun o=>(c.nm,[k,o]))++(List.range k).map fun o=>(c.nm,[o,k]) else [])
def lw (k:Nat) (cs:List Cn):List (Str×List Nat):=cs.flatMap (lwC k)
abbrev Lzs (H:Hp) (zs:List (Str×List Nat)) (us:List V):Prop:=Lns H (zs.map Sum.inr) us
theorem Lzs.app {H:Hp} {as bs:List (Str×List Nat)} {xs ys:List V} (h:Lzs H as xs) (k:Lzs H bs ys):Lzs H (as++bs) (xs++ys):=by
 unfold Lzs
 rw[AM]
 exact Lns.app h k
theorem lwC_len {k:Nat} (h:k<=81) (c:Cn):(lwC k c).length<=166:=by
 unfold lwC
 rw[AI]
 split
 ·rw[if_neg (by omega)]
  show 1+0<=166
  omega
 ·split
  ·rw[AI,AB,AB,Aj,Aj]
   show 0+_<=166
   omega
  ·show 0+0<=166
   omega
theorem lw_len {k:Nat} (h:k<=81):∀ cs:List Cn,(lw k cs).length<=166 * cs.length
 | []=>AG _
 | c :: cs=>by
  unfold lw
  rw[List.flatMap_cons,AI,Az]
  have h1:=lwC_len h c
  have h2:=lw_len h cs
  unfold lw at h2
  omega
def JS:Sp:=fun vs H Q _=>∃ (v:V) (T:Tb),vs=[v]/\wb H v T/\jR T/\∀ l us H',zL H H'->H' l=some (.lst us)->Lzs H' (l0 T.cs) us->Q (.ref l) H'
def JT:Sp:=fun vs H Q _=>∃ (v:V) (T:Tb) (k:Nat),vs=[v,nV k]/\wb H v T/\jR T/\T.cs.length<=4/\k<=81/\∀ l us H',zL H H'->H' l=some (.lst us)->Lzs H' (lw k T.cs) us->Q (.ref l) H'
theorem JU {α:Type} [DecidableEq α]:∀ (l ns:List α),l.Nodup->(∀ x ∈ l,x ∈ ns)->l.length<=ns.length
 | [],ns,_,_=>A6 _
 | x :: l,ns,nd,h=>by
  obtain⟨n1,n2⟩:=Bl.mp nd
  have hx:=h x As
  have:=JU l (ns.erase x) n2 fun y hy=>(List.mem_erase_of_ne (fun (e:y=x)=>n1 (e ▸ hy))).mpr (h y (Ay _ hy))
  rw[List.length_erase_of_mem hx] at this
  have hp:=List.length_pos_of_mem hx
  rw[Az]
  omega
theorem yM:∀ {a b:List Nat},jK a=jK b->a=b
 | [],[],_=>rfl
 | [],_ :: _,h=>by cases h
 | _ :: _,[],h=>by cases h
 | x :: a,y :: b,h=>by
  obtain⟨h1,h2⟩:=CB (show (Sum.inl ((x:Nat):Int):Key) :: jK a=(Sum.inl ((y:Nat):Int):Key) :: jK b from h)
  rw[yM h2,EC.mp (Dt h1)]
theorem jw {kvs:List (List Key×V)} {cols:List (List Nat)} (e:kvs.map Prod.fst=cols.map jK) (col:List Nat):(qY kvs (jK col)).isSome=true ↔ col ∈ cols:=by
 induction kvs generalizing cols with
 | nil=>
  cases cols with
  | nil=>exact⟨(fun h=>by cases h),(fun h=>by cases h)⟩
  | cons c cols=>cases e
 | cons p kvs ih=>
  cases cols with
  | nil=>cases e
  | cons c cols=>
   obtain⟨e1,e2⟩:=CB e
   by_cases h:c=col
   ·subst h
    rw[qv e1]
    exact⟨fun _=>As,fun _=>rfl⟩
   ·rw[ql (fun z=>h (yM (e1.symm.trans z))),ih e2,Al]
    exact⟨.inr,fun z=>z.elim (fun z=>absurd z.symm h) id⟩
def FdH (H:Hp) (fd:Addr) (cols:List (List Nat)) (ls:List Ln):Prop:=∃ kvs,H fd=some (.dT kvs)/\kvs.map Prod.fst=cols.map jK/\Lns H ls (kvs.map Prod.snd)
def LnV (T:Tb) (LT:List Str) (len:Nat) (B cols:List (List Nat)) (col:List Nat):Ln->Prop
 | .inl x=>(x,col) ∈ LT.zip B
 | .inr z=>qo T len cols z=col
structure FdM (T:Tb) (LT:List Str) (len:Nat) (B cols:List (List Nat)) (ls:List Ln):Prop where
 nd:cols.Nodup
 gc:∀ c ∈ cols,zQ T.m len c
 sd:∀ c ∈ cols,Sd T len B c
 gl:ZB T LT ls
 ll:ls.length=cols.length
 le:cols.length<=81
 val:∀ (i:Nat) (l:Ln),ls[i]? = some l->LnV T LT len B cols (cols.getD i []) l
theorem FdH.same {H H':Hp} {fd:Addr} {cols:List (List Nat)} {ls:List Ln} (h:FdH H fd cols ls) (s:zL H H'):FdH H' fd cols ls:=by
 obtain⟨kvs,h1,h2,h3⟩:=h
 exact⟨kvs,s _ _ h1,h2,Lns.tk (Tk.of s) h3⟩
theorem jL (T:Tb) (len:Nat) (cols:List (List Nat)) (z:Str×List Nat):qo T len cols z=colV T len z.1 (z.2.map fun n=>cols.getD n []):=by
 unfold qo colV
 refine Ao fun k _=>?_
 rw[BA]
 rfl
theorem qU (T:Tb) (len:Nat) {cols:List (List Nat)} (more:List (List Nat)) {z:Str×List Nat} (h:∀ n ∈ z.2,n < cols.length):qo T len (cols++more) z=qo T len cols z:=by
 rw[jL,jL]
 congr 1
 refine Ao fun n hn=>?_
 rw[AO,AO,BD (h n hn)]
theorem Xk {cols:List (List Nat)} {more:List (List Nat)} {i:Nat} (h:i < cols.length):(cols++more).getD i []=cols.getD i []:=by
 rw[AO,AO,BD h]
theorem Xl {cols:List (List Nat)} {c:List Nat}:(cols++[c]).getD cols.length []=c:=by
 rw[AO,A3 (AG _),Ck]
 rfl
theorem W1 {H:Hp} {fd c:Addr} {col:List Nat} {lv:V} {l:Ln} {T:Tb} {LT:List Str} {len:Nat} {B cols:List (List Nat)} {ls:List Ln} (h:FdH H fd cols ls) (m:FdM T LT len B cols ls) (hc:H c=some (.tup (col.map nV))) (g:zQ T.m len col) (sd:Sd T len B col) (gl:GoodLn T LT cols.length l) (il:IsLn H l lv) (hv:LnV T LT len B cols col l) {C:Addr} {Q:VK} {E:XK} (qe:∀ cs:List (List Nat),cs.Nodup->(∀ c ∈ cs,Sd T len B c)->cs.length=82->E (.ref C) none H)
  (q:∀ H' cols' ls',Off fd H H'->Tk H H'->FdH H' fd cols' ls'->FdM T LT len B cols' ls'->(∃ more,cols'=cols++more)->col ∈ cols'->Q .non H'):yL C [.ref fd,.ref c,lv] H Q E:=by
 obtain⟨kvs,h1,h2,h3⟩:=h
 have kl:kvs.length=cols.length:=by
  have:=BL List.length h2
  rw[AB,AB] at this
  exact this
 have tk:∀ o,Tk H (upd H fd o):=fun o b' xs hb=>by
  rw[zx (yR hb h1 (by intro z;cases z))]
  exact hb
 have ndc:col ∉ cols->(cols++[col]).Nodup:=fun hcn=>by
  rw[Bu]
  exact⟨m.nd,by simp,fun a ha b' hb=>by rw[List.mem_singleton.mp hb];exact fun z=>hcn (z ▸ ha)⟩
 have sdc:∀ x ∈ cols++[col],Sd T len B x:=fun x hx=>by
  rcases AV.mp hx with hx | hx
  ·exact m.sd x hx
  ·rw[AJ.mp hx];exact sd
 have nin:qY kvs (jK col)=none->col ∉ cols:=fun hn hm=>by
  have:=(jw h2 col).mpr hm
  rw[hn] at this
  cases this
 have mle:=m.le
 refine⟨fd,c,col,kvs,lv,rfl,h1,hc,by omega,fun hs=>?_,fun hn h8=>?_,fun hn h8=>qe _ (ndc (nin hn)) sdc (by rw[AI,<- kl,h8];rfl)⟩
 ·exact q H cols ls Off.refl Tk.refl ⟨kvs,h1,h2,h3⟩ m ⟨[],(Ap _).symm⟩ ((jw h2 col).mp hs)
 ·have hcn:col ∉ cols:=fun hm=>by
   have:=(jw h2 col).mpr hm
   rw[hn] at this
   cases this
  refine q _ (cols++[col]) (ls++[l]) Off.put (tk _) ⟨_,zd,by rw[AM,AM,h2];rfl,?_⟩ ⟨ndc hcn,?_,sdc,?_,?_,by rw[AI];show cols.length+1<=81;omega,?_⟩ ⟨[col],rfl⟩ (by simp)
  ·rw[AM]
   exact Lns.snoc (Lns.tk (tk _) h3) (il.tk (tk _))
  ·intro x hx
   rcases AV.mp hx with hx | hx
   ·exact m.gc x hx
   ·rw[AJ.mp hx];exact g
  ·intro i x hx
   by_cases hi:i < ls.length
   ·rw[BD hi] at hx
    exact m.gl i x hx
   ·have hil:=(AE.mp hx).1
    rw[AI] at hil
    have hil:i < ls.length+1:=hil
    have ei:i=ls.length:=by omega
    rw[ei,A3 (AG _),Ck] at hx
    obtain rfl:l=x:=by simpa using hx
    rw[ei,m.ll]
    exact gl
  ·rw[AI,AI,m.ll]
   rfl
  ·intro i x hx
   by_cases hi:i < ls.length
   ·rw[BD hi] at hx
    have hv':=m.val i x hx
    have hg:=m.gl i x hx
    rw[Xk (by rw[<- m.ll];exact hi)]
    cases x with
    | inl y=>exact hv'
    | inr z=>
     show qo T len (cols++[col]) z=_
     rw[qU T len [col] fun n hn=>by
      have:=hg.1 n hn
      have:=m.ll
      omega]
     exact hv'
   ·have hil:=(AE.mp hx).1
    rw[AI] at hil
    have hil:i < ls.length+1:=hil
    have ei:i=ls.length:=by omega
    rw[ei,A3 (AG _),Ck] at hx
    obtain rfl:l=x:=by simpa using hx
    rw[ei,m.ll,Xl]
    cases l with
    | inl y=>exact hv
    | inr z=>
     show qo T len (cols++[col]) z=_
     rw[qU T len [col] gl.1]
     exact hv
theorem Q2 {H:Hp} {a b:Addr} {o:HO} (h:H b=some o) (n:H a=none):a ≠ b:=fun e=>by rw[e,h] at n;cases n
theorem JV {fd:Addr} {G H H':Hp} (s:zL G H) (n:G fd=none) (o:Off fd H H'):zL G H':=fun b ob hb=>o b ob (zE hb n) (s b ob hb)
theorem yN {k:Nat} {cs:List Cn} {z:Str×List Nat} (h:z ∈ lw k cs) (p2:∀ c ∈ cs,c.pl<=2):(∀ n ∈ z.2,n<=k)/\∃ c ∈ cs,c.nm=z.1/\c.pl=z.2.length:=by
 obtain⟨c,hc,h⟩:=Bq.mp h
 unfold lwC at h
 rcases AV.mp h with h | h
 ·split at h
  ·rw[AJ.mp h]
   exact⟨fun n hn=>by rw[AJ.mp hn];exact AG _,c,hc,rfl,by assumption⟩
  ·cases h
 ·split at h
  ·rcases AV.mp h with h | h
   ·obtain⟨o,ho,rfl⟩:=AW.mp h
    have:=Aw.mp ho
    refine⟨fun n hn=>?_,c,hc,rfl,by assumption⟩
    rcases Al.mp hn with e | hn
    ·omega
    ·rw[AJ.mp hn]
     omega
   ·obtain⟨o,ho,rfl⟩:=AW.mp h
    have:=Aw.mp ho
    refine⟨fun n hn=>?_,c,hc,rfl,by assumption⟩
    rcases Al.mp hn with e | hn
    ·omega
    ·rw[AJ.mp hn]
     omega
  ·cases h
theorem Jz {cs:List Cn} {z:Str×List Nat} (h:z ∈ l0 cs):z.2=[]/\∃ c ∈ cs,c.nm=z.1/\c.pl=z.2.length:=by
 obtain⟨c,hc,rfl⟩:=AW.mp h
 obtain⟨h1,h2⟩:=DG.mp hc
 exact⟨rfl,c,h1,rfl,BE h2⟩
theorem Xm {T:Tb} {LT:List Str} {len:Nat} {B cols:List (List Nat)} {ls:List Ln} (m:FdM T LT len B cols ls) {z:Str×List Nat} (hz:∀ n ∈ z.2,n < cols.length) (hc:∃ c ∈ T.cs,c.nm=z.1/\c.pl=z.2.length):Sd T len B (qo T len cols z):=by
 obtain⟨c,hc,e1,e2⟩:=hc
 rw[jL,<- e1]
 refine .op hc (by rw[AB,e2]) fun a ha=>?_
 obtain⟨n,hn,rfl⟩:=AW.mp ha
 rw[AO,AD (hz n hn)]
 exact m.sd _ (CY _)
theorem Wb {T:Tb} (g:jR T) (nd:(jv T).Nodup) {len:Nat} {cols:List (List Nat)} (gc:∀ c ∈ cols,zQ T.m len c) {z:Str×List Nat} (hz:∀ n ∈ z.2,n < cols.length) (hc:∃ c ∈ T.cs,c.nm=z.1/\c.pl=z.2.length):zQ T.m len (qo T len cols z):=by
 obtain⟨c,hc,e1,e2⟩:=hc
 unfold qo
 refine⟨by rw[AB,Aj],fun x hx=>?_⟩
 obtain⟨k,hk,rfl⟩:=AW.mp hx
 have hk:=Aw.mp hk
 rw[<- e1]
 refine g.cell_lt nd hc ⟨by rw[AB,e2],fun y hy=>?_⟩
 obtain⟨n,hn,rfl⟩:=AW.mp hy
 have hn:=hz n hn
 rw[AO,AD hn]
 exact (gc _ (CY hn)).at hk
theorem sd_in {T:Tb} (g:jR T) {len:Nat} {B cols:List (List Nat)} (hB:∀ b ∈ B,b ∈ cols) (h0:∀ z ∈ l0 T.cs,qo T len cols z ∈ cols) (hw:∀ k,k < cols.length->∀ z ∈ lw k T.cs,qo T len cols z ∈ cols) {col:List Nat} (h:Sd T len B col):col ∈ cols:=by
 induction h with
 | base h=>exact hB _ h
 | @op c args hc hl _ ih=>
  have p2:=(g.cn c hc).2.1
  have gd:∀ {i:Nat} {a:List Nat},cols[i]? = some a->cols.getD i []=a:=fun {i a} h=>by rw[AO,h];rfl
  match args,hl,ih with
  | [],hl,_=>
   have:=h0 (c.nm,[]) (AW.mpr ⟨c,DG.mpr ⟨hc,Ak hl.symm⟩,rfl⟩)
   rw[jL] at this
   exact this
  | [a],hl,ih=>
   obtain⟨i,hi⟩:=A5.mp (ih a As)
   have:=hw i (AE.mp hi).1 (c.nm,[i]) (Bq.mpr ⟨c,hc,Ah _ (by rw[if_pos (show c.pl=1 from hl.symm)];exact AJ.mpr rfl)⟩)
   rw[jL,show ([i].map fun n=>cols.getD n [])=[a] by rw[DP,gd hi]] at this
   exact this
  | [a,b],hl,ih=>
   have hl':c.pl=2:=hl.symm
   obtain⟨i,hi⟩:=A5.mp (ih a As)
   obtain⟨j,hj⟩:=A5.mp (ih b (by simp))
   have li:=(AE.mp hi).1
   have lj:=(AE.mp hj).1
   have key:∃ k,k < cols.length/\(c.nm,[i,j]) ∈ lw k T.cs:=by
    by_cases hij:j<=i
    ·refine⟨i,li,Bq.mpr ⟨c,hc,Ac _ ?_⟩⟩
     rw[if_pos hl']
     exact Ah _ (AW.mpr ⟨j,Aw.mpr (by omega),rfl⟩)
    ·refine⟨j,lj,Bq.mpr ⟨c,hc,Ac _ ?_⟩⟩
     rw[if_pos hl']
     exact Ac _ (AW.mpr ⟨i,Aw.mpr (by omega),rfl⟩)
   obtain⟨k,hk,hz⟩:=key
   have:=hw k hk _ hz
   rw[jL,show ([i,j].map fun n=>cols.getD n [])=[a,b] by rw[Ai,DP,gd hi,gd hj]] at this
   exact this
  | _ :: _ :: _ :: _,hl,_=>simp at hl;omega
def PCs (H:Hp):List (Str×List Nat)->List V->Prop:=Paired fun p v=>∃ t u,v=.ref t/\H t=some (.tup [.str p.1,.ref u])/\H u=some (.tup (p.2.map nV))
theorem PCs.tk {H H':Hp} (k:Tk H H') {cs:List (Str×List Nat)} {us:List V} (h:PCs H cs us):PCs H' cs us:=Paired.imp' (fun _ _ ⟨t,u,e,h1,h2⟩=>⟨t,u,e,k _ _ h1,k _ _ h2⟩) h
theorem PCs.snoc {H:Hp} {cs:List (Str×List Nat)} {us:List V} {p:Str×List Nat} {t u:Addr} (h:PCs H cs us) (h1:H t=some (.tup [.str p.1,.ref u])) (h2:H u=some (.tup (p.2.map nV))):PCs H (cs++[p]) (us++[.ref t]):=by
 unfold PCs at h ⊢
 induction h with
 | nil=>exact .cons ⟨t,u,rfl,h1,h2⟩ .nil
 | cons r _ ih=>exact .cons r ih
def JW (C:Addr):Sp:=fun vs H Q E=>∃ (v:V) (ct:Addr) (T:Tb) (cps:List (Str×List Nat)) (cvs:List V) (len:Nat),vs=[v,.ref ct,nV len]/\wb H v T/\jR T/\(jv T).Nodup/\T.cs.length<=4/\H ct=some (.tup cvs)/\PCs H cps cvs/\(∀ p ∈ cps,Ltr p.1/\zQ T.m len p.2)/\len<=9 /\
 (∀ fd cols ls H',zL H H'->H fd=none->FdH H' fd cols ls->FdM T (cps.map Prod.fst) len (cps.map Prod.snd) cols ls->(∀ col,Sd T len (cps.map Prod.snd) col->col ∈ cols)->Q (.ref fd) H') /\
 (∀ (cs:List (List Nat)) H',zL H H'->cs.Nodup->(∀ c ∈ cs,Sd T len (cps.map Prod.snd) c)->cs.length=82->E (.ref C) none H')
theorem zip_mem {cps:List (Str×List Nat)} {p:Str×List Nat} (h:p ∈ cps):(p.1,p.2) ∈ (cps.map Prod.fst).zip (cps.map Prod.snd):=by
 rw[List.zip_map',AW]
 exact⟨p,h,rfl⟩
def Told (T:Tb) (len:Nat) (cps:List (Str×List Nat)) (L:List Ln) (wish:List Nat):Prop:=∀ γ:Nat->Str->Nat,(∀ p ∈ cps,p.2=(List.range len).map fun k=>γ k p.1)->ZG T γ L len (L.length - 1)=wish
theorem col_val {T:Tb} {len:Nat} {cps:List (Str×List Nat)} {cols:List (List Nat)} {ls:List Ln} (m:FdM T (cps.map Prod.fst) len (cps.map Prod.snd) cols ls) {γ:Nat->Str->Nat} (hγ:∀ p ∈ cps,p.2=(List.range len).map fun k=>γ k p.1):∀ (i:Nat) (l:Ln),ls[i]? = some l->ZG T γ ls len i=cols.getD i []:=by
 intro i
 induction i using Nat.strongRecOn with
 | ind i ih=>
  intro l hl
  have hv:=m.val i l hl
  have hg:=m.gl i l hl
  cases l with
  | inl x=>
   rw[Zy γ len hl]
   have hv:(x,cols.getD i []) ∈ (cps.map Prod.fst).zip (cps.map Prod.snd):=hv
   rw[List.zip_map',AW] at hv
   obtain⟨p,hp,e⟩:=hv
   have e1:p.1=x:=BL Prod.fst e
   have e2:p.2=cols.getD i []:=BL Prod.snd e
   rw[<- e2,<- e1]
   exact (hγ p hp).symm
  | inr z=>
   rw[Qt γ m.gl len hl]
   have hv:qo T len cols z=cols.getD i []:=hv
   rw[<- hv]
   unfold qo
   refine Ao fun k hk=>?_
   have hk:=Aw.mp hk
   congr 1
   refine Ao fun n hn=>?_
   have hni:=hg.1 n hn
   have hil:=(AE.mp hl).1
   have hln:ls[n]? = some ls[n]:=AD (by omega)
   rw[<- ih n hni _ hln,Q0 T γ ls n hk]
theorem Xn {ls:List Ln} {ns:List Nat} {i n:Nat} (hn:ns[i]? = some n) {l:Ln} (hl:ls[n]? = some l):(ns.map fun n=>reN ns (ls.getD n (.inl "")))[i]? = some (reN ns l):=by
 rw[AR,hn,DF,AO,hl]
 rfl
theorem yO {T:Tb} {LT:List Str} {ls:List Ln} {ns:List Nat} (hG:ZB T LT ls) (c:Clos ls ns) (ris:ns.Pairwise (· < ·)):ZB T LT (ns.map fun n=>reN ns (ls.getD n (.inl ""))):=by
 intro i l hi
 have hil:=(AE.mp hi).1
 rw[AB] at hil
 have hn:ns[i]? = some ns[i]:=AD hil
 generalize ns[i]=n at hn
 have hnm:=AN hn
 have hll:=c.lt n hnm
 have hl:ls[n]? = some ls[n]:=AD hll
 generalize ls[n]=l0 at hl
 rw[Xn hn hl] at hi
 obtain rfl:=AH hi
 have hg:=hG n l0 hl
 cases l0 with
 | inl x=>exact hg
 | inr z=>
  refine⟨fun m hm=>?_,?_⟩
  ·obtain⟨m0,hm0,rfl⟩:=AW.mp hm
   exact (idx_lt ris hn (c.cl n hnm z hl m0 hm0) (hg.1 m0 hm0)).1
  ·obtain⟨cc,hc,e1,e2⟩:=hg.2
   exact⟨cc,hc,e1,by rw[e2];exact (AB _).symm⟩
theorem ren_col {T:Tb} {LT:List Str} {ls:List Ln} {ns:List Nat} (γ:Nat->Str->Nat) (len:Nat) (hG:ZB T LT ls) (c:Clos ls ns) (ris:ns.Pairwise (· < ·)):∀ (i n:Nat),ns[i]? = some n->ZG T γ (ns.map fun n=>reN ns (ls.getD n (.inl ""))) len i=ZG T γ ls len n:=by
 have hG':=yO hG c ris
 intro i
 induction i using Nat.strongRecOn with
 | ind i ih=>
  intro n hn
  have hnm:=AN hn
  have hll:=c.lt n hnm
  have hl:ls[n]? = some ls[n]:=AD hll
  generalize ls[n]=l0 at hl
  have hi:=Xn hn hl
  have hg:=hG n l0 hl
  cases l0 with
  | inl x=>rw[Zy γ len hi,Zy γ len hl]
  | inr z=>
   rw[Qt γ hG' len hi,Qt γ hG len hl]
   refine Ao fun k hk=>?_
   have hk:=Aw.mp hk
   show cellOf T z.1 ((z.2.map fun m=>ns.idxOf m).map _)=_
   rw[BA]
   congr 1
   refine Ao fun m hm=>?_
   obtain⟨j1,j2⟩:=idx_lt ris hn (c.cl n hnm z hl m hm) (hg.1 m hm)
   have e:=BL (fun l=>Tn.at' l k) (ih _ j1 m j2)
   rw[Q0 T γ _ _ hk,Q0 T γ _ _ hk] at e
   exact e
theorem told_of {T:Tb} {len:Nat} {cps:List (Str×List Nat)} {cols:List (List Nat)} {ls:List Ln} (m:FdM T (cps.map Prod.fst) len (cps.map Prod.snd) cols ls) {j:Nat} {wish:List Nat} (hj:cols[j]? = some wish) {ns:List Nat} (c:Clos (ls.take (j+1)) ns) (ris:ns.Pairwise (· < ·)):Told T len cps (ns.map fun n=>reN ns ((ls.take (j+1)).getD n (.inl ""))) wish:=by
 intro γ hγ
 have jl:=(AE.mp hj).1
 have ll:=m.ll
 have tl:(ls.take (j+1)).length=j+1:=by rw[Ae];omega
 obtain⟨ms,e⟩:=last_is ris c.lt c.last
 have hn:ns[ns.length - 1]? = some j:=by
  have e':ns=ms++[j]:=by rw[tl] at e;exact e
  rw[e',AI,A3 (by show ms.length<=ms.length+1 - 1;omega)]
  show [j][ms.length+1 - 1 - ms.length]? = _
  rw[show ms.length+1 - 1 - ms.length=0 by omega]
  rfl
 rw[AB,ren_col γ len (Q1 m.gl _) c ris _ j hn]
 have hlj:ls[j]? = some ls[j]:=AD (by omega)
 have h1:=Xj (T:=T) (ls:=ls) γ len (N:=j+1) (by omega) (by omega)
 rw[tl] at h1
 rw[show j+1 - 1=j from rfl] at h1
 rw[h1]
 have h2:=col_val m hγ j _ hlj
 unfold ZG at h2
 rw[h2,AO,hj]
 rfl
def spSay (C:Addr):Sp:=fun vs H Q E=>∃ (v:V) (ct wt:Addr) (T:Tb) (cps:List (Str×List Nat)) (cvs:List V) (wish:List Nat),vs=[v,.ref ct,.ref wt]/\wb H v T/\jR T/\(jv T).Nodup/\T.cs.length<=4/\H ct=some (.tup cvs)/\PCs H cps cvs/\(∀ p ∈ cps,Ltr p.1/\zQ T.m wish.length p.2)/\H wt=some (.tup (wish.map nV))/\1<=wish.length/\wish.length<=9 /\
 (Sd T wish.length (cps.map Prod.snd) wish->∀ (all:List (List Nat)),(∀ col,col ∈ all ↔ Sd T wish.length (cps.map Prod.snd) col)->all.length<=81->∀ t lt us L H',zL H H'->H' t=some (.tup [.str "said",.ref lt])->H' lt=some (.tup us)->Lns H' L us->ZB T (cps.map Prod.fst) L->1<=L.length->L.length<=81->Told T wish.length cps L wish->Q (.ref t) H') /\
 (¬ Sd T wish.length (cps.map Prod.snd) wish->∀ t ut bs ks H',zL H H'->H' t=some (.tup [.str "unsaid",.ref ut])->H' ut=some (.tup bs)->Paired (Z6 H') ks bs->ks.Pairwise (fun x y=>Z1 x y=true)->(∀ col,col ∈ ks ↔ Sd T wish.length (cps.map Prod.snd) col)->ks.length<=81->Q (.ref t) H') /\
 (∀ (cs:List (List Nat)) H',zL H H'->cs.Nodup->(∀ c ∈ cs,Sd T wish.length (cps.map Prod.snd) c)->cs.length=82->E (.ref C) none H')
theorem ColVs.tk {H H':Hp} (k:Tk H H') {cs:List (List Nat)} {us:List V} (h:Paired (Z6 H) cs us):Paired (Z6 H') cs us:=Paired.imp' (fun _ _ ⟨t,e,h⟩=>⟨t,e,k _ _ h⟩) h
theorem Yo {a b:List (List Nat)} (ha:a.Pairwise (fun x y=>Z1 x y=true)) (hb:b.Pairwise (fun x y=>Z1 x y=true)) (h:∀ x,x ∈ a ↔ x ∈ b):a=b:=by
 have irr:∀ x:List Nat,Z1 x x=true->False:=fun x e=>by
  have:=Qq x x e
  rw[e] at this
  cases this
 have nd:∀ {l:List (List Nat)},l.Pairwise (fun x y=>Z1 x y=true)->l.Nodup:=fun {l} h=>List.Pairwise.imp (fun {x y} (e:Z1 x y=true) (z:x=y)=>irr y (by rw[z] at e;exact e)) h
 exact List.Perm.eq_of_pairwise (le:=fun x y=>Z1 x y=true) (fun x y _ _ h1 h2=>by rw[Qq _ _ h1] at h2;cases h2) ha hb ((List.perm_ext_iff_of_nodup (nd ha) (nd hb)).mpr h)
theorem Yp {H:Hp} {pts:List (List Nat)}:∀ {xs ys:List V},Paired (Z6 H) pts xs->Paired (Z6 H) pts ys->Paired (Wy H 2) xs ys:=by
 have flat:∀ ns:List Nat,Paired (Wy H 1) (ns.map nV) (ns.map nV):=fun ns=>by
  induction ns with
  | nil=>exact .nil
  | cons n ns ih=>exact .cons (.inl ⟨rfl,rfl⟩) ih
 induction pts with
 | nil=>
  intro xs ys h k
  cases h
  cases k
  exact .nil
 | cons p pts ih=>
  intro xs ys h k
  cases h with
  | cons r t=>
   cases k with
   | cons r' t'=>
    obtain⟨a,rfl,ha⟩:=r
    obtain⟨b,rfl,hb⟩:=r'
    exact .cons (.inr ⟨a,b,_,_,rfl,rfl,ha,hb,flat p⟩) (ih t t')
theorem Xo {T:Tb} (g:jR T) (nT:(jv T).Nodup) {len:Nat} {B:List (List Nat)} (gB:∀ b ∈ B,zQ T.m len b) {col:List Nat} (h:Sd T len B col):zQ T.m len col:=by
 induction h with
 | base h=>exact gB _ h
 | @op c args hc hl _ ih=>
  unfold colV
  refine⟨by rw[AB,Aj],fun x hx=>?_⟩
  obtain⟨k,hk,rfl⟩:=AW.mp hx
  have hk:=Aw.mp hk
  refine g.cell_lt nT hc ⟨by rw[AB];exact hl,fun y hy=>?_⟩
  obtain⟨a,ha,rfl⟩:=AW.mp hy
  exact (ih a ha).at hk
theorem qN {α β:Type} {F:α->β->Prop} {a b:List α} {c d:List β} (h:Paired F a c) (k:Paired F b d):Paired F (a++b) (c++d):=by
 induction h with
 | nil=>exact k
 | cons r _ ih=>exact .cons r ih
def jr (cs:List Nat) (m len:Nat) (a b:List Nat):List Nat:=(List.range len).map fun k=>Tn.at' cs (Tn.at' a k * m+Tn.at' b k)
def W2 (cs:List Nat) (m pl len:Nat) (cols:List (List Nat)) (n:Nat):List (List Nat):=if pl=1 then [(cols.getD n []).map (Tn.at' cs)] else (cols.take (if pl=2 then n+1 else 0)).flatMap fun o=>[jr cs m len (cols.getD n []) o,jr cs m len o (cols.getD n [])]
def W3:Sp:=fun vs H Q _=>∃ (m pl len n:Nat) (cu fl:Addr) (cs:List Nat) (cols:List (List Nat)) (fvs:List V),vs=[nV m,nV pl,.ref cu,.ref fl,nV n]/\H cu=some (.tup (cs.map nV))/\Tn.Cs m pl cs/\pl<=2/\m<=9/\H fl=some (.lst fvs)/\Paired (Z6 H) cols fvs/\(∀ c ∈ cols,zQ m len c)/\len<=9/\n < cols.length/\cols.length<=81/\∀ l xs H',zL H H'->H' l=some (.lst xs)->Paired (Z6 H') (W2 cs m pl len cols n) xs->Q (.ref l) H'
def W4 (pl:Nat) (cols:List (List Nat)) (n:Nat):List (List (List Nat)):=if pl=1 then [[cols.getD n []]] else (cols.take (if pl=2 then n+1 else 0)).flatMap fun o=>[[cols.getD n [],o],[o,cols.getD n []]]
theorem Xp {T:Tb} (nT:(jv T).Nodup) {c:Cn} (hc:c ∈ T.cs) (r:List Nat):cellOf T c.nm r=Tn.at' c.cs (Tn.place T.m r):=by
 unfold cellOf
 rw[Qs nT hc]
theorem giv_eq {T:Tb} (nT:(jv T).Nodup) {c:Cn} (hc:c ∈ T.cs) {len:Nat} {cols:List (List Nat)} (hg:∀ a ∈ cols,a.length=len) {n:Nat} (hn:n < cols.length):W2 c.cs T.m c.pl len cols n=(W4 c.pl cols n).map (colV T len c.nm):=by
 unfold W2 W4
 have ha:(cols.getD n []).length=len:=by
  rw[AO,AD hn]
  exact hg _ (CY hn)
 by_cases p1:c.pl=1
 ·rw[if_pos p1,if_pos p1,DP]
  congr 1
  unfold colV
  conv=>lhs;rw[<- rng_at (cols.getD n []),BA,ha]
  refine Ao fun k _=>?_
  rw[Xp nT hc]
  show _=Tn.at' c.cs (0 * T.m+Tn.at' (cols.getD n []) k)
  rw[Nat.zero_mul,Nat.zero_add]
  rfl
 ·rw[if_neg p1,if_neg p1,List.map_flatMap]
  congr 1
  funext o
  have e:∀ a b:List Nat,jr c.cs T.m len a b=colV T len c.nm [a,b]:=fun a b=>by
   unfold jr colV
   refine Ao fun k _=>?_
   rw[Xp nT hc]
   show _=Tn.at' c.cs ((0 * T.m+Tn.at' a k) * T.m+Tn.at' b k)
   rw[Nat.zero_mul,Nat.zero_add]
  rw[e,e]
  rfl
theorem args_mem {pl:Nat} {cols:List (List Nat)} {n:Nat} (hn:n < cols.length) (p:pl<=2) {as:List (List Nat)} (h:as ∈ W4 pl cols n):as.length=pl/\∀ a ∈ as,a ∈ cols:=by
 have hc:cols.getD n [] ∈ cols:=by
  rw[AO,AD hn]
  exact CY hn
 unfold W4 at h
 split at h
 ·rw[AJ.mp h]
  refine⟨by rw[List.length_singleton];omega,fun a ha=>?_⟩
  rw[AJ.mp ha]
  exact hc
 ·obtain⟨o,ho,h⟩:=Bq.mp h
  have oc:=BU ho
  have p2:pl=2:=by
   by_cases e:pl=2
   ·exact e
   ·rw[if_neg e,CT] at ho
    cases ho
  rcases Al.mp h with rfl | h
  ·refine⟨p2.symm,fun a ha=>?_⟩
   rcases Al.mp ha with rfl | ha
   ·exact hc
   ·rw[AJ.mp ha]
    exact oc
  ·rw[AJ.mp h]
   refine⟨p2.symm,fun a ha=>?_⟩
   rcases Al.mp ha with rfl | ha
   ·exact oc
   ·rw[AJ.mp ha]
    exact hc
theorem giv_line {T:Tb} (nT:(jv T).Nodup) {c:Cn} (hc:c ∈ T.cs) {len:Nat} {cols:List (List Nat)} (hg:∀ a ∈ cols,a.length=len) {n:Nat} (hn:n < cols.length) {z:Str×List Nat} (hz:z ∈ lwC n c):qo T len cols z ∈ W2 c.cs T.m c.pl len cols n:=by
 rw[giv_eq nT hc hg hn,jL]
 unfold lwC at hz
 rcases AV.mp hz with h | h
 ·split at h
  ·rename_i p1
   rw[AJ.mp h]
   refine AW.mpr ⟨[cols.getD n []],?_,rfl⟩
   unfold W4
   rw[if_pos p1]
   exact AJ.mpr rfl
  ·cases h
 ·split at h
  ·rename_i p2
   have get:∀ o,o<=n->cols.getD o [] ∈ cols.take (n+1):=fun o ho=>by
    refine AN (i:=o) ?_
    rw[Be (by omega),AO,AD (by omega)]
    rfl
   rcases AV.mp h with h | h
   ·obtain⟨o,ho,rfl⟩:=AW.mp h
    have:=Aw.mp ho
    refine AW.mpr ⟨[cols.getD n [],cols.getD o []],?_,rfl⟩
    unfold W4
    rw[if_neg (by omega),if_pos p2]
    exact Bq.mpr ⟨_,get o (by omega),by simp⟩
   ·obtain⟨o,ho,rfl⟩:=AW.mp h
    have:=Aw.mp ho
    refine AW.mpr ⟨[cols.getD o [],cols.getD n []],?_,rfl⟩
    unfold W4
    rw[if_neg (by omega),if_pos p2]
    exact Bq.mpr ⟨_,get o (by omega),by simp⟩
  ·cases h
theorem giv_len (cs:List Nat) (m pl len:Nat) (cols:List (List Nat)) {n:Nat} (hn:n<=81):(W2 cs m pl len cols n).length<=164:=by
 unfold W2
 split
 ·show 1<=164
  omega
 ·have e:∀ l:List (List Nat),(l.flatMap fun o=>[jr cs m len (cols.getD n []) o,jr cs m len o (cols.getD n [])]).length=2 * l.length:=fun l=>by
   induction l with
   | nil=>rfl
   | cons x l ih=>
    rw[List.flatMap_cons,AI,ih]
    show 2+2 * l.length=2 * (l.length+1)
    omega
  rw[e,Ae]
  split <;> omega
structure Cl8 (T:Tb) (len:Nat) (B all:List (List Nat)) (n:Nat):Prop where
 hB:∀ b ∈ B,b ∈ all
 h0:∀ z ∈ l0 T.cs,qo T len all z ∈ all
 hW:∀ k,k < n->∀ z ∈ lw k T.cs,qo T len all z ∈ all
 le:n<=all.length
theorem Cl8.more {T:Tb} (g:jR T) {len:Nat} {B all more:List (List Nat)} {n:Nat} (h:Cl8 T len B all n):Cl8 T len B (all++more) n:=by
 have hle:=h.le
 refine⟨fun b hb=>Ah _ (h.hB b hb),fun z hz=>?_,fun k hk z hz=>?_,by rw[AI];omega⟩
 ·rw[qU T len more (fun n hn=>by rw[(Jz hz).1] at hn;cases hn)]
  exact Ah _ (h.h0 z hz)
 ·rw[qU T len more (fun n' hn=>by have:=(yN hz (fun c hc=>(g.cn c hc).2.1)).1 n' hn;omega)]
  exact Ah _ (h.hW k hk z hz)
structure SdH (T:Tb) (len:Nat) (B:List (List Nat)) (H0 H:Hp) (fl kd sm:Addr) (all scs:List (List Nat)) (fvs sxs:List V) (kvs:List (List Key×V)):Prop where
 s:zL H0 H
 hf:H fl=some (.lst fvs)
 pf:Paired (Z6 H) all fvs
 hk:H kd=some (.dT kvs)
 ek:kvs.map Prod.fst=all.map jK
 hs:H sm=some (.lst sxs)
 ps:Paired (Z6 H) scs sxs
 nd:all.Nodup
 sa:∀ c ∈ all,Sd T len B c
 ss:∀ c ∈ scs,Sd T len B c
theorem SdH.same {T:Tb} {len:Nat} {B:List (List Nat)} {H0 H H':Hp} {fl kd sm:Addr} {all scs:List (List Nat)} {fvs sxs:List V} {kvs:List (List Key×V)} (h:SdH T len B H0 H fl kd sm all scs fvs sxs kvs) (s:zL H H'):SdH T len B H0 H' fl kd sm all scs fvs sxs kvs:=⟨h.s.trans s,s _ _ h.hf,ColVs.tk (Tk.of s) h.pf,s _ _ h.hk,h.ek,s _ _ h.hs,ColVs.tk (Tk.of s) h.ps,h.nd,h.sa,h.ss⟩
def Xq:Sp:=fun vs H Q _=>∃ (v:V) (ct:Addr) (T:Tb) (cps:List (Str×List Nat)) (cvs:List V) (len:Nat),vs=[v,.ref ct,nV len]/\wb H v T/\jR T/\(jv T).Nodup/\T.cs.length<=4/\H ct=some (.tup cvs)/\PCs H cps cvs/\cps.length<=3/\(∀ p ∈ cps,zQ T.m len p.2)/\1<=len/\len<=9/\∀ l xs all H',zL H H'->H l=none->H' l=some (.lst xs)->Paired (Z6 H') all xs->all.Nodup->(∀ c ∈ all,Sd T len (cps.map Prod.snd) c)->(all.length<=81->∀ col,Sd T len (cps.map Prod.snd) col->col ∈ all)->all.length<=900->Q (.ref l) H'
def W5 (C:Addr):Sp:=fun vs H Q _=>∃ (e:Addr),vs=[.ref e,.int 5]/\H e=some (ExcO e (.ref C))/\∀ H',zL H H'->Q (.bl true) H'
theorem yP (ks:List (List Nat)) (col:List Nat):((ks.map fun k=>k.map nV).any fun c=>QG c (col.map nV))=decide (col ∈ ks):=by
 induction ks with
 | nil=>rfl
 | cons k ks ih=>
  rw[Ai,C8,ih,Xd]
  by_cases h:k=col
  ·subst h
   simp
  ·have h2:col ≠ k:=fun z=>h z.symm
   simp[h,h2]
theorem Wc {K:Fs} {H:Hp} {n:Nat} {ks:List (List Nat)} {bs:List V} (h:Paired (Z6 H) ks bs) (hn:∀ k ∈ ks,k.length=n):WG K H n (ks.map fun k=>k.map nV) bs:=by
 unfold WG
 induction h with
 | nil=>exact .nil
 | @cons k v ks bs r _ ih=>
  obtain⟨t,e,ht⟩:=r
  exact .cons ⟨t,e,SqT.of ht,by rw[AB];exact hn k As,Zw _⟩ (ih fun k hk=>hn k (Ay _ hk))
def JX:Sp:=fun vs H Q _=>∃ (p:Addr) (m len:Nat) (la:Addr) (LT:List Str),vs=[.ref p,nV m,nV len,.ref la]/\Wel H p/\1<=m/\m<=9/\len<=9/\H la=some (.lst (LT.map V.str))/\la ≠ p/\LT.length<=3/\∀ ct cps cvs H',Off p H H'->Wel H' p->H' ct=some (.tup cvs)->PCs H' cps cvs->cps.map Prod.fst=LT->(∀ q ∈ cps,zQ m len q.2)->Q (.ref ct) H'
def W6:Sp:=fun vs H Q _=>∃ (n m:Nat),vs=[nV n,nV m]/\n < m/\Q (.bl true) H
def JY (C:Addr):Sp:=fun vs H Q _=>∃ (v:V) (ct wt:Addr) (T:Tb) (cps:List (Str×List Nat)) (cvs:List V) (wish:List Nat),vs=[v,.ref ct,.ref wt]/\wb H v T/\jR T/\(jv T).Nodup/\T.cs.length<=4/\H ct=some (.tup cvs)/\PCs H cps cvs/\(∀ p ∈ cps,Ltr p.1/\zQ T.m wish.length p.2)/\H wt=some (.tup (wish.map nV))/\1<=wish.length/\wish.length<=9 /\
 (Sd T wish.length (cps.map Prod.snd) wish->∀ (all:List (List Nat)),(∀ col,col ∈ all ↔ Sd T wish.length (cps.map Prod.snd) col)->all.length<=81->∀ t9 t lt us L H',zL H H'->H' t9=some (.tup [.ref t,.non])->H' t=some (.tup [.str "said",.ref lt])->H' lt=some (.tup us)->Lns H' L us->ZB T (cps.map Prod.fst) L->1<=L.length->L.length<=81->Told T wish.length cps L wish->Q (.ref t9) H') /\
 (¬ Sd T wish.length (cps.map Prod.snd) wish->∀ t9 t ut bs ks H',zL H H'->H' t9=some (.tup [.ref t,.non])->H' t=some (.tup [.str "unsaid",.ref ut])->H' ut=some (.tup bs)->Paired (Z6 H') ks bs->ks.Pairwise (fun x y=>Z1 x y=true)->(∀ col,col ∈ ks ↔ Sd T wish.length (cps.map Prod.snd) col)->ks.length<=81->Q (.ref t9) H') /\
 (∀ (cs:List (List Nat)) t9 e H',zL H H'->cs.Nodup->(∀ c ∈ cs,Sd T wish.length (cps.map Prod.snd) c)->cs.length=82->H' t9=some (.tup [.non,.ref e])->H' e=some (ExcO e (.ref C))->Q (.ref t9) H')
def JZ:Sp:=fun vs H Q _=>∃ (p:Addr) (v:V) (T:Tb) (ct sl:Addr) (xs:List V) (all:List (List Nat)) (len:Nat),vs=[.ref p,v,.ref ct,.ref sl,nV len]/\Wel H p/\wb H v T/\jR T/\H sl=some (.lst xs)/\sl ≠ p/\Paired (Z6 H) all xs/\(∀ c ∈ all,zQ T.m len c)/\all.length<=900/\len<=9/\∀ wt wish H',Off p H H'->Wel H' p->H' wt=some (.tup (wish.map nV))->zQ T.m len wish->Q (.ref wt) H'
theorem gam {len:Nat}:∀ (cps:List (Str×List Nat)),(cps.map Prod.fst).Nodup->(∀ p ∈ cps,p.2.length=len)->∃ γ:Nat->Str->Nat,∀ p ∈ cps,p.2=(List.range len).map fun k=>γ k p.1
 | [],_,_=>⟨fun _ _=>0,fun p h=>by cases h⟩
 | q :: cps,nd,hl=>by
  rw[Ai,Bl] at nd
  obtain⟨γ,h⟩:=gam cps nd.2 fun p hp=>hl p (Ay _ hp)
  refine⟨fun k x=>if x=q.1 then Tn.at' q.2 k else γ k x,fun p hp=>?_⟩
  rcases Al.mp hp with rfl | hp
  ·have e:=rng_at p.2
   rw[hl p (As ..)] at e
   rw[<- e]
   refine Ao fun k hk=>?_
   dsimp only
   rw[if_pos rfl,e]
  ·have ne:¬ p.1=q.1:=fun z=>nd.1 (z ▸ AW.mpr ⟨p,hp,rfl⟩)
   rw[h p hp]
   refine Ao fun k hk=>?_
   dsimp only
   rw[if_neg ne]
def spLR:Sp:=fun vs H Q _=>∃ (v:V) (ct lt wt:Addr) (T:Tb) (cps:List (Str×List Nat)) (cvs us:List V) (L:List Ln) (wish:List Nat),vs=[v,.ref ct,.ref lt,.ref wt]/\wb H v T/\jR T/\(jv T).Nodup/\T.cs.length<=4/\H ct=some (.tup cvs)/\PCs H cps cvs/\(cps.map Prod.fst).Nodup/\cps.length<=3/\(∀ p ∈ cps,zQ T.m wish.length p.2)/\H lt=some (.tup us)/\Lns H L us/\ZB T (cps.map Prod.fst) L/\1<=L.length/\L.length<=81/\Told T wish.length cps L wish/\H wt=some (.tup (wish.map nV))/\1<=wish.length/\wish.length<=9/\∀ H',zL H H'->Q (.bl true) H'
theorem Xr {H:Hp}:∀ {cps:List (Str×List Nat)} {cvs:List V},PCs H cps cvs->∃ kps:List (Key×V),Prs H cvs kps/\kps.map Prod.fst=cps.map (fun p=>(Sum.inr p.1:Key))/\∀ p ∈ cps,∃ u,((Sum.inr p.1:Key),V.ref u) ∈ kps/\H u=some (.tup (p.2.map nV))
 | _,_,.nil=>⟨[],.nil,rfl,fun p h=>by cases h⟩
 | _,_,.cons ⟨t,u,e1,e2,e3⟩ r=>by
  obtain⟨kps,h1,h2,h3⟩:=Xr r
  refine⟨(Sum.inr _,.ref u) :: kps,.cons ⟨t,e1,e2⟩ h1,by rw[Ai,Ai,h2],fun p hp=>?_⟩
  rcases Al.mp hp with rfl | hp
  ·exact⟨u,As,e3⟩
  ·obtain⟨u',q1,q2⟩:=h3 p hp
   exact⟨u',Ay _ q1,q2⟩
theorem inr_nd {xs:List Str} (h:xs.Nodup):(xs.map (fun x=>(Sum.inr x:Key))).Nodup:=by
 unfold List.Nodup at h ⊢
 rw[BP]
 exact h.imp fun hab e=>hab (Sum.inr.inj e)
def Nmd (H:Hp) (cs:List Cn) (ps:List (Key×V)):Prop:=ps.map Prod.fst=cs.map (fun c=>(Sum.inr c.nm:Key))/\∀ c ∈ cs,∃ b u,((Sum.inr c.nm:Key),V.ref b) ∈ ps/\H b=some (.tup [nV c.pl,.ref u])/\H u=some (.tup (c.cs.map nV))
theorem Nmd.tk {H H':Hp} (k:Tk H H') {cs:List Cn} {ps:List (Key×V)} (h:Nmd H cs ps):Nmd H' cs ps:=⟨h.1,fun c hc=>by
 obtain⟨b,u,h1,h2,h3⟩:=h.2 c hc
 exact⟨b,u,h1,k _ _ h2,k _ _ h3⟩⟩
theorem Nmd.snoc {H:Hp} {cs:List Cn} {ps:List (Key×V)} {c:Cn} {b u:Addr} (h:Nmd H cs ps) (h2:H b=some (.tup [nV c.pl,.ref u])) (h3:H u=some (.tup (c.cs.map nV))):Nmd H (cs++[c]) (ps++[((Sum.inr c.nm:Key),V.ref b)]):=by
 refine⟨by rw[AM,AM,h.1];rfl,fun d hd=>?_⟩
 rcases AV.mp hd with hd | hd
 ·obtain⟨b',u',q1,q2,q3⟩:=h.2 d hd
  exact⟨b',u',Ah _ q1,q2,q3⟩
 ·rw[AJ.mp hd]
  exact⟨b,u,Ac _ As,h2,h3⟩
theorem yQ {H:Hp} {D:Addr} {o:HO}:∀ {rs:List (List Nat)} {ys:List V},Paired (fun r v=>∃ a,a ≠ D/\v=.ref a/\H a=some (.lst (r.map nV))) rs ys->Paired (fun r v=>∃ a,a ≠ D/\v=.ref a/\upd H D o a=some (.lst (r.map nV))) rs ys
 | _,_,.nil=>.nil
 | _,_,.cons ⟨a,n,e,q⟩ r=>.cons ⟨a,n,e,by rw[zx n];exact q⟩ (yQ r)
theorem Xs {H H':Hp} {D:Addr} (s:zL H H') {rs:List (List Nat)} {ys:List V} (h:Paired (fun r v=>∃ a,a ≠ D/\v=.ref a/\H a=some (.lst (r.map nV))) rs ys):Paired (fun r v=>∃ a,a ≠ D/\v=.ref a/\H' a=some (.lst (r.map nV))) rs ys:=Paired.mapP h fun r v ⟨a,n,e,q⟩=>⟨a,n,e,s _ _ q⟩
theorem Paired.snoc9 {α β:Type} {F:α->β->Prop} {a:α} {b:β} (h:F a b):∀ {l:List α} {m:List β},Paired F l m->Paired F (l++[a]) (m++[b])
 | _,_,.nil=>.cons h .nil
 | _,_,.cons r t=>.cons r (Paired.snoc9 h t)
def Q3:Sp:=fun vs H Q _=>∃ (p:Addr),vs=[.ref p]/\Wel H p/\∀ H',Off p H H'->Q (.bl true) H'
theorem at8 {v:Nat} (h:v < 8):∃ n:Nat,atI [V.int 4,V.int 4,V.int 4,V.int 4,V.int 4,V.int 4,V.int 4,V.int 9] (v:Int)=some (nV n)/\1<=n/\n<=9:=by
 have e:v=0\/v=1\/v=2\/v=3\/v=4\/v=5\/v=6\/v=7:=by omega
 rcases e with rfl | rfl | rfl | rfl | rfl | rfl | rfl | rfl
 all_goals first | exact⟨4,rfl,by decide,by decide⟩ | exact⟨9,rfl,by decide,by decide⟩
theorem at10 {v:Nat} (h:v<=9):∃ n:Nat,atI [V.int 1,V.int 9,V.int 5,V.int 3,V.int 2,V.int 1,V.int 1,V.int 1,V.int 1,V.int 1] (v:Int)=some (nV n)/\1<=n/\n<=9:=by
 have e:v=0\/v=1\/v=2\/v=3\/v=4\/v=5\/v=6\/v=7\/v=8\/v=9:=by omega
 rcases e with rfl | rfl | rfl | rfl | rfl | rfl | rfl | rfl | rfl | rfl
 all_goals first | exact⟨1,rfl,by decide,by decide⟩ | exact⟨9,rfl,by decide,by decide⟩ | exact⟨5,rfl,by decide,by decide⟩ | exact⟨3,rfl,by decide,by decide⟩ | exact⟨2,rfl,by decide,by decide⟩
theorem hide {R:TS} {D:Wr} {P:TS->Wr->Prop} {G:Prop} (main:P R D->G) (r:P R D):G:=main r
def fewT (T:Tb):Tb:=⟨T.m,T.ws,T.cs.filter fun c=>decide (c.pl < 2)⟩
theorem Xt {T:Tb} (g:jR T):jR (fewT T):=⟨g.m1,g.m9,g.ris,g.wlt,Aq (C6 _ _) g.cl,fun c hc=>g.cn c (DG.mp hc).1⟩
theorem fewT_nd {T:Tb} (h:(jv T).Nodup):(jv (fewT T)).Nodup:=h.sublist ((List.filter_sublist).map _)
theorem catA9 {K:Fs} {H:Hp} {Q:VK} {a b:Addr} {xs ys:List V} (ha:H a=some (.tup xs)) (hb:H b=some (.tup ys)) (hz:xs.length+ys.length<=1000) (q:∀ p H',zL H H'->H' p=some (.tup (xs++ys))->Q (.ref p) H'):rCatA K (.ref a) (.ref b) H Q:=by
 refine⟨a,b,xs,ys,rfl,rfl,SqT.of ha,SqT.of hb,zt hz,fun e=>?_,fun _ e=>?_,fun _ _ p hp=>?_⟩
 ·exact q b H (fun _ _ e=>e) (by rw[hb,e];rfl)
 ·exact q a H (fun _ _ e=>e) (by rw[ha,e,Ap])
 ·exact q p _ (ze hp _) zd
theorem pqz9:∀ k,(([(Str.ofString "p"),(Str.ofString "q"),(Str.ofString "z")]:List Str).take k).Nodup/\∀ x ∈ ([(Str.ofString "p"),(Str.ofString "q"),(Str.ofString "z")]:List Str).take k,Ltr x:=fun k=>by
 refine⟨List.Nodup.sublist (DT _ _) (by ac_rfl),fun x hx=>?_⟩
 have hx:=BU hx
 simp only[List.mem_cons,List.not_mem_nil,or_false] at hx
 rcases hx with rfl | rfl | rfl
 ·exact Xi (c:=112) (by ac_rfl) (by decide) (by decide)
 ·exact Xi (c:=113) (by ac_rfl) (by decide) (by decide)
 ·exact Xi (c:=122) (by ac_rfl) (by decide) (by decide)
def top (i:Nat):Stmt:=PySem.Challenge.pw_truthgrades_k25_said_or_unsaid.main.body.getD i (.Pass ⟨0,0,0,0⟩)
structure Gb (mg:Str->Option Value):Prop where
 «abs» : mg "abs" = none
 «range» : mg "range" = none
 «tuple» : mg "tuple" = none
 «list» : mg "list" = none
 «isinstance» : mg "isinstance" = none
 «int» : mg "int" = none
 «str» : mg "str" = none
 «len» : mg "len" = none
 «min» : mg "min" = none
 «max» : mg "max" = none
 «all» : mg "all" = none
 «any» : mg "any" = none
 «bool» : mg "bool" = none
 «divmod» : mg "divmod" = none
 «dict» : mg "dict" = none
 «sorted» : mg "sorted" = none
 «reversed» : mg "reversed" = none
 «zip» : mg "zip" = none
 «ValueError» : mg "ValueError" = none
 «MOST_COLUMNS» : ∃ u,mg "MOST_COLUMNS" = some u/\RelV (.int 81) u
structure Cl (K:Fs) (mg:Str->Option Value) (c:Nat->Addr):Prop where
 g_GradeError:mg "GradeError" = some (.ref (c 0))
 g_NoFraction:mg "NoFraction" = some (.ref (c 1))
 g_NoTable:mg "NoTable" = some (.ref (c 2))
 g_NoSaying:mg "NoSaying" = some (.ref (c 3))
 g_NoName:mg "NoName" = some (.ref (c 4))
 g_NoLetter:mg "NoLetter" = some (.ref (c 5))
 g_TooMany:mg "TooMany" = some (.ref (c 6))
 g_NoKind:mg "NoKind" = some (.ref (c 7))
 g_NoCount:mg "NoCount" = some (.ref (c 8))
 g_NoRow:mg "NoRow" = some (.ref (c 9))
 g_NoKept:mg "NoKept" = some (.ref (c 10))
 x_TooMany:PySem.W.excIn K (c 6) [.type "ValueError",.type "Exception",.type "BaseException",.type "object"] "ValueError.__new__" = true
 m_TooMany:PySem.W.exmOne K (.ref (c 6)) (.ref (c 0))=some true
 h_TooMany:qK K (c 6)=true
 k_ValueError:PySem.W.kitOne K (.ref (c 6)) (.type "ValueError")=some true
 k_GradeError:PySem.W.kitOne K (.ref (c 6)) (.ref (c 0))=some true
 k_NoFraction:PySem.W.kitOne K (.ref (c 6)) (.ref (c 1))=some false
 k_NoTable:PySem.W.kitOne K (.ref (c 6)) (.ref (c 2))=some false
 k_NoSaying:PySem.W.kitOne K (.ref (c 6)) (.ref (c 3))=some false
 k_NoName:PySem.W.kitOne K (.ref (c 6)) (.ref (c 4))=some false
 k_NoLetter:PySem.W.kitOne K (.ref (c 6)) (.ref (c 5))=some false
 k_TooMany:PySem.W.kitOne K (.ref (c 6)) (.ref (c 6))=some true
 k_NoKind:PySem.W.kitOne K (.ref (c 6)) (.ref (c 7))=some false
 k_NoCount:PySem.W.kitOne K (.ref (c 6)) (.ref (c 8))=some false
 k_NoRow:PySem.W.kitOne K (.ref (c 6)) (.ref (c 9))=some false
 k_NoKept:PySem.W.kitOne K (.ref (c 6)) (.ref (c 10))=some false
abbrev zU:Stmt:=top 14
theorem jH:zI ["text"] ["text"] (zj zU):=⟨rfl,rfl,rfl,by ac_rfl,rfl,by ac_rfl,by ac_rfl⟩
section
variable {P:Program} {w:World} {K:Fs} {mg:Str->Option Value} {base:Heap} {f:Addr} {fd:FuncData}
theorem jI (F:Fun K "has_small_letters_alone" "has_small_letters_alone" zU f fd) (gb:Gb mg) {c:Nat->Addr} (cl:Cl K mg c):jO P w K mg base CX0 1 f fd ["text"] WV:=by
 refine F.ok jH (fun vs H Q E h=>?_) (fun cdv A outer s H vs Q E hr h=>?_)
 ·obtain⟨x,rfl,_⟩:=h
  rfl
 obtain⟨x,rfl,hs,hl,q⟩:=h
 have nd0:(["sign"]:List Str).Nodup:=by ac_rfl
 refine⟨_,(@zm _ _ _ (@zJ _ _ _ _ (@zq _ _ _ _ _ _ _ _ _ (@QI _ K rfl rfl) rfl gb.all YV (@za _ _ _ _ _ (@zY _ ["sign"] [none] _ _ _ _ _ _ _ _ _ _ (by exact (show zN ["text"] (zj zU) ["sign"] [none] _ from⟨rfl,by ac_rfl,by ac_rfl,by ac_rfl,by ac_rfl,rfl,by ac_rfl⟩)) rfl (@pi_str _ _ _ _ (@pw _ 0 _ _ rfl rfl)) (fun _ _ _ _=>(@pgl _ 0 _ _ nd0 rfl rfl)) (fun _ _ _ _=>(@qh _)) (fun _ _ _ _=>(@pe_chain _ _ _ _ _ _ _ _ _ _ _ _ (@wF _) (@wF _) (@qF _ _ _ _) (@pw _ 0 _ _ rfl rfl) (@qF _ _ _ _) (by with_unfolding_all rfl))) (by intro _;rfl)) (@zf _) rfl) (by decide) (by decide) rfl rfl))),?_⟩
 refine⟨_,rfl,x,rfl,fun D hD=>?_⟩
 refine map_str (h:=fun _=>.bl true) (by omega) hD (fun c hc H' Q' s1 q'=>?_) (fun H' s1 hD'=>?_)
 ·obtain⟨c0,c1⟩:=hs c hc
  refine⟨_,rfl,_,_,rfl,rfl,_,rfl,?_⟩
  have e1:(!decide ((Str.mk #[c]).cps.toList < (Str.ofString "a").cps.toList))=true:=by
   have:(Str.ofString "a").cps.toList=[97]:=by ac_rfl
   rw[this]
   simp[List.cons_lt_cons_iff]
   omega
  have e2:(!decide ((Str.ofString "z").cps.toList < (Str.mk #[c]).cps.toList))=true:=by
   have:(Str.ofString "z").cps.toList=[122]:=by ac_rfl
   rw[this]
   simp[List.cons_lt_cons_iff]
   omega
  rw[if_pos e1]
  refine⟨_,_,rfl,rfl,?_⟩
  rw[e2]
  exact q' _ zL.rfl'
 ·rw[trues] at hD'
  refine⟨D,_,rfl,SqL.of hD',?_⟩
  rw[Y4]
  exact q _ s1
abbrev ZN:Stmt:=top 13
theorem Wd:zI ["thing"] ["thing"] (zj ZN):=⟨rfl,rfl,rfl,by ac_rfl,rfl,by ac_rfl,by ac_rfl⟩
theorem We (F:Fun K "is_letter" "is_letter" ZN f fd) (gb:Gb mg) {c:Nat->Addr} (cl:Cl K mg c) (d_has_small_letters_alone:Def P w K mg base 1 "has_small_letters_alone" ["text"] WV):jO P w K mg base CX0 2 f fd ["thing"] yG:=by
 refine F.ok Wd (fun vs H Q E h=>?_) (fun cdv A outer s H vs Q E hr h=>?_)
 ·obtain⟨v,l,rfl,_⟩:=h
  rfl
 obtain⟨v,l,rfl,ih,hl,q⟩:=h
 refine⟨_,(@zm _ _ _ (@zJ _ _ _ _ (@wd _ _ _ _ _ _ _ (@zq _ _ _ _ _ _ _ _ _ (@qM _ K rfl) rfl gb.isinstance zu (@za _ _ _ _ _ (@pw _ 0 _ _ rfl rfl) (@za _ _ _ _ _ (@jX _ _ (.ty "str") _ _ rfl gb.str YX rfl (by decide) (by decide)) (@zf _) rfl) rfl) (by decide) (by decide) rfl rfl) (@wd _ _ _ _ _ _ _ (@Zl _ _ _ _ _ _ _ _ (@Zh _) (@zq _ _ _ _ _ _ _ _ _ (@zS _ K rfl) rfl gb.len qH (@za _ _ _ _ _ (@pw _ 0 _ _ rfl rfl) (@zf _) rfl) (by decide) (by decide) rfl rfl) (@zh _ _ _ _) (@zM _ _ (by decide) (by decide))) (@pe_one _ _ _ _ _ (@zG _ _ _ _ _ _ _ _ _ _ _ d_has_small_letters_alone hr (by omega) rfl (@za _ _ _ _ _ (@pw _ 0 _ _ rfl rfl) (@zf _) rfl) (by decide) rfl rfl)))))),?_⟩
 refine⟨_,rfl,?_⟩
 cases l with
 | inl x=>
  obtain rfl:v=.str x:=ih
  obtain⟨l1,sm⟩:=hl x rfl
  refine⟨_,_,_,true,rfl,.str _,ju "str",true,rfl,J8 ?_⟩
  refine⟨_,rfl,_,x.length,rfl,⟨zt (by omega),rfl⟩,rfl,true,?_,J8 ?_⟩
  ·rw[l1]
   rfl
  ·exact⟨_,rfl,x,rfl,sm,by omega,fun H' s1=>q H' s1⟩
 | inr z=>
  obtain⟨t,rfl,ht⟩:=ih
  exact⟨_,_,_,false,rfl,.tup ht,Y5 (K:=K) (.tup []),false,rfl,JF (q H (zL.refl H))⟩
abbrev jS:Stmt:=top 16
theorem qV:zI ["lines", "needed", "waiting", "number"] ["lines"] (zj jS):=⟨rfl,rfl,rfl,by ac_rfl,rfl,by ac_rfl,by ac_rfl⟩
theorem Q4 (F:Fun K "needed_lines" "needed_lines" jS f fd) (gb:Gb mg) {c:Nat->Addr} (cl:Cl K mg c) (d_is_letter:Def P w K mg base 2 "is_letter" ["thing"] yG):jO P w K mg base CX0 3 f fd ["lines"] Xe:=by
 refine F.ok qV (fun vs H Q E h=>?_) (fun cdv A outer s H vs Q E hr h=>?_)
 ·obtain⟨lt,us,ls,T,LT,rfl,_⟩:=h
  rfl
 obtain⟨lt,us,ls,T,LT,rfl,hlt,hls,hG,g2,hL,l1,l20,q⟩:=h
 refine⟨_,(@zg _ _ _ _ _ (@zy _ _ 1 _ _ _ _ qV.nd rfl (Or.inl rfl) (@yw _ _) rfl (by walk_at "f")) (@zg _ _ _ _ _ (@zy _ _ 2 _ _ _ _ qV.nd rfl (Or.inl rfl) (@qm _ _ _ _ (@za _ _ _ _ _ (@zK _ _ _ _ _ _ _ _ (@yh _) (@zq _ _ _ _ _ _ _ _ _ (@zS _ K rfl) rfl gb.len qH (@za _ _ _ _ _ (@pw _ 0 _ _ rfl rfl) (@zf _) rfl) (by decide) (by decide) rfl rfl) (@zh _ _ _ _)) (@zf _) rfl)) rfl (by walk_at "f")) (@zg _ _ _ _ _ (@JC _ _ _ _ _ _ BF (@zA _ _ _ _ _ _ _ _ (@op_gt _) (@zq _ _ _ _ _ _ _ _ _ (@zS _ K rfl) rfl gb.len qH (@za _ _ _ _ _ (@pw _ 2 _ _ rfl rfl) (@zf _) rfl) (by decide) (by decide) rfl rfl) (@zh _ _ _ _) (@zM _ _ (by decide) (by decide))) (@zg _ _ _ _ _ (@zy _ _ 3 _ _ _ _ qV.nd rfl (Or.inl rfl) (@kpe_bm0 _ K _ _ _ _ _ _ _ _ Av PySem.F.slot_list_pop PySem.F.type_list_pop (@mt_pop _) (@pw _ 2 _ _ rfl rfl) rfl rfl rfl) rfl (by walk_at "f")) (@zm _ _ _ (@qO _ _ _ _ _ _ _ _ (@zA _ _ _ _ _ _ _ _ (@xm _ _ hr) (@pw _ 3 _ _ rfl rfl) (@pw _ 1 _ _ rfl rfl) (by with_unfolding_all rfl)) (@zg _ _ _ _ _ (@xk _ _ _ _ _ _ _ _ _ _ hr (@pw _ 1 _ _ rfl rfl) (@pw _ 3 _ _ rfl rfl) (@Qv _ _ _ _) rfl) (@zm _ _ _ (@qO _ _ _ _ _ _ _ _ (@Qf _ _ _ _ (@Zg _ _ _ (@zG _ _ _ _ _ _ _ _ _ _ _ d_is_letter hr (by omega) rfl (@za _ _ _ _ _ (@zO _ _ _ _ _ _ _ (@zr _ K rfl) (@pw _ 0 _ _ rfl rfl) (@pw _ 3 _ _ rfl rfl) (fun _ _=>rfl)) (@zf _) rfl) (by decide) rfl rfl) (by intro _;rfl))) (@zm _ _ _ (@qJ _ _ _ _ (@jU _ K _ _ _ _ _ _ _ _ _ _ _ Av Ce Cd (@ZS _) (@pw _ 2 _ _ rfl rfl) (@za _ _ _ _ _ (@Ye _ K _ _ _ _ _ _ rfl gb.list rfl gb.reversed (@za _ _ _ _ _ (@qA _ _ _ _ _ _ _ _ _ _ (@kslT _ K rfl) (@zO _ _ _ _ _ _ _ (@zr _ K rfl) (@pw _ 0 _ _ rfl rfl) (@pw _ 3 _ _ rfl rfl) (fun _ _=>rfl)) (@qR _ _ _ (@zh _ _ _ _)) (@jo _)) (@zf _) rfl) rfl rfl rfl rfl) (@zf _) rfl) rfl rfl rfl rfl rfl rfl) rfl)) (@zX _)))) (@zX _))))) (@zm _ _ _ (@zJ _ _ _ _ (@zC _ _ _ _ _ _ _ _ _ (@Yi _ rfl) rfl gb.list ZI (@za _ _ _ _ _ (@pw _ 1 _ _ rfl rfl) (@zf _) rfl) (by decide) (by decide) rfl rfl)))))),?_⟩
 refine fun nd hnd=>?_
 have n1:=ze hnd (.dK [])
 have hul:=AQ hls
 refine⟨_,rfl,_,_,rfl,(hlt.same n1).len,_,_,rfl,rfl,zt (by show 1<=1000;decide),fun wa hwa=>?_⟩
 dsimp only
 have ew:V.int (((us.length:Nat):Int) - 1)=nV (ls.length - 1):=by
  show V.int _=V.int _
  congr 1
  omega
 rw[ew]
 have n2:=ze hwa (.lst [nV (ls.length - 1)])
 have nw:nd ≠ wa:=zE zd hwa
 refine⟨fun m σ H'=>(∃ x3,σ=[some (.ref lt),some (.ref nd),some (.ref wa),x3])/\zL H H'/\∃ ns ws:List Nat,H' nd=some (.dK (nd1 ns))/\H' wa=some (.lst (ws.map nV))/\ns.Nodup/\(∀ n ∈ ns,n < ls.length)/\(∀ n ∈ ws,n < ls.length)/\(ls.length - 1 ∈ ns\/ls.length - 1 ∈ ws)/\(∀ n ∈ ns,∀ z,ls[n]? = some (.inr z)->∀ k ∈ z.2,k ∈ ns\/k ∈ ws)/\m=3 * (ls.length - ns.length)+ws.length/\m<=300,⟨_,⟨_,rfl⟩,n1.trans n2,[],[ls.length - 1],n2 _ _ zd,zd,.nil,(fun n hn=>by cases hn),(fun n hn=>by rw[AJ.mp hn];omega),.inr (AJ.mpr rfl),(fun n hn=>by cases hn),rfl,by show 3 * (ls.length - 0)+1<=300;omega⟩,?_⟩
 rintro m σ H1 ⟨⟨x3,rfl⟩,s1,ns,ws,hnd1,hwa1,nN,nlt,wlt,hlast,hcl,hm,m100⟩
 have nsl:=Tn.nodup_len ls.length ns nN nlt
 refine⟨_,rfl,_,_,rfl,.inl ⟨_,SqL.of hwa1,rfl⟩,_,_,rfl,rfl,_,rfl,?_⟩
 rw[AB]
 rcases Dq ws with rfl | ⟨ws,k,rfl⟩
 ·refine Wz rfl ?_
  refine⟨_,rfl,nd,_,rfl,hnd1,by unfold nd1;rw[List.length_map];omega,fun l hl=>?_⟩
  rw[nd1_keys]
  refine q l ns _ (s1.trans (ze hl _)) zd ⟨nN,nlt,hlast.elim id (fun h=>by cases h),fun n hn z hz j hj=>(hcl n hn z hz j hj).elim id (fun h=>by cases h)⟩
 rw[Dr] at *
 refine y8 (Ak (by rw[AI];show (0:Int) < ((ws.length+1:Nat):Int);omega)) ?_
 rw[AI] at hm
 have hm:m=3 * (ls.length - ns.length)+(ws.length+1):=hm
 have klt:=wlt k (by simp)
 have wlt':∀ n ∈ ws,n < ls.length:=fun n hn=>wlt n (Ah _ hn)
 refine⟨fun σ' H'=>∃ m',m' < m/\((∃ x3,σ'=[some (.ref lt),some (.ref nd),some (.ref wa),x3])/\zL H H'/\∃ ns ws:List Nat,H' nd=some (.dK (nd1 ns))/\H' wa=some (.lst (ws.map nV))/\ns.Nodup/\(∀ n ∈ ns,n < ls.length)/\(∀ n ∈ ws,n < ls.length)/\(ls.length - 1 ∈ ns\/ls.length - 1 ∈ ws)/\(∀ n ∈ ns,∀ z,ls[n]? = some (.inr z)->∀ k ∈ z.2,k ∈ ns\/k ∈ ws)/\m'=3 * (ls.length - ns.length)+ws.length/\m'<=300),fun σ' H' h=>h,?_⟩
 refine⟨_,rfl,.inl ⟨rfl,_,SqL.of hwa1⟩,wa,_,nV k,rfl,rfl,hwa1,by simp,?_⟩
 rw[show (List.map nV (ws++[k])).dropLast=ws.map nV by rw[AM];simp]
 have hnd2:(upd H1 wa (.lst (ws.map nV))) nd=some (.dK (nd1 ns)):=by rw[zx nw];exact hnd1
 have s2:zL H (upd H1 wa (.lst (ws.map nV))):=s1.put (n1.free hwa)
 have hwa2:(upd H1 wa (.lst (ws.map nV))) wa=some (.lst (ws.map nV)):=zd
 generalize upd H1 wa (.lst (ws.map nV))=H2 at *
 refine⟨_,rfl,_,rfl,nd,_,Sum.inl (k:Int),rfl,rfl,hnd2,?_⟩
 rw[WW]
 by_cases hk:k ∈ ns
 ·rw[Ak hk]
  refine⟨_,rfl,JF ⟨m - 1,by omega,⟨_,rfl⟩,s2,ns,ws,hnd2,hwa2,nN,nlt,wlt',?_,fun n hn z hz j hj=>?_,by omega,by omega⟩⟩
  ·rcases hlast with h | h
   ·exact .inl h
   ·rcases AV.mp h with h | h
    ·exact .inr h
    ·rw[AJ.mp h]
     exact .inl hk
  ·rcases hcl n hn z hz j hj with h | h
   ·exact .inl h
   ·rcases AV.mp h with h | h
    ·exact .inr h
    ·rw[AJ.mp h]
     exact .inl hk
 rw[AY hk]
 refine⟨_,rfl,J8 ?_⟩
 have nN':(ns++[k]).Nodup:=Bu.mpr ⟨nN,by simp,fun a ha b hb e=>hk (by rw[<- List.mem_singleton.mp hb,<- e];exact ha)⟩
 have nlt':∀ n ∈ ns++[k],n < ls.length:=fun n hn=>by
  rcases AV.mp hn with h | h
  ·exact nlt n h
  ·rw[AJ.mp h]
   exact klt
 have nsl':=Tn.nodup_len ls.length (ns++[k]) nN' nlt'
 rw[AI] at nsl'
 have nsl':ns.length+1<=ls.length:=nsl'
 refine⟨_,rfl,_,rfl,nd,_,Sum.inl (k:Int),rfl,rfl,hnd2,by unfold nd1;rw[List.length_map];exact zo (by omega),?_⟩
 rw[nd1_put hk]
 have s3:zL H (upd H2 nd (.dK (nd1 (ns++[k])))):=s2.put hnd
 have hnd3:(upd H2 nd (.dK (nd1 (ns++[k])))) nd=some (.dK (nd1 (ns++[k]))):=zd
 have hwa3:(upd H2 nd (.dK (nd1 (ns++[k])))) wa=some (.lst (ws.map nV)):=by rw[zx (Af nw)];exact hwa2
 generalize upd H2 nd (.dK (nd1 (ns++[k])))=H3 at *
 have hlk:ls[k]? = some ls[k]:=AD klt
 generalize ls[k]=l at hlk
 have huk:us[k]? = some us[k]:=AD (by omega)
 generalize us[k]=u at huk
 have iu:=Paired.at hls k _ _ hlk huk
 have last':ls.length - 1 ∈ ns++[k]\/ls.length - 1 ∈ ws:=by
  rcases hlast with h | h
  ·exact .inl (Ah _ h)
  ·rcases AV.mp h with h | h
   ·exact .inr h
   ·exact .inl (Ac _ h)
 have old:∀ n ∈ ns,∀ z,ls[n]? = some (.inr z)->∀ j ∈ z.2,j ∈ ns++[k]\/j ∈ ws:=fun n hn z hz j hj=>by
  rcases hcl n hn z hz j hj with h | h
  ·exact .inl (Ah _ h)
  ·rcases AV.mp h with h | h
   ·exact .inr h
   ·exact .inl (Ac _ h)
 refine⟨_,rfl,_,rfl,(hlt.same s3).ix huk ?_⟩
 refine⟨u,l,rfl,iu.tk (Tk.of s3),hG.ltr hL hlk,fun H4 s4=>⟨_,rfl,?_⟩⟩
 cases l with
 | inl x=>
  have dec:3 * (ls.length - (ns++[k]).length)+ws.length < m:=by
   rw[AI]
   show 3 * (ls.length - (ns.length+1))+ws.length < m
   omega
  refine JF ⟨3 * (ls.length - (ns++[k]).length)+ws.length,dec,⟨_,rfl⟩,s3.trans s4,ns++[k],ws,s4 _ _ hnd3,s4 _ _ hwa3,nN',nlt',wlt',last',fun n hn z hz j hj=>?_,rfl,by omega⟩
  rcases AV.mp hn with h | h
  ·exact old n h z hz j hj
  ·rw[AJ.mp h,hlk] at hz
   cases hz
 | inr z=>
  refine J8 ?_
  obtain⟨t,rfl,ht⟩:=iu
  have ht4:=(s3.trans s4) _ _ ht
  obtain⟨zb,c,hc,cn,cp⟩:=hG k _ hlk
  have z2:z.2.length<=2:=by
   have:=g2 c hc
   omega
  have dec:3 * (ls.length - (ns++[k]).length)+(ws++z.2.reverse).length < m:=by
   rw[AI,AI,Cb]
   show 3 * (ls.length - (ns.length+1))+(ws.length+z.2.length) < m
   omega
  refine⟨_,rfl,.inl ⟨rfl,_,SqL.of (s4 _ _ hwa3)⟩,_,rfl,_,rfl,(hlt.same (s3.trans s4)).ix huk ⟨_,rfl,?_⟩⟩
  refine wT ht4 fun t5 H5 s5 ht5=>?_
  rw[Z4 (by simp)] at ht5
  refine⟨t5,z.2.map nV,rfl,SqT.of ht5,by rw[AB];omega,fun l6 hl6=>?_⟩
  have n6:=ze hl6 (.lst (z.2.map nV).reverse)
  have s6:=s4.trans (s5.trans n6)
  have hw6:=s6 _ _ hwa3
  refine⟨wa,l6,_,_,rfl,rfl,hw6,zd,by rw[AB,Cb,AB];exact zt (by omega),⟨3 * (ls.length - (ns++[k]).length)+(ws++z.2.reverse).length,dec,⟨_,rfl⟩,(s3.trans s6).put (n1.free hwa),ns++[k],ws++z.2.reverse,?_,?_,nN',nlt',fun n hn=>?_,?_,fun n hn z' hz' j hj=>?_,rfl,by omega⟩⟩
  ·rw[zx nw]
   exact s6 _ _ hnd3
  ·rw[zd,AM,List.map_reverse]
  ·rcases AV.mp hn with h | h
   ·exact wlt' n h
   ·have:=zb n (List.mem_reverse.mp h)
    omega
  ·exact last'.imp id (Ah _)
  ·rcases AV.mp hn with h | h
   ·exact (old n h z' hz' j hj).imp id (Ah _)
   ·rw[AJ.mp h,hlk] at hz'
    cases hz'
    exact .inr (Ac _ (List.mem_reverse.mpr hj))
abbrev qW:Stmt:=top 18
theorem Qj:zI ["H"] ["H"] (zj qW):=⟨rfl,rfl,rfl,by ac_rfl,rfl,by ac_rfl,by ac_rfl⟩
theorem Qk (F:Fun K "cells_by_name" "cells_by_name" qW f fd) (gb:Gb mg) {c:Nat->Addr} (cl:Cl K mg c):jO P w K mg base CX0 1 f fd ["H"] spCbn:=by
 refine F.ok Qj (fun vs H Q E h=>?_) (fun cdv A outer s H vs Q E hr h=>?_)
 ·obtain⟨v,T,rfl,_⟩:=h
  rfl
 obtain⟨v,T,rfl,ia,gT,nT,q⟩:=h
 have nd0:(["name", "places", "cells"]:List Str).Nodup:=by ac_rfl
 refine⟨_,(@zm _ _ _ (@zJ _ _ _ _ (@xq _ _ hr _ _ _ _ rfl gb.dict (@za _ _ _ _ _ (@zY _ ["name", "places", "cells"] [none,none,none] _ _ _ _ _ _ _ _ _ _ (by exact (show zN ["H"] (zj qW) ["name", "places", "cells"] [none,none,none] _ from⟨rfl,by ac_rfl,by ac_rfl,by ac_rfl,by ac_rfl,rfl,by ac_rfl⟩)) rfl (@qS _ K _ _ _ (@zO _ _ _ _ _ _ _ (@zr _ K rfl) (@pw _ 0 _ _ rfl rfl) (@zh _ _ _ _) (fun _ _=>rfl)) rfl) (fun _ _ _ _=>(@jp _ K _ _ _ _ 3 rfl (@zD _ _ _ _ _ (@pgl _ 0 _ _ nd0 rfl rfl) (@zD _ _ _ _ _ (@pgl _ 1 _ _ nd0 rfl rfl) (@zD _ _ _ _ _ (@pgl _ 2 _ _ nd0 rfl rfl) (@jn _) rfl) rfl) rfl) rfl rfl rfl)) (fun _ _ _ _=>(@qh _)) (fun _ _ _ _=>(@qx _ _ _ _ _ (@za _ _ _ _ _ (@qx _ _ _ _ _ (@za _ _ _ _ _ (@pw _ 0 _ _ rfl rfl) (@za _ _ _ _ _ (@pw _ 1 _ _ rfl rfl) (@zf _) rfl) rfl)) (@za _ _ _ _ _ (@pw _ 2 _ _ rfl rfl) (@zf _) rfl) rfl))) (by intro _;rfl)) (@zf _) rfl) rfl rfl))),?_⟩
 obtain⟨a,w0,c,vs,rfl,h1,h2,h3,h4⟩:=id ia
 have gcl:=gT.cl
 have gx:∀ i,∃ t u:Addr,i < T.cs.length->vs[i]? = some (.ref t)/\H t=some (.tup [.str (T.cs.getD i d0).nm,nV (T.cs.getD i d0).pl,.ref u])/\H u=some (.tup ((T.cs.getD i d0).cs.map nV)):=fun i=>by
  by_cases hi:i < T.cs.length
  ·have hc:T.cs[i]? = some (T.cs.getD i d0):=by simp[List.getD,hi]
   obtain⟨t,u,h⟩:=h4.get hc
   exact⟨t,u,fun _=>h⟩
  ·exact⟨0,0,fun h=>absurd h hi⟩
 obtain⟨ad,gx⟩:=BB gx
 obtain⟨au,gx⟩:=BB gx
 have ge:∀ i,i < T.cs.length->T.cs[i]? = some (T.cs.getD i d0):=fun i hi=>by simp[List.getD,hi]
 refine⟨_,rfl,.inr (.inl ⟨a,_,2,_,rfl,rfl,SqT.of h1,rfl,c,rfl,⟨_,SqT.of h3⟩,fun D hD=>?_⟩)⟩
 refine ZX (n:=T.cs.length) (ad:=ad) (v1:=fun i=>.str (T.cs.getD i d0).nm) (v2:=fun i=>nV (T.cs.getD i d0).pl) (v3:=fun i=>.ref (au i)) (more:=[]) (fun i ys H'=>zL H H'/\ys.length=i/\WJ H' ys (ctOf T au i)) ⟨ze hD _,rfl,.nil⟩ h4.len.symm (fun i hi=>(gx i hi).1) (fun i ys H' h _=>SqT.of (h.1 _ _ h3)) (fun i ys H' hi h=>SqT.of (h.1 _ _ (gx i hi).2.1)) ?_ ?_
 ·rintro i ys H1 hi ⟨s1,yl,hP⟩ hD1
  refine yes ⟨_,rfl,_,rfl,zt (by show 2<=1000;decide),fun t1 ht1=>?_⟩
  have n1:=ze ht1 (.tup [.str (T.cs.getD i d0).nm,nV (T.cs.getD i d0).pl])
  refine⟨_,rfl,zt (by show 2<=1000;decide),fun t2 ht2=>?_⟩
  have n2:=ze ht2 (.tup [.ref t1,.ref (au i)])
  have hD2:=n2 _ _ (n1 _ _ hD1)
  refine ZP hi ⟨_,_,_,rfl⟩ hD2 (zo (by omega)) ⟨(s1.trans (n1.trans n2)).put hD,by rw[AI,yl];rfl,?_⟩
  rw[ct_snoc]
  exact WJ.snoc (p:=(cKey (T.cs.getD i d0),.ref (au i))) (WJ.tk (Tk.put hD2) (WJ.tk (Tk.of (n1.trans n2)) hP)) (Tk.put hD2 _ _ zd) (Tk.put hD2 _ _ (n2 _ _ zd))
 ·rintro ys H1 ⟨s1,yl,hP⟩ hD1
  refine⟨D,ys,_,rfl,hD1,hP,fun e he=>q e _ (s1.trans (ze he _)) ⟨_,zd,fun cc hcc=>?_⟩⟩
  obtain⟨i,hi⟩:=A5.mp hcc
  have hil:=(AE.mp hi).1
  have en:T.cs.getD i d0=cc:=by
   have:=ge i hil
   rw[hi] at this
   exact (AH this).symm
  refine⟨au i,?_,?_⟩
  ·rw[<- en]
   exact xt (ctOf T au T.cs.length) [] (cKey (T.cs.getD i d0),.ref (au i)) (ct_nd nT) (AW.mpr ⟨i,Aw.mpr hil,rfl⟩)
  ·rw[<- en]
   exact (s1.trans (ze he _)) _ _ (gx i hil).2.2
abbrev qB:Stmt:=top 19
theorem jc:zI ["cells", "many", "columns", "length", "places", "column"] ["cells", "many", "columns", "length"] (zj qB):=⟨rfl,rfl,rfl,by ac_rfl,rfl,by ac_rfl,by ac_rfl⟩
theorem Jf (F:Fun K "column_from" "column_from" qB f fd) (gb:Gb mg) {c:Nat->Addr} (cl:Cl K mg c):jO P w K mg base CX0 1 f fd ["cells", "many", "columns", "length"] Xf:=by
 refine F.ok jc (fun vs H Q E h=>?_) (fun cdv A outer s H vs Q E hr h=>?_)
 ·obtain⟨cu,cl,m,pl,cs,cols,cvs,len,rfl,_⟩:=h
  rfl
 obtain⟨cu,cl,m,pl,cs,cols,cvs,len,rfl,hcu,hcs,hcl,hC,hpl,p2,hcol,m1,m9,n9,q⟩:=h
 have nd0:(["row"]:List Str).Nodup:=by ac_rfl
 have nd1:(["place", "one", "many"]:List Str).Nodup:=by ac_rfl
 have nd2:(["place", "cells"]:List Str).Nodup:=by ac_rfl
 refine⟨_,(@zg _ _ _ _ _ (@jA _ ["row"] [none] _ 4 _ _ _ _ _ _ _ _ _ _ _ _ (by exact (show zN ["cells", "many", "columns", "length", "places", "column"] (zj qB) ["row"] [none] _ from⟨rfl,by ac_rfl,by ac_rfl,by ac_rfl,by ac_rfl,rfl,by ac_rfl⟩)) rfl (@zV _ _ _ _ _ _ rfl gb.range (@za _ _ _ _ _ (@pw _ 3 _ _ rfl rfl) (@zf _) rfl) rfl) (fun _ _ _ _=>(@pgl _ 0 _ _ nd0 rfl rfl)) (fun _ _ _ _=>(@qh _)) (fun _ _ _ _=>(@zh _ _ _ _)) jc.nd rfl rfl rfl (by intro _;rfl)) (@zg _ _ _ _ _ (@js _ _ _ _ _ _ _ _ BF rfl (@qk _ K _ _ _ (@pw _ 2 _ _ rfl rfl) rfl) (@pgl _ 5 _ _ jc.nd rfl rfl) (@zm _ _ _ (@jA _ ["place", "one", "many"] [none,none,some 1] _ 4 _ _ _ _ _ _ _ _ _ _ _ _ (by exact (show zN ["cells", "many", "columns", "length", "places", "column"] (zj qB) ["place", "one", "many"] [none,none,some 1] _ from⟨rfl,by ac_rfl,by ac_rfl,by ac_rfl,by ac_rfl,rfl,by ac_rfl⟩)) rfl (@kpi_zipM _ K _ _ _ _ _ _ _ _ rfl gb.zip (@za _ _ _ _ _ (@pw _ 4 _ _ rfl rfl) (@za _ _ _ _ _ (@pw _ 5 _ _ rfl rfl) (@zf _) rfl) rfl) rfl rfl rfl) (fun _ _ _ _=>(@jp _ K _ _ _ _ 2 rfl (@zD _ _ _ _ _ (@pgl _ 0 _ _ nd1 rfl rfl) (@zD _ _ _ _ _ (@pgl _ 1 _ _ nd1 rfl rfl) (@jn _) rfl) rfl) rfl rfl rfl)) (fun _ _ _ _=>(@qh _)) (fun _ _ _ _=>(@zK _ _ _ _ _ _ _ _ (@qw _) (@zK _ _ _ _ _ _ _ _ (@ZQ _) (@pw _ 0 _ _ rfl rfl) (@pw _ 2 _ _ rfl rfl)) (@pw _ 1 _ _ rfl rfl))) jc.nd rfl rfl rfl (by intro _;rfl))) (by intro _;rfl)) (@zm _ _ _ (@zJ _ _ _ _ (@zC _ _ _ _ _ _ _ _ _ (@zw _ K rfl) rfl gb.tuple zW (@za _ _ _ _ _ (@zY _ ["place", "cells"] [none,some 0] _ _ _ _ _ _ _ _ _ _ (by exact (show zN ["cells", "many", "columns", "length", "places", "column"] (zj qB) ["place", "cells"] [none,some 0] _ from⟨rfl,by ac_rfl,by ac_rfl,by ac_rfl,by ac_rfl,rfl,by ac_rfl⟩)) rfl (@qk _ K _ _ _ (@pw _ 4 _ _ rfl rfl) rfl) (fun _ _ _ _=>(@pgl _ 0 _ _ nd2 rfl rfl)) (fun _ _ _ _=>(@qh _)) (fun _ _ _ _=>(@zO _ _ _ _ _ _ _ (@zr _ K rfl) (@pw _ 1 _ _ rfl rfl) (@pw _ 0 _ _ rfl rfl) (fun _ _=>rfl))) (by intro _;rfl)) (@zf _) rfl) (by decide) (by decide) rfl rfl))))),?_⟩
 refine⟨_,rfl,(len:Int),rfl,by omega,by omega,fun D0 hD0=>?_⟩
 rw[A2]
 refine qc (fun i ys H'=>zL H H'/\ys=List.replicate i (nV 0)) ⟨ze hD0 _,rfl⟩ ?_ ?_
 ·rintro i ys H1 hi ⟨s1,rfl⟩ hD1
  refine yes (ZP hi jg hD1 (by rw[C5];exact zo (by omega)) ⟨s1.put hD0,?_⟩)
  rw[Dv]
  rfl
 rintro ys H1 ⟨s1,rfl⟩ hD1
 have e0:(((List.range len).map fun k=>Tn.place m ((cols.take 0).map fun col=>Tn.at' col k)).map nV)=List.replicate len (nV 0):=List.eq_replicate_iff.mpr ⟨by rw[AB,AB,Aj],fun b hb=>by
  obtain⟨x,hx,rfl⟩:=AW.mp hb
  obtain⟨k,_,rfl⟩:=AW.mp hx
  rfl⟩
 rw[<- e0] at hD1
 have hll:=AQ hC
 refine⟨_,rfl,cl,rfl,⟨_,SqL.of (s1 _ _ hcl)⟩,?_⟩
 refine qP (xs:=cvs) (fun i σ H'=>(∃ pd x5,σ=[some (.ref cu),some (nV m),some (.ref cl),some (nV len),some (.ref pd),x5]/\H' pd=some (.lst (((List.range len).map fun k=>Tn.place m ((cols.take i).map fun col=>Tn.at' col k)).map nV)))/\zL H H') ⟨⟨D0,_,rfl,hD1⟩,s1⟩ (fun i σ H' _ h=>SqL.of (h.2 _ _ hcl)) ?_ ?_
 ·rintro i x σ H2 hx ⟨⟨pd,x5,rfl,hpd⟩,s2⟩
  have hi:=(AE.mp hx).1
  have hci:cols[i]? = some cols[i]:=AD (by omega)
  generalize cols[i]=col at hci
  obtain⟨t,rfl,ht⟩:=Paired.at hC i _ _ hci hx
  have gc:=hcol col (AN hci)
  have gl:=gc.1
  refine⟨_,rfl,_,rfl,pd,t,_,_,rfl,SqL.of hpd,SqT.of (s2 _ _ ht),fun D hD=>?_⟩
  refine xG (n:=len) (xs:=((List.range len).map fun k=>Tn.place m ((cols.take i).map fun col=>Tn.at' col k)).map nV) (ys:=col.map nV) (more:=[some (nV m)]) (fun j zs H'=>zL H2 H'/\zs=((List.range j).map fun k=>Tn.place m ((cols.take (i+1)).map fun col=>Tn.at' col k)).map nV) (by rw[AB,AB,AB,Aj,gl,EU]) ⟨ze hD _,rfl⟩ (fun j zs H' h _=>⟨SqL.of (h.1 _ _ hpd),SqT.of (h.1 _ _ (s2 _ _ ht))⟩) ?_ ?_
  ·rintro j zs H3 TT x y hx3 hy3 hj ⟨s3,rfl⟩ hD3 hTT
   rw[BA] at hx3
   obtain⟨_,rfl⟩:=WY hx3
   rw[AR,yH (by omega)] at hy3
   obtain rfl:=AH hy3
   have n4:=ze hTT (.tup [nV (Tn.place m ((cols.take i).map fun col=>Tn.at' col j)),nV (Tn.at' col j)])
   have e:V.int (((Tn.place m ((cols.take i).map fun col=>Tn.at' col j):Nat):Int) * ((m:Nat):Int)+((Tn.at' col j:Nat):Int))=nV (Tn.place m ((cols.take (i+1)).map fun col=>Tn.at' col j)):=by
    rw[take_snoc hci,AM,Ai,EX,Tn.place_snoc]
    show V.int _=V.int _
    rw[Dm,B5]
   refine yes ⟨_,rfl,_,rfl,_,_,rfl,rfl,.inr ⟨by omega,by omega⟩,_,rfl,_,_,rfl,rfl,?_⟩
   refine ZP hj ⟨_,_,rfl⟩ (n4 _ _ hD3) (by rw[AB,AB,Aj];exact zo (by omega)) ⟨(s3.trans n4).put hD,?_⟩
   rw[BV,AM,AM]
   exact BL (fun v=>(((List.range j).map fun k=>Tn.place m ((cols.take (i+1)).map fun col=>Tn.at' col k)).map nV)++[v]) e
  ·rintro zs H3 ⟨s3,rfl⟩ hD3
   exact⟨⟨D,some (.ref t),rfl,hD3⟩,s2.trans s3⟩
 ·rintro σ H2 ⟨⟨pd,x5,rfl,hpd⟩,s2⟩
  rw[<- hll,Ad] at hpd
  refine⟨_,rfl,pd,rfl,⟨_,SqL.of hpd⟩,fun D hD=>?_⟩
  refine Zp (xs:=((List.range len).map fun k=>Tn.place m (cols.map fun col=>Tn.at' col k)).map nV) (fun j zs H'=>zL H2 H'/\zs=((List.range j).map fun k=>Tn.at' cs (Tn.place m (cols.map fun col=>Tn.at' col k))).map nV) ⟨ze hD _,rfl⟩ (fun j zs H' h _=>SqL.of (h.1 _ _ hpd)) ?_ ?_
  ·rintro j zs H3 x hx3 ⟨s3,rfl⟩ hD3
   rw[BA] at hx3
   obtain⟨hj,rfl⟩:=WY hx3
   refine yes ⟨_,rfl,_,rfl,.inr (.inl ⟨cu,_,_,_,rfl,rfl,SqT.of ((s2.trans s3) _ _ hcu),Z9 ?_,?_⟩)⟩
   ·rw[hcs.len,<- hpl]
    exact Tn.place_lt _ _ ⟨by rw[AB],fun y hy=>by
     obtain⟨col,hc,rfl⟩:=AW.mp hy
     exact (hcol col hc).at hj⟩
   ·refine ZP (by rw[AB,AB,Aj];exact hj) jg hD3 (by rw[AB,AB,Aj];exact zo (by omega)) ⟨s3.put hD,?_⟩
    rw[BV,AM,AM]
    rfl
  ·rintro zs H3 ⟨s3,rfl⟩ hD3
   rw[AB,AB,Aj] at hD3
   refine⟨D,_,rfl,.inl ⟨SqL.of hD3,fun t ht=>?_⟩⟩
   exact q t _ (s2.trans (s3.trans (ze ht _))) zd
abbrev jx:Stmt:=top 25
theorem ZH:zI ["T", "cells", "ahead", "line", "length", "parts"] ["T", "cells", "ahead", "line", "length"] (zj jx):=⟨rfl,rfl,rfl,by ac_rfl,rfl,by ac_rfl,by ac_rfl⟩
theorem Jg (F:Fun K "line_column" "line_column" jx f fd) (gb:Gb mg) {c:Nat->Addr} (cl:Cl K mg c) (d_column_from:Def P w K mg base 1 "column_from" ["cells", "many", "columns", "length"] Xf):jO P w K mg base CX0 2 f fd ["T", "cells", "ahead", "line", "length"] WX:=by
 refine F.ok ZH (fun vs H Q E h=>?_) (fun cdv A outer s H vs Q E hr h=>?_)
 ·obtain⟨v,e',al,t,T,z,cols,avs,len,rfl,_⟩:=h
  rfl
 obtain⟨v,e',al,t,T,z,cols,avs,len,rfl,ia,gT,nT,hcd,hal,hC,hcol,ht,hz,hc,n9,q⟩:=h
 have nd0:(["number", "ahead"]:List Str).Nodup:=by ac_rfl
 refine⟨_,(@zg _ _ _ _ _ (@jA _ ["number", "ahead"] [none,some 2] _ 5 _ _ _ _ _ _ _ _ _ _ _ _ (by exact (show zN ["T", "cells", "ahead", "line", "length", "parts"] (zj jx) ["number", "ahead"] [none,some 2] _ from⟨rfl,by ac_rfl,by ac_rfl,by ac_rfl,by ac_rfl,rfl,by ac_rfl⟩)) rfl (@qS _ K _ _ _ (@qA _ _ _ _ _ _ _ _ _ _ (@kslT _ K rfl) (@pw _ 3 _ _ rfl rfl) (@qR _ _ _ (@zh _ _ _ _)) (@jo _)) rfl) (fun _ _ _ _=>(@pgl _ 0 _ _ nd0 rfl rfl)) (fun _ _ _ _=>(@qh _)) (fun _ _ _ _=>(@zO _ _ _ _ _ _ _ (@zr _ K rfl) (@pw _ 1 _ _ rfl rfl) (@pw _ 0 _ _ rfl rfl) (fun _ _=>rfl))) ZH.nd rfl rfl rfl (by intro _;rfl)) (@zm _ _ _ (@zJ _ _ _ _ (@zG _ _ _ _ _ _ _ _ _ _ _ d_column_from hr (by omega) rfl (@za _ _ _ _ _ (@xg _ _ _ _ _ _ (@hu1 _ _ hr) (@pw _ 1 _ _ rfl rfl) (@qx _ _ _ _ _ (@za _ _ _ _ _ (@zO _ _ _ _ _ _ _ (@zr _ K rfl) (@pw _ 3 _ _ rfl rfl) (@zh _ _ _ _) (fun _ _=>rfl)) (@za _ _ _ _ _ (@zK _ _ _ _ _ _ _ _ (@yh _) (@zq _ _ _ _ _ _ _ _ _ (@zS _ K rfl) rfl gb.len qH (@za _ _ _ _ _ (@pw _ 3 _ _ rfl rfl) (@zf _) rfl) (by decide) (by decide) rfl rfl) (@zh _ _ _ _)) (@zf _) rfl) rfl)) (fun _ _=>rfl)) (@za _ _ _ _ _ (@zO _ _ _ _ _ _ _ (@zr _ K rfl) (@pw _ 0 _ _ rfl rfl) (@zh _ _ _ _) (fun _ _=>rfl)) (@za _ _ _ _ _ (@pw _ 5 _ _ rfl rfl) (@za _ _ _ _ _ (@pw _ 4 _ _ rfl rfl) (@zf _) rfl) rfl) rfl) rfl) (by decide) rfl rfl)))),?_⟩
 obtain⟨c,hcm,cn,cp⟩:=hc
 obtain⟨a,w0,c0,vs,rfl,h1,h2,h3,h4⟩:=id ia
 obtain⟨_,p2,q3⟩:=gT.cn c hcm
 have hal':=AQ hC
 refine⟨_,rfl,_,rfl,?_⟩
 refine wT ht fun t2 H2 s2 ht2=>?_
 rw[Z4 (by simp)] at ht2
 refine⟨t2,rfl,⟨_,SqT.of ht2⟩,fun D hD=>?_⟩
 refine Qm (xs:=z.2.map nV) (fun i ys H'=>zL H2 H'/\wU H' ((z.2.take i).map fun n=>cols.getD n []) ys/\ys.length=i) ⟨ze hD _,.nil,rfl⟩ (fun i ys H' h _=>SqT.of (h.1 _ _ ht2)) ?_ ?_
 ·rintro i ys H3 x hx ⟨s3,hY,yl⟩ hD3
  have hi:=(AE.mp hx).1
  rw[AB] at hi
  rw[AR] at hx
  obtain⟨n,hn,rfl⟩:=At.mp hx
  have hnl:=hz n (AN hn)
  have hci:cols[n]? = some (cols.getD n []):=by simp[List.getD,hnl]
  have hav:avs[n]? = some avs[n]:=AD (by omega)
  generalize avs[n]=av at hav
  obtain⟨tc,rfl,htc⟩:=Paired.at hC n _ _ hci hav
  have S3:=s2.trans s3
  refine yes ⟨_,rfl,_,rfl,.inl ⟨al,_,_,_,rfl,rfl,SqL.of (S3 _ _ hal),qu hav,?_⟩⟩
  refine ZP (by rw[AB];exact hi) jg hD3 (zo (by omega)) ⟨s3.put hD,?_,by rw[AI,yl];rfl⟩
  rw[take_snoc hn,AM]
  exact wU.tk (Tk.put hD3) (wU.snoc hY (S3 _ _ htc))
 rintro ys H3 ⟨s3,hY,yl⟩ hD3
 rw[AB,Ad] at hY
 have S3:=s2.trans s3
 have ht3:=S3 _ _ ht
 obtain⟨kvs,hk,hv⟩:=hcd.same S3
 obtain⟨u,e1,e2⟩:=hv c hcm
 refine⟨_,rfl,_,rfl,.inr (.inl ⟨t,_,_,_,rfl,rfl,SqT.of ht3,at0,_,rfl,_,_,rfl,.inr ⟨_,SqT.of ht3,rfl⟩,_,_,rfl,rfl,zt (by show 2<=1000;decide),fun t4 ht4=>?_⟩)⟩
 have el:V.int (((.str z.1 :: z.2.map nV:List V).length:Int) - 1)=.int ((c.pl:Nat):Int):=by
  rw[Az,AB,cp]
  show V.int _=V.int _
  congr 1
  omega
 dsimp only
 rw[el]
 have n4:=ze ht4 (.tup [.str z.1,.int ((c.pl:Nat):Int)])
 have hgd:WC (upd H3 t4 (.tup [.str z.1,.int ((c.pl:Nat):Int)])) e' (.ref t4) (qY kvs (cKey c)):=WC.t (n4 _ _ hk) (by
  rw[zd]
  unfold cKey
  rw[cn]
  rfl)
 rw[e1] at hgd
 refine⟨e',_,rfl,hgd,?_⟩
 have S4:=S3.trans n4
 refine⟨_,rfl,.inr (.inl ⟨a,_,0,_,rfl,rfl,SqT.of (S4 _ _ h1),rfl,?_⟩)⟩
 refine⟨_,rfl,_,rfl,u,D,T.m,c.pl,c.cs,z.2.map fun n=>cols.getD n [],ys,len,rfl,n4 _ _ e2,q3,n4 _ _ hD3,wU.tk (Tk.of n4) hY,by rw[AB,cp],p2,(fun col hc=>?_),gT.m1,gT.m9,n9,fun t' H5 s5 ht'=>?_⟩
 ·obtain⟨n,hn,rfl⟩:=AW.mp hc
  have hnl:=hz n hn
  exact hcol _ (AN (i:=n) (by simp[List.getD,hnl]))
 ·refine q t' H5 (S4.trans s5) ?_
  rw[ht']
  congr 3
  refine Ao fun k _=>?_
  unfold cellOf
  rw[<- cn,Qs nT hcm,BA]
  rfl
abbrev jM:Stmt:=top 29
theorem J3:zI ["line", "numbers"] ["line", "numbers"] (zj jM):=⟨rfl,rfl,rfl,by ac_rfl,rfl,by ac_rfl,by ac_rfl⟩
theorem J4 (F:Fun K "renumbered" "renumbered" jM f fd) (gb:Gb mg) {c:Nat->Addr} (cl:Cl K mg c) (d_is_letter:Def P w K mg base 2 "is_letter" ["thing"] yG):jO P w K mg base CX0 3 f fd ["line", "numbers"] WZ:=by
 refine F.ok J3 (fun vs H Q E h=>?_) (fun cdv A outer s H vs Q E hr h=>?_)
 ·obtain⟨v,nd,l,ns,o,rfl,_⟩:=h
  rfl
 obtain⟨v,nd,l,ns,o,rfl,il,hL,hnd,nN,hz,h2,n20,q⟩:=h
 have nd0:(["number", "numbers"]:List Str).Nodup:=by ac_rfl
 refine⟨_,(@zg _ _ _ _ _ (@qO _ _ _ _ _ _ _ _ (@Zg _ _ _ (@zG _ _ _ _ _ _ _ _ _ _ _ d_is_letter hr (by omega) rfl (@za _ _ _ _ _ (@pw _ 0 _ _ rfl rfl) (@zf _) rfl) (by decide) rfl rfl) (by intro _;rfl)) (@zm _ _ _ (@zJ _ _ _ _ (@pw _ 0 _ _ rfl rfl))) (@zX _)) (@zm _ _ _ (@zJ _ _ _ _ (@zK _ _ _ _ _ _ _ _ (@Y3 _ K rfl) (@qx _ _ _ _ _ (@za _ _ _ _ _ (@zO _ _ _ _ _ _ _ (@zr _ K rfl) (@pw _ 0 _ _ rfl rfl) (@zh _ _ _ _) (fun _ _=>rfl)) (@zf _) rfl)) (@zC _ _ _ _ _ _ _ _ _ (@zw _ K rfl) rfl gb.tuple zW (@za _ _ _ _ _ (@zY _ ["number", "numbers"] [none,some 1] _ _ _ _ _ _ _ _ _ _ (by exact (show zN ["line", "numbers"] (zj jM) ["number", "numbers"] [none,some 1] _ from⟨rfl,by ac_rfl,by ac_rfl,by ac_rfl,by ac_rfl,rfl,by ac_rfl⟩)) rfl (@qS _ K _ _ _ (@qA _ _ _ _ _ _ _ _ _ _ (@kslT _ K rfl) (@pw _ 0 _ _ rfl rfl) (@qR _ _ _ (@zh _ _ _ _)) (@jo _)) rfl) (fun _ _ _ _=>(@pgl _ 0 _ _ nd0 rfl rfl)) (fun _ _ _ _=>(@qh _)) (fun _ _ _ _=>(@xg _ _ _ _ _ _ (@hu1 _ _ hr) (@pw _ 1 _ _ rfl rfl) (@pw _ 0 _ _ rfl rfl) (fun _ _=>rfl))) (by intro _;rfl)) (@zf _) rfl) (by decide) (by decide) rfl rfl))))),?_⟩
 refine⟨_,rfl,v,l,rfl,il,hL,fun H1 s1=>⟨_,rfl,?_⟩⟩
 cases l with
 | inl x=>exact J8 ⟨_,rfl,q v H1 s1 (il.tk (Tk.of s1))⟩
 | inr z=>
  refine JF ?_
  obtain⟨t,rfl,ht⟩:=il
  have ht1:=s1 _ _ ht
  have h2:z.2.length<=2:=h2
  refine⟨_,rfl,.inr (.inl ⟨t,_,_,_,rfl,rfl,SqT.of ht1,at0,zt (by show 1<=1000;decide),fun t1 hn1=>?_⟩)⟩
  have n1:=ze hn1 (.tup [.str z.1])
  refine⟨_,rfl,_,rfl,?_⟩
  refine wT (n1 _ _ ht1) fun t2 H2 s2 ht2=>?_
  rw[Z4 (by simp)] at ht2
  refine⟨t2,rfl,⟨_,SqT.of ht2⟩,fun D hD=>?_⟩
  have S2:=s1.trans (n1.trans s2)
  refine Qm (xs:=z.2.map nV) (fun i ys H'=>zL H2 H'/\ys=((z.2.take i).map fun m=>ns.idxOf m).map nV) ⟨ze hD _,rfl⟩ (fun i ys H' h _=>SqT.of (h.1 _ _ ht2)) ?_ ?_
  ·rintro i ys H3 x hx ⟨s3,rfl⟩ hD3
   have hi:=(AE.mp hx).1
   rw[AB] at hi
   rw[AR] at hx
   obtain⟨n,hn,rfl⟩:=At.mp hx
   have hm:=hz n (AN hn)
   have hgd:WC H3 nd (nV n) (qY (Z7 ns) (Sum.inl (n:Int))):=.inl ⟨Z7 ns,Sum.inl (n:Int),.inr ⟨o,(S2.trans s3) _ _ hnd⟩,rfl,rfl⟩
   rw[nums_val nN hm] at hgd
   refine yes ⟨_,rfl,_,rfl,nd,_,rfl,hgd,?_⟩
   refine ZP (by rw[AB];exact hi) jg hD3 (by rw[AB,AB,Ae];exact zo (by omega)) ⟨s3.put hD,?_⟩
   rw[take_snoc hn,AM,AM]
   rfl
  ·rintro ys H3 ⟨s3,rfl⟩ hD3
   rw[AB,Ad] at hD3
   refine⟨D,_,rfl,.inl ⟨SqL.of hD3,fun t4 ht4=>?_⟩⟩
   have n4:=ze ht4 (.tup ((z.2.map fun m=>ns.idxOf m).map nV))
   refine catA_of (n4 _ _ (s3 _ _ (s2 _ _ zd))) zd (by rw[AB,AB];show 1+z.2.length<=1000;omega) fun t5 H5 s5 ht5=>?_
   exact q (.ref t5) H5 (S2.trans (s3.trans (n4.trans s5))) ⟨t5,rfl,ht5⟩
abbrev jd:Stmt:=top 28
theorem jE:zI ["lines", "numbers", "number"] ["lines"] (zj jd):=⟨rfl,rfl,rfl,by ac_rfl,rfl,by ac_rfl,by ac_rfl⟩
theorem Q5 (F:Fun K "needed_alone" "needed_alone" jd f fd) (gb:Gb mg) {c:Nat->Addr} (cl:Cl K mg c) (d_needed_lines:Def P w K mg base 3 "needed_lines" ["lines"] Xe) (d_renumbered:Def P w K mg base 3 "renumbered" ["line", "numbers"] WZ):jO P w K mg base CX0 4 f fd ["lines"] W0:=by
 refine F.ok jE (fun vs H Q E h=>?_) (fun cdv A outer s H vs Q E hr h=>?_)
 ·obtain⟨lt,us,ls,T,LT,rfl,_⟩:=h
  rfl
 obtain⟨lt,us,ls,T,LT,rfl,hlt,hls,hG,g2,hL,l1,l20,q⟩:=h
 have nd0:(["number", "lines", "numbers"]:List Str).Nodup:=by ac_rfl
 refine⟨_,(@zg _ _ _ _ _ (@zy _ _ 1 _ _ _ _ jE.nd rfl (Or.inr rfl) (@yw _ _) rfl (by walk_at "f")) (@zg _ _ _ _ _ (@js _ _ _ _ _ _ _ _ BF rfl (@qk _ K _ _ _ (@zq _ _ _ _ _ _ _ _ _ (@Je _ K rfl) rfl gb.sorted QK (@za _ _ _ _ _ (@zG _ _ _ _ _ _ _ _ _ _ _ d_needed_lines hr (by omega) rfl (@za _ _ _ _ _ (@pw _ 0 _ _ rfl rfl) (@zf _) rfl) (by decide) rfl rfl) (@zf _) rfl) (by decide) (by decide) rfl rfl) rfl) (@pgl _ 2 _ _ jE.nd rfl rfl) (@zm _ _ _ (@xk _ _ _ _ _ _ _ _ _ _ hr (@pw _ 1 _ _ rfl rfl) (@pw _ 2 _ _ rfl rfl) (@zq _ _ _ _ _ _ _ _ _ (@xw _) rfl gb.len qH (@za _ _ _ _ _ (@pw _ 1 _ _ rfl rfl) (@zf _) rfl) (by decide) (by decide) rfl rfl) rfl)) (by intro _;rfl)) (@zm _ _ _ (@zJ _ _ _ _ (@zC _ _ _ _ _ _ _ _ _ (@zw _ K rfl) rfl gb.tuple zW (@za _ _ _ _ _ (@zY _ ["number", "lines", "numbers"] [none,some 0,some 1] _ _ _ _ _ _ _ _ _ _ (by exact (show zN ["lines", "numbers", "number"] (zj jd) ["number", "lines", "numbers"] [none,some 0,some 1] _ from⟨rfl,by ac_rfl,by ac_rfl,by ac_rfl,by ac_rfl,rfl,by ac_rfl⟩)) rfl (@pi_keys _ _ _ _ (@pw _ 1 _ _ rfl rfl)) (fun _ _ _ _=>(@pgl _ 0 _ _ nd0 rfl rfl)) (fun _ _ _ _=>(@qh _)) (fun _ _ _ _=>(@zG _ _ _ _ _ _ _ _ _ _ _ d_renumbered hr (by omega) rfl (@za _ _ _ _ _ (@zO _ _ _ _ _ _ _ (@zr _ K rfl) (@pw _ 1 _ _ rfl rfl) (@pw _ 0 _ _ rfl rfl) (fun _ _=>rfl)) (@za _ _ _ _ _ (@pw _ 2 _ _ rfl rfl) (@zf _) rfl) rfl) (by decide) rfl rfl)) (by intro _;rfl)) (@zf _) rfl) (by decide) (by decide) rfl rfl))))),?_⟩
 refine fun nd hnd=>?_
 have n1:=ze hnd (.dK [])
 refine⟨_,rfl,lt,us,ls,T,LT,rfl,hlt.same n1,Lns.tk (Tk.of n1) hls,hG,g2,hL,l1,l20,fun nl ns0 H2 s2 hnl clos=>?_⟩
 have nsl:ns0.length<=81:=Aq (Tn.nodup_len ls.length ns0 clos.nd clos.lt) l20
 have hnl':H2 nl=some (.lst ((ns0.map fun (n:Nat)=>(n:Int)).map V.int)):=by
  rw[BA]
  exact hnl
 refine⟨nl,_,rfl,SqL.of hnl',by rw[AB];omega,nat_nd clos.nd,fun sl ms hsl pm pw=>?_⟩
 obtain⟨ns,em,clo,ris,nsl2⟩:=Xh clos pm pw
 rw[em]
 have n3:=ze hsl (.lst (ns.map nV))
 have S3:=n1.trans (s2.trans n3)
 have hul:=AQ hls
 refine⟨sl,rfl,⟨_,SqL.of zd⟩,?_⟩
 have slnd:sl ≠ nd:=fun e=>by
  have:=s2 _ _ (@zd H nd (.dK []))
  rw[<- e,hsl] at this
  cases this
 refine qP (xs:=ns.map nV) (fun i σ H'=>(∃ x2,σ=[some (.ref lt),some (.ref nd),x2])/\zL H H'/\H' sl=some (.lst (ns.map nV))/\H' nd=some (.dK (Z7 (ns.take i)))) ⟨⟨_,rfl⟩,S3,zd,n3 _ _ (s2 _ _ zd)⟩ (fun i σ H' _ h=>SqL.of h.2.2.1) ?_ ?_
 ·rintro i x σ H4 hx ⟨⟨x2,rfl⟩,s4,hsl4,hnd4⟩
  rw[AR] at hx
  obtain⟨n,hn,rfl⟩:=At.mp hx
  have hi:=(AE.mp hn).1
  refine⟨_,rfl,nd,_,rfl,hnd4,_,rfl,_,rfl,nd,_,Sum.inl (n:Int),rfl,rfl,hnd4,by rw[Zx,Ae];exact zo (by omega),?_⟩
  refine⟨⟨_,rfl⟩,s4.put hnd,by rw[zx slnd];exact hsl4,?_⟩
  rw[nums_put clo.nd hn]
  exact zd
 rintro σ H4 ⟨⟨x2,rfl⟩,s4,hsl4,hnd4⟩
 rw[AB,Ad] at hnd4
 refine⟨_,rfl,nd,Z7 ns,rfl,hnd4,fun o D hD=>?_⟩
 have s5:zL H (upd H4 nd (.frz o (.dK (Z7 ns)))):=s4.put hnd
 have hf5:(upd H4 nd (.frz o (.dK (Z7 ns)))) nd=some (.frz o (.dK (Z7 ns))):=zd
 generalize upd H4 nd (.frz o (.dK (Z7 ns)))=H5 at *
 refine xD (kvs:=Z7 ns) (ob:=o) (fun i ys H'=>zL H5 H'/\Lns H' ((ns.take i).map fun n=>reN ns (ls.getD n (.inl ""))) ys/\ys.length=i) ⟨ze hD _,.nil,rfl⟩ (fun i ys H' h _=>h.1 _ _ hf5) ?_ ?_
 ·rintro i ys H6 p hp ⟨s6,hY,yl⟩ hD6
  obtain⟨n,hn,rfl⟩:=JR hp
  have hi:=(AE.mp hn).1
  have hnm:=AN hn
  have hnl:=clo.lt n hnm
  have hli:ls[n]? = some (ls.getD n (.inl "")):=by simp[List.getD,hnl]
  have hui:us[n]? = some us[n]:=AD (by omega)
  generalize us[n]=u at hui
  have iu:=Paired.at hls n _ _ hli hui
  have S6:=s5.trans s6
  have lp:(∀ m ∈ lnPs (ls.getD n (.inl "")),m ∈ ns)/\(lnPs (ls.getD n (.inl ""))).length<=2:=by
   have gl:=hG n _ hli
   cases e:ls.getD n (.inl "") with
   | inl x=>exact⟨(fun m hm=>by cases hm),A6 _⟩
   | inr z=>
    rw[e] at hli gl
    obtain⟨_,c,hc,_,cp⟩:=gl
    exact⟨fun m hm=>clo.cl n hnm z hli m hm,by have:=g2 c hc;show z.2.length<=2;omega⟩
  refine yes ⟨_,rfl,_,rfl,(hlt.same S6).ix hui ?_⟩
  refine⟨_,rfl,u,nd,ls.getD n (.inl ""),ns,o,rfl,iu.tk (Tk.of S6),hG.ltr hL hli,s6 _ _ hf5,clo.nd,lp.1,lp.2,by omega,fun w H7 s7 hw=>?_⟩
  have hD7:=s7 _ _ hD6
  refine ZP (by rw[Zx];exact hi) jg hD7 (zo (by omega)) ⟨(s6.trans s7).put hD,?_,by rw[AI,yl];rfl⟩
  rw[take_snoc hn,AM]
  exact Lns.tk (Tk.put hD7) (Lns.snoc (Lns.tk (Tk.of s7) hY) hw)
 ·rintro ys H6 ⟨s6,hY,yl⟩ hD6
  rw[Zx,Ad] at hY
  refine⟨D,_,rfl,.inl ⟨SqL.of hD6,fun t ht=>?_⟩⟩
  have n7:=ze ht (.tup ys)
  exact q t ys ns _ (s5.trans (s6.trans n7)) zd clo ris (Lns.tk (Tk.of n7) hY)
abbrev Xu:Stmt:=top 24
theorem sc_keep:zI ["found", "column", "line"] ["found", "column", "line"] (zj Xu):=⟨rfl,rfl,rfl,by ac_rfl,rfl,by ac_rfl,by ac_rfl⟩
theorem ok_keep (F:Fun K "keep" "keep" Xu f fd) (gb:Gb mg) {c:Nat->Addr} (cl:Cl K mg c):jO P w K mg base (CX1 P w) 1 f fd ["found", "column", "line"] (yL (c 6)):=by
 refine F.ok1 sc_keep (fun vs H Q E h=>?_) (fun cdv A outer s H vs Q E hr h=>?_)
 ·obtain⟨fd,c',col,kvs,lv,rfl,_⟩:=h
  rfl
 obtain⟨fd,c',col,kvs,lv,rfl,hfd,hc,h81,q1,q0,qe⟩:=h
 refine⟨_,(@zm _ _ _ (@qO _ _ _ _ _ _ _ _ (@zA _ _ _ _ _ _ _ _ (@QP _ _ hr) (@pw _ 1 _ _ rfl rfl) (@pw _ 0 _ _ rfl rfl) (by with_unfolding_all rfl)) (@zg _ _ _ _ _ (@qO _ _ _ _ _ _ _ _ (@zA _ _ _ _ _ _ _ _ (@Zh _) (@zq _ _ _ _ _ _ _ _ _ (@Jw _) rfl gb.len qH (@za _ _ _ _ _ (@pw _ 0 _ _ rfl rfl) (@zf _) rfl) (by decide) (by decide) rfl rfl) (@pe_globR _ _ _ _ rfl gb.MOST_COLUMNS (by decide)) (@zM _ _ (by decide) (by decide))) (@zm _ _ _ (@ps_raise _ _ _ _ _ _ _ _ _ _ _ _ _ _ _ _ _ _ rfl cl.g_TooMany cl.x_TooMany Em rfl Em rfl (@thrown1 _ _ _ _ _ _ _ _ _ _ _ _ _ _ _) (@za _ _ _ _ _ (@qF _ _ _ _) (@zf _) rfl) (by decide) rfl rfl)) (@zX _)) (@zm _ _ _ (@xh _ _ _ _ _ _ _ _ _ (@hu1 _ _ hr) (@pw _ 0 _ _ rfl rfl) (@pw _ 1 _ _ rfl rfl) (@pw _ 2 _ _ rfl rfl) rfl))) (@zX _))),?_⟩
 refine⟨_,rfl,_,rfl,fd,c',kvs,jK col,rfl,rfl,hfd,by rw[Qg];exact hc,?_⟩
 cases hv:qY kvs (jK col) with
 | some x=>exact⟨_,rfl,JF (q1 (by rw[hv];rfl))⟩
 | none=>
  refine⟨_,rfl,J8 ?_⟩
  by_cases h8:kvs.length=81
  ·refine⟨_,rfl,fd,kvs,rfl,hfd,rfl,_,rfl,Yw (Ak (by rw[h8];rfl)) ?_⟩
   exact⟨zt (by show 1<=1000;decide),qe hv h8⟩
  refine⟨_,rfl,fd,kvs,rfl,hfd,rfl,_,rfl,Wn (AY fun z=>?_) ?_⟩
  ·have:=V.int.inj z
   omega
  ·refine⟨_,rfl,_,rfl,_,rfl,fd,_,rfl,.t (k:=jK col) hfd (by rw[Qg];exact hc) (zo (by omega)),?_⟩
   rw[ZZ _ hv]
   exact q0 hv (by omega)
abbrev qf:Stmt:=top 26
theorem Zi:zI ["T"] ["T"] (zj qf):=⟨rfl,rfl,rfl,by ac_rfl,rfl,by ac_rfl,by ac_rfl⟩
theorem Zj (F:Fun K "lines_without_parts" "lines_without_parts" qf f fd) (gb:Gb mg) {c:Nat->Addr} (cl:Cl K mg c):jO P w K mg base CX0 1 f fd ["T"] JS:=by
 refine F.ok Zi (fun vs H Q E h=>?_) (fun cdv A outer s H vs Q E hr h=>?_)
 ·obtain⟨v,T,rfl,_⟩:=h
  rfl
 obtain⟨v,T,rfl,ia,gT,q⟩:=h
 have nd0:(["name", "places", "cells"]:List Str).Nodup:=by ac_rfl
 refine⟨_,(@zm _ _ _ (@zJ _ _ _ _ (@zY _ ["name", "places", "cells"] [none,none,none] _ _ _ _ _ _ _ _ _ _ (by exact (show zN ["T"] (zj qf) ["name", "places", "cells"] [none,none,none] _ from⟨rfl,by ac_rfl,by ac_rfl,by ac_rfl,by ac_rfl,rfl,by ac_rfl⟩)) rfl (@qS _ K _ _ _ (@zO _ _ _ _ _ _ _ (@zr _ K rfl) (@pw _ 0 _ _ rfl rfl) (@zh _ _ _ _) (fun _ _=>rfl)) rfl) (fun _ _ _ _=>(@jp _ K _ _ _ _ 3 rfl (@zD _ _ _ _ _ (@pgl _ 0 _ _ nd0 rfl rfl) (@zD _ _ _ _ _ (@pgl _ 1 _ _ nd0 rfl rfl) (@zD _ _ _ _ _ (@pgl _ 2 _ _ nd0 rfl rfl) (@jn _) rfl) rfl) rfl) rfl rfl rfl)) (fun _ _ _ _=>(@yn _ _ _ (@zA _ _ _ _ _ _ _ _ (@Zh _) (@pw _ 1 _ _ rfl rfl) (@zh _ _ _ _) (@zM _ _ (by decide) (by decide))))) (fun _ _ _ _=>(@qx _ _ _ _ _ (@za _ _ _ _ _ (@pw _ 0 _ _ rfl rfl) (@zf _) rfl))) (by intro _;rfl)))),?_⟩
 obtain⟨a,w0,c0,vs,rfl,h1,h2,h3,h4⟩:=id ia
 have gcl:=gT.cl
 have gx:∀ i,∃ t u:Addr,i < T.cs.length->vs[i]? = some (.ref t)/\H t=some (.tup [.str (T.cs.getD i d0).nm,nV (T.cs.getD i d0).pl,.ref u])/\H u=some (.tup ((T.cs.getD i d0).cs.map nV)):=fun i=>by
  by_cases hi:i < T.cs.length
  ·have hc:T.cs[i]? = some (T.cs.getD i d0):=by simp[List.getD,hi]
   obtain⟨t,u,h⟩:=h4.get hc
   exact⟨t,u,fun _=>h⟩
  ·exact⟨0,0,fun h=>absurd h hi⟩
 obtain⟨ad,gx⟩:=BB gx
 obtain⟨au,gx⟩:=BB gx
 have ge:∀ i,i < T.cs.length->T.cs[i]? = some (T.cs.getD i d0):=fun i hi=>by simp[List.getD,hi]
 refine⟨_,rfl,.inr (.inl ⟨a,_,2,_,rfl,rfl,SqT.of h1,rfl,c0,rfl,⟨_,SqT.of h3⟩,fun D hD=>?_⟩)⟩
 refine ZX (n:=T.cs.length) (ad:=ad) (v1:=fun i=>.str (T.cs.getD i d0).nm) (v2:=fun i=>nV (T.cs.getD i d0).pl) (v3:=fun i=>.ref (au i)) (more:=[]) (fun i ys H'=>zL H H'/\ys.length<=i/\Lzs H' (l0 (T.cs.take i)) ys) ⟨ze hD _,AG _,.nil⟩ h4.len.symm (fun i hi=>(gx i hi).1) (fun i ys H' h _=>SqT.of (h.1 _ _ h3)) (fun i ys H' hi h=>SqT.of (h.1 _ _ (gx i hi).2.1)) ?_ ?_
 ·rintro i ys H1 hi ⟨s1,yl,hP⟩ hD1
  refine⟨_,rfl,rfl,_,rfl,?_⟩
  have et:=take_snoc (ge i hi)
  by_cases e:(T.cs.getD i d0).pl=0
  ·refine Yw (Ak (by rw[e];rfl)) ⟨_,rfl,zt (by show 1<=1000;decide),fun t1 ht1=>?_⟩
   have n1:=ze ht1 (.tup [.str (T.cs.getD i d0).nm])
   have hD2:=n1 _ _ hD1
   refine ZP hi ⟨_,_,_,rfl⟩ hD2 (zo (by omega)) ⟨(s1.trans n1).put hD,by rw[AI];show ys.length+1<=i+1;omega,?_⟩
   have e2:l0 (T.cs.take (i+1))=l0 (T.cs.take i)++[((T.cs.getD i d0).nm,[])]:=by rw[et,l0_yes _ e]
   rw[e2]
   unfold Lzs
   rw[AM]
   exact Lns.snoc (Lns.tk (Tk.put hD2) (Lns.tk (Tk.of n1) hP)) ⟨t1,rfl,Tk.put hD2 _ _ zd⟩
  ·refine Wn (AY fun z=>e ?_) (cno hi ⟨_,_,_,rfl⟩ hD1 ⟨s1,by omega,?_⟩)
   ·have:=V.int.inj z
    omega
   ·have e2:l0 (T.cs.take (i+1))=l0 (T.cs.take i):=by rw[et,l0_no _ e]
    rw[e2]
    exact hP
 ·rintro ys H1 ⟨s1,yl,hP⟩ hD1
  rw[Ad] at hP
  exact q D ys H1 s1 hD1 hP
abbrev jh:Stmt:=top 27
theorem qX:zI ["T", "number", "lines", "name", "places", "cells"] ["T", "number"] (zj jh):=⟨rfl,rfl,rfl,by ac_rfl,rfl,by ac_rfl,by ac_rfl⟩
theorem J5 (F:Fun K "lines_with" "lines_with" jh f fd) (gb:Gb mg) {c:Nat->Addr} (cl:Cl K mg c):jO P w K mg base CX0 1 f fd ["T", "number"] JT:=by
 refine F.ok qX (fun vs H Q E h=>?_) (fun cdv A outer s H vs Q E hr h=>?_)
 ·obtain⟨v,T,k,rfl,_⟩:=h
  rfl
 obtain⟨v,T,k,rfl,ia,gT,c4,k20,q⟩:=h
 have nd0:(["other", "name", "number"]:List Str).Nodup:=by ac_rfl
 have nd1:(["other", "name", "number"]:List Str).Nodup:=by ac_rfl
 refine⟨_,(@zg _ _ _ _ _ (@zy _ _ 2 _ _ _ _ qX.nd rfl (Or.inl rfl) (@qm _ _ _ _ (@zf _)) rfl (by walk_at "f")) (@zg _ _ _ _ _ (@js _ _ _ _ _ _ _ _ BF rfl (@qS _ K _ _ _ (@zO _ _ _ _ _ _ _ (@zr _ K rfl) (@pw _ 0 _ _ rfl rfl) (@zh _ _ _ _) (fun _ _=>rfl)) rfl) (@jp _ K _ _ _ _ 3 rfl (@zD _ _ _ _ _ (@QA _ _ 3 _ qX.nd rfl (Or.inr rfl) (by walk_at "f")) (@zD _ _ _ _ _ (@pgl _ 4 _ _ qX.nd rfl rfl) (@zD _ _ _ _ _ (@pgl _ 5 _ _ qX.nd rfl rfl) (@jn _) rfl) rfl) rfl) rfl rfl rfl) (@zg _ _ _ _ _ (@qO _ _ _ _ _ _ _ _ (@zA _ _ _ _ _ _ _ _ (@Zh _) (@pw _ 4 _ _ rfl rfl) (@zh _ _ _ _) (@zM _ _ (by decide) (by decide))) (@zm _ _ _ (@qJ _ _ _ _ (@jU _ K _ _ _ _ _ _ _ _ _ _ _ Av BO BN (@qG _) (@pw _ 2 _ _ rfl rfl) (@za _ _ _ _ _ (@qx _ _ _ _ _ (@za _ _ _ _ _ (@pw _ 3 _ _ rfl rfl) (@za _ _ _ _ _ (@pw _ 1 _ _ rfl rfl) (@zf _) rfl) rfl)) (@zf _) rfl) rfl rfl rfl rfl rfl rfl) rfl)) (@zX _)) (@zm _ _ _ (@qO _ _ _ _ _ _ _ _ (@zA _ _ _ _ _ _ _ _ (@Zh _) (@pw _ 4 _ _ rfl rfl) (@zh _ _ _ _) (@zM _ _ (by decide) (by decide))) (@zg _ _ _ _ _ (@qJ _ _ _ _ (@jU _ K _ _ _ _ _ _ _ _ _ _ _ Av Ce Cd (@ZS _) (@pw _ 2 _ _ rfl rfl) (@za _ _ _ _ _ (@zY _ ["other", "name", "number"] [none,some 3,some 1] _ _ _ _ _ _ _ _ _ _ (by exact (show zN ["T", "number", "lines", "name", "places", "cells"] (zj jh) ["other", "name", "number"] [none,some 3,some 1] _ from⟨rfl,by ac_rfl,by ac_rfl,by ac_rfl,by ac_rfl,rfl,by ac_rfl⟩)) rfl (@zV _ _ _ _ _ _ rfl gb.range (@za _ _ _ _ _ (@zK _ _ _ _ _ _ _ _ (@qw _) (@pw _ 1 _ _ rfl rfl) (@zh _ _ _ _)) (@zf _) rfl) rfl) (fun _ _ _ _=>(@pgl _ 0 _ _ nd0 rfl rfl)) (fun _ _ _ _=>(@qh _)) (fun _ _ _ _=>(@qx _ _ _ _ _ (@za _ _ _ _ _ (@pw _ 1 _ _ rfl rfl) (@za _ _ _ _ _ (@pw _ 2 _ _ rfl rfl) (@za _ _ _ _ _ (@pw _ 0 _ _ rfl rfl) (@zf _) rfl) rfl) rfl))) (by intro _;rfl)) (@zf _) rfl) rfl rfl rfl rfl rfl rfl) rfl) (@zm _ _ _ (@qJ _ _ _ _ (@jU _ K _ _ _ _ _ _ _ _ _ _ _ Av Ce Cd (@ZS _) (@pw _ 2 _ _ rfl rfl) (@za _ _ _ _ _ (@zY _ ["other", "name", "number"] [none,some 3,some 1] _ _ _ _ _ _ _ _ _ _ (by exact (show zN ["T", "number", "lines", "name", "places", "cells"] (zj jh) ["other", "name", "number"] [none,some 3,some 1] _ from⟨rfl,by ac_rfl,by ac_rfl,by ac_rfl,by ac_rfl,rfl,by ac_rfl⟩)) rfl (@zV _ _ _ _ _ _ rfl gb.range (@za _ _ _ _ _ (@pw _ 1 _ _ rfl rfl) (@zf _) rfl) rfl) (fun _ _ _ _=>(@pgl _ 0 _ _ nd1 rfl rfl)) (fun _ _ _ _=>(@qh _)) (fun _ _ _ _=>(@qx _ _ _ _ _ (@za _ _ _ _ _ (@pw _ 1 _ _ rfl rfl) (@za _ _ _ _ _ (@pw _ 0 _ _ rfl rfl) (@za _ _ _ _ _ (@pw _ 2 _ _ rfl rfl) (@zf _) rfl) rfl) rfl))) (by intro _;rfl)) (@zf _) rfl) rfl rfl rfl rfl rfl rfl) rfl))) (@zX _)))) (by intro _;rfl)) (@zm _ _ _ (@zJ _ _ _ _ (@pw _ 2 _ _ rfl rfl))))),?_⟩
 obtain⟨a,w0,c0,vs,rfl,h1,h2,h3,h4⟩:=id ia
 have gcl:T.cs.length<=4:=c4
 refine⟨zt (by show 0<=1000;decide),fun sl hsl=>?_⟩
 have n0:=ze hsl (.lst [])
 refine⟨_,rfl,.inr (.inl ⟨a,_,2,_,rfl,rfl,SqT.of (n0 _ _ h1),rfl,c0,rfl,⟨_,SqT.of (n0 _ _ h3)⟩,?_⟩)⟩
 refine QB (xs:=vs) (fun i σ H'=>(∃ x2 x3 x4,σ=[some (.ref a),some (nV k),some (.ref sl),x2,x3,x4])/\zL H H'/\∃ xs,H' sl=some (.lst xs)/\Lzs H' (lw k (T.cs.take i)) xs) ⟨⟨_,_,_,rfl⟩,n0,[],zd,.nil⟩ (fun i σ H' _ h=>SqT.of (h.2.1 _ _ h3)) ?_ ?_
 ·rintro i x σ H1 hx ⟨⟨x2,x3,x4,rfl⟩,s1,xs,hs,hS⟩
  have hi:i < T.cs.length:=by
   rw[h4.len]
   exact (AE.mp hx).1
  have hcc:T.cs[i]? = some T.cs[i]:=AD hi
  generalize T.cs[i]=cc at hcc
  obtain⟨nl,p2,cs3⟩:=gT.cn cc (AN hcc)
  obtain⟨t,u,e1,k1,k2⟩:=h4.get hcc
  rw[hx] at e1
  cases e1
  have xl:xs.length<=166 * i:=by
   have l1:=AQ hS
   have l2:=lw_len k20 (T.cs.take i)
   rw[Ae] at l2
   rw[AB] at l1
   omega
  have ew:lw k (T.cs.take (i+1))=lw k (T.cs.take i)++lwC k cc:=by
   rw[take_snoc hcc]
   unfold lw
   rw[DJ,Dg]
  refine⟨t,_,rfl,SqT.of (s1 _ _ k1),rfl,_,_,rfl,_,_,rfl,_,_,rfl,rfl,?_⟩
  refine⟨_,rfl,rfl,_,rfl,?_⟩
  by_cases p1:cc.pl=1
  ·refine Yw (Ak (by rw[p1];rfl)) ?_
   refine⟨_,rfl,.inl ⟨rfl,_,SqL.of hs⟩,_,rfl,_,rfl,zt (by show 2<=1000;decide),fun t1 ht1=>?_⟩
   have n1:=ze ht1 (.tup [.str cc.nm,nV k])
   have hs1:=n1 _ _ hs
   refine⟨sl,_,_,rfl,rfl,hs1,zo (by omega),?_⟩
   refine⟨_,rfl,rfl,_,rfl,?_⟩
   refine Wn (AY fun z=>?_) ?_
   ·have:=V.int.inj z
    omega
   refine⟨⟨_,_,_,rfl⟩,(s1.trans n1).put hsl,_,zd,?_⟩
   rw[ew]
   have e:lwC k cc=[(cc.nm,[k])]:=by
    unfold lwC
    rw[if_pos p1,if_neg (by omega),Ap]
   rw[e]
   exact Lzs.app (Lns.tk ((Tk.of n1).trans (Tk.put hs1)) hS) (.cons ⟨t1,rfl,Tk.put hs1 _ _ zd⟩ .nil)
  refine Wn (AY fun z=>p1 ?_) ?_
  ·have:=V.int.inj z
   omega
  refine⟨_,rfl,rfl,_,rfl,?_⟩
  by_cases p2':cc.pl=2
  ·refine Yw (Ak (by rw[p2'];rfl)) ?_
   have half:∀ (f:Nat->List Nat) (tt:TA) (n:Nat) (H2:Hp) (D:Addr) (Q:VK),(∀ o H' Q',Q' (.str cc.nm :: (f o).map nV) H'->tt [some (nV o),some (.str cc.nm),some (nV k)] H' Q')->(∀ o,(f o).length=2)->n<=82->H2 D=none->(∀ ys H3,zL H2 H3->H3 D=some (.lst ys)->ys.length=n->Lzs H3 ((List.range n).map fun o=>(cc.nm,f o)) ys->Q (.ref D) H3) ->
     jt (Itr 0 n) (jm 0) tYes (tTup tt) [none,some (.str cc.nm),some (nV k)] H2 Q D:=fun f tt n H2 D Q ht hf hn hD q2=>by
    refine qc (fun j ys H'=>zL H2 H'/\ys.length=j/\Lzs H' ((List.range j).map fun o=>(cc.nm,f o)) ys) ⟨ze hD _,rfl,.nil⟩ ?_ ?_
    ·rintro j ys H3 hj ⟨s3,yl,hY⟩ hD3
     have ej:V.int (0+(j:Int))=nV j:=by show V.int _=V.int _;rw[EY]
     rw[ej]
     refine yes (ht j H3 _ ⟨zt (by rw[Az,AB,hf];decide),fun t1 ht1=>?_⟩)
     have n1:=ze ht1 (.tup (.str cc.nm :: (f j).map nV))
     have hD4:=n1 _ _ hD3
     refine ZP hj jg hD4 (zo (by omega)) ⟨(s3.trans n1).put hD,by rw[AI,yl];rfl,?_⟩
     rw[BV,AM]
     exact Lzs.app (Lns.tk ((Tk.of n1).trans (Tk.put hD4)) hY) (.cons ⟨t1,rfl,Tk.put hD4 _ _ zd⟩ .nil)
    ·rintro ys H3 ⟨s3,yl,hY⟩ hD3
     exact q2 ys H3 s3 hD3 yl hY
   refine⟨_,rfl,.inl ⟨rfl,_,SqL.of hs⟩,?_⟩
   refine⟨_,rfl,_,_,rfl,rfl,(k:Int)+1,rfl,by omega,by omega,fun D hD=>?_⟩
   rw[show ((k:Int)+1).toNat=k+1 by omega]
   refine half (fun o=>[k,o]) _ (k+1) H1 D _ (fun o H' Q' h=>⟨_,rfl,_,rfl,_,rfl,h⟩) (fun o=>rfl) (by omega) hD fun ys H2 s2 hD2 yl hY=>?_
   have hs2:=s2 _ _ hs
   refine⟨sl,D,_,_,rfl,rfl,hs2,hD2,zt (by omega),?_⟩
   have s02:zL H (upd H2 sl (.lst (xs++ys))):=(s1.trans s2).put hsl
   have hs2':(upd H2 sl (.lst (xs++ys))) sl=some (.lst (xs++ys)):=zd
   have hS2:Lzs (upd H2 sl (.lst (xs++ys))) (lw k (T.cs.take i)++(List.range (k+1)).map fun o=>(cc.nm,[k,o])) (xs++ys):=Lns.tk (Tk.put hs2) (Lzs.app (Lns.tk (Tk.of s2) hS) hY)
   generalize upd H2 sl (.lst (xs++ys))=H3 at *
   refine⟨_,rfl,.inl ⟨rfl,_,SqL.of hs2'⟩,?_⟩
   refine⟨_,rfl,(k:Int),rfl,by omega,by omega,fun D3 hD3=>?_⟩
   rw[A2]
   refine half (fun o=>[o,k]) _ k H3 D3 _ (fun o H' Q' h=>⟨_,rfl,_,rfl,_,rfl,h⟩) (fun o=>rfl) (by omega) hD3 fun zs H4 s4 hD4 zl hZ=>?_
   have hs4:=s4 _ _ hs2'
   refine⟨sl,D3,_,_,rfl,rfl,hs4,hD4,zt (by rw[AI];omega),?_⟩
   refine⟨⟨_,_,_,rfl⟩,(s02.trans s4).put hsl,_,zd,?_⟩
   have e:lwC k cc=((List.range (k+1)).map fun o=>(cc.nm,[k,o]))++(List.range k).map fun o=>(cc.nm,[o,k]):=by
    unfold lwC
    rw[if_neg p1,if_pos p2',Bw]
   rw[ew,e,<- Ag]
   exact Lns.tk (Tk.put hs4) (Lzs.app (Lns.tk (Tk.of s4) hS2) hZ)
  ·refine Wn (AY fun z=>p2' ?_) ?_
   ·have:=V.int.inj z
    omega
   refine⟨⟨_,_,_,rfl⟩,s1,xs,hs,?_⟩
   have e:lwC k cc=[]:=by
    unfold lwC
    rw[if_neg p1,if_neg p2']
    rfl
   rw[ew,e,Ap]
   exact hS
 ·rintro σ H1 ⟨⟨x2,x3,x4,rfl⟩,s1,xs,hs,hS⟩
  rw[<- h4.len,Ad] at hS
  exact⟨_,rfl,q sl xs H1 s1 hs hS⟩
abbrev Za:Stmt:=top 23
theorem zP:zI ["T", "columns", "length", "cells", "found", "letter", "column", "line", "number", "ahead"] ["T", "columns", "length"] (zj Za):=⟨rfl,rfl,rfl,by ac_rfl,rfl,by ac_rfl,by ac_rfl⟩
theorem Jh (F:Fun K "all_sayable" "all_sayable" Za f fd) (gb:Gb mg) {c:Nat->Addr} (cl:Cl K mg c) (d_cells_by_name:Def P w K mg base 1 "cells_by_name" ["H"] spCbn) (d_keep:Def1 P w K mg base 1 "keep" ["found", "column", "line"] (yL (c 6))) (d_line_column:Def P w K mg base 2 "line_column" ["T", "cells", "ahead", "line", "length"] WX) (d_lines_without_parts:Def P w K mg base 1 "lines_without_parts" ["T"] JS) (d_lines_with:Def P w K mg base 1 "lines_with" ["T", "number"] JT):jO P w K mg base (CX1 P w) 4 f fd ["T", "columns", "length"] (JW (c 6)):=by
 refine F.ok1 zP (fun vs H Q E h=>?_) (fun cdv A outer s H vs Q E hr h=>?_)
 ·obtain⟨v,ct,T,cps,cvs,len,rfl,_⟩:=h
  rfl
 obtain⟨v,ct,T,cps,cvs,len,rfl,ia,gT,nT,c4,hct,hpc,hgc,n9,q,qe⟩:=h
 refine⟨_,(@zg _ _ _ _ _ (@zy _ _ 3 _ _ _ _ zP.nd rfl (Or.inl rfl) (@zG _ _ _ _ _ _ _ _ _ _ _ d_cells_by_name hr (by omega) rfl (@za _ _ _ _ _ (@pw _ 0 _ _ rfl rfl) (@zf _) rfl) (by decide) rfl rfl) rfl (by walk_at "f")) (@zg _ _ _ _ _ (@zy _ _ 4 _ _ _ _ zP.nd rfl (Or.inl rfl) yz rfl (by walk_at "f")) (@zg _ _ _ _ _ (@js _ _ _ _ _ _ _ _ Di rfl (@qS _ K _ _ _ (@pw _ 1 _ _ rfl rfl) rfl) (@jp _ K _ _ _ _ 2 rfl (@zD _ _ _ _ _ (@pgl _ 5 _ _ zP.nd rfl rfl) (@zD _ _ _ _ _ (@pgl _ 6 _ _ zP.nd rfl rfl) (@jn _) rfl) rfl) rfl rfl rfl) (@zm _ _ _ (@qJ _ _ _ _ (@JG _ _ _ _ _ _ _ _ _ _ _ _ d_keep hr (by omega) rfl (@pass1 _ _ _ _ _ _ _ _ _ _ _ _ _ _ _ _ (fun _ _ _ z=>z)) (@za _ _ _ _ _ (@pw _ 4 _ _ rfl rfl) (@za _ _ _ _ _ (@zC _ _ _ _ _ _ _ _ _ (@zw _ K rfl) rfl gb.tuple zW (@za _ _ _ _ _ (@zC _ _ _ _ _ _ _ _ _ (@ZU _ K rfl) rfl gb.list ZI (@za _ _ _ _ _ (@pw _ 6 _ _ rfl rfl) (@zf _) rfl) (by decide) (by decide) rfl rfl) (@zf _) rfl) (by decide) (by decide) rfl rfl) (@za _ _ _ _ _ (@pw _ 5 _ _ rfl rfl) (@zf _) rfl) rfl) rfl) (by decide) rfl rfl) rfl)) (by intro _;rfl)) (@zg _ _ _ _ _ (@js _ _ _ _ _ _ _ _ Di rfl (@qk _ K _ _ _ (@zG _ _ _ _ _ _ _ _ _ _ _ d_lines_without_parts hr (by omega) rfl (@za _ _ _ _ _ (@pw _ 0 _ _ rfl rfl) (@zf _) rfl) (by decide) rfl rfl) rfl) (@pgl _ 7 _ _ zP.nd rfl rfl) (@zm _ _ _ (@qJ _ _ _ _ (@JG _ _ _ _ _ _ _ _ _ _ _ _ d_keep hr (by omega) rfl (@pass1 _ _ _ _ _ _ _ _ _ _ _ _ _ _ _ _ (fun _ _ _ z=>z)) (@za _ _ _ _ _ (@pw _ 4 _ _ rfl rfl) (@za _ _ _ _ _ (@zG _ _ _ _ _ _ _ _ _ _ _ d_line_column hr (by omega) rfl (@za _ _ _ _ _ (@pw _ 0 _ _ rfl rfl) (@za _ _ _ _ _ (@pw _ 3 _ _ rfl rfl) (@za _ _ _ _ _ (@qm _ _ _ _ (@zf _)) (@za _ _ _ _ _ (@pw _ 7 _ _ rfl rfl) (@za _ _ _ _ _ (@pw _ 2 _ _ rfl rfl) (@zf _) rfl) rfl) rfl) rfl) rfl) (by decide) rfl rfl) (@za _ _ _ _ _ (@pw _ 7 _ _ rfl rfl) (@zf _) rfl) rfl) rfl) (by decide) rfl rfl) rfl)) (by intro _;rfl)) (@zg _ _ _ _ _ (@zy _ _ 8 _ _ _ _ zP.nd rfl (Or.inl rfl) (@zh _ _ _ _) rfl (by walk_at "f")) (@zg _ _ _ _ _ (@JC _ _ _ _ _ _ Di (@zA _ _ _ _ _ _ _ _ (@yU _) (@pw _ 8 _ _ rfl rfl) (@zq _ _ _ _ _ _ _ _ _ (@Jw _) rfl gb.len qH (@za _ _ _ _ _ (@pw _ 4 _ _ rfl rfl) (@zf _) rfl) (by decide) (by decide) rfl rfl) (@zM _ _ (by decide) (by decide))) (@zg _ _ _ _ _ (@zy _ _ 9 _ _ _ _ zP.nd rfl (Or.inl rfl) (@zC _ _ _ _ _ _ _ _ _ (@QS _ rfl) rfl gb.list ZI (@za _ _ _ _ _ (@pw _ 4 _ _ rfl rfl) (@zf _) rfl) (by decide) (by decide) rfl rfl) rfl (by walk_at "f")) (@zg _ _ _ _ _ (@js _ _ _ _ _ _ _ _ Di rfl (@qk _ K _ _ _ (@zG _ _ _ _ _ _ _ _ _ _ _ d_lines_with hr (by omega) rfl (@za _ _ _ _ _ (@pw _ 0 _ _ rfl rfl) (@za _ _ _ _ _ (@pw _ 8 _ _ rfl rfl) (@zf _) rfl) rfl) (by decide) rfl rfl) rfl) (@pgl _ 7 _ _ zP.nd rfl rfl) (@zm _ _ _ (@qJ _ _ _ _ (@JG _ _ _ _ _ _ _ _ _ _ _ _ d_keep hr (by omega) rfl (@pass1 _ _ _ _ _ _ _ _ _ _ _ _ _ _ _ _ (fun _ _ _ z=>z)) (@za _ _ _ _ _ (@pw _ 4 _ _ rfl rfl) (@za _ _ _ _ _ (@zG _ _ _ _ _ _ _ _ _ _ _ d_line_column hr (by omega) rfl (@za _ _ _ _ _ (@pw _ 0 _ _ rfl rfl) (@za _ _ _ _ _ (@pw _ 3 _ _ rfl rfl) (@za _ _ _ _ _ (@pw _ 9 _ _ rfl rfl) (@za _ _ _ _ _ (@pw _ 7 _ _ rfl rfl) (@za _ _ _ _ _ (@pw _ 2 _ _ rfl rfl) (@zf _) rfl) rfl) rfl) rfl) rfl) (by decide) rfl rfl) (@za _ _ _ _ _ (@pw _ 7 _ _ rfl rfl) (@zf _) rfl) rfl) rfl) (by decide) rfl rfl) rfl)) (by intro _;rfl)) (@zm _ _ _ (@zy _ _ 8 _ _ _ _ zP.nd rfl (Or.inl rfl) (@zK _ _ _ _ _ _ _ _ (@qw _) (@pw _ 8 _ _ rfl rfl) (@zh _ _ _ _)) rfl (by walk_at "f")))))) (@zm _ _ _ (@zJ _ _ _ _ (@pw _ 4 _ _ rfl rfl))))))))),?_⟩
 have p2:∀ c ∈ T.cs,c.pl<=2:=fun c hc=>(gT.cn c hc).2.1
 have few:∀ {cols ls},FdM T (cps.map Prod.fst) len (cps.map Prod.snd) cols ls->cols.length<=81:=fun m=>m.le
 refine⟨_,rfl,v,T,rfl,ia,gT,nT,fun e H1 s1 hcd=>?_⟩
 refine fun fd hfd=>?_
 have fdH:=s1.free hfd
 have n1:=ze hfd (.dT [])
 have cpl:=AQ hpc
 refine⟨_,rfl,ct,rfl,⟨_,SqT.of (n1 _ _ (s1 _ _ hct))⟩,?_⟩
 refine QB (xs:=cvs) (fun i σ H'=>(∃ x5 x6 x7 x8 x9,σ=[some v,some (.ref ct),some (nV len),some (.ref e),some (.ref fd),x5,x6,x7,x8,x9])/\zL H1 H'/\∃ cols ls,FdH H' fd cols ls/\FdM T (cps.map Prod.fst) len (cps.map Prod.snd) cols ls/\∀ p ∈ cps.take i,p.2 ∈ cols) ⟨⟨_,_,_,_,_,rfl⟩,n1,[],[],⟨[],zd,rfl,.nil⟩,⟨.nil,(fun c h=>by cases h),(fun c h=>by cases h),(fun i l h=>by simp at h),rfl,A6 _,fun i l h=>by simp at h⟩,fun p h=>by simp at h⟩ (fun i σ H' _ h=>SqT.of ((s1.trans h.2.1) _ _ hct)) ?_ ?_
 ·rintro i x σ H2 hx ⟨⟨x5,x6,x7,x8,x9,rfl⟩,s2,cols,ls,hF,hM,hB⟩
  have hi:i < cps.length:=by
   rw[cpl]
   exact (AE.mp hx).1
  have hp:cps[i]? = some cps[i]:=AD hi
  generalize cps[i]=p at hp
  have pm:=AN hp
  obtain⟨lp,gp⟩:=hgc p pm
  obtain⟨t,u,rfl,ht,hu⟩:=Paired.at hpc i _ _ hp hx
  have S2:=s1.trans s2
  refine⟨t,_,rfl,SqT.of (S2 _ _ ht),rfl,_,_,rfl,_,_,rfl,rfl,?_⟩
  refine⟨_,rfl,_,rfl,u,_,rfl,.inr (SqT.of (S2 _ _ hu)),fun l1 hl1=>?_⟩
  have n3:=ze hl1 (.lst (p.2.map nV))
  refine⟨l1,_,rfl,.inl ⟨SqL.of zd,fun c hc=>⟨_,rfl,?_⟩⟩⟩
  have n4:=ze hc (.tup (p.2.map nV))
  dsimp only[tNil]
  refine W1 (l:=.inl p.1) (hF.same (n3.trans n4)) hM zd gp (.base (AW.mpr ⟨p,pm,rfl⟩)) (AW.mpr ⟨p,pm,rfl⟩) rfl (zip_mem pm) (fun cs a1 a2 a3=>qe cs _ (S2.trans (n3.trans n4)) a1 a2 a3) fun H5 cols' ls' o5 k5 hF5 hM5 hmo hin=>?_
  obtain⟨more,rfl⟩:=hmo
  refine⟨⟨_,_,_,_,_,rfl⟩,JV (s2.trans (n3.trans n4)) hfd o5,_,_,hF5,hM5,fun p' hp'=>?_⟩
  rw[take_snoc hp] at hp'
  rcases AV.mp hp' with h | h
  ·exact Ah _ (hB p' h)
  ·rw[AJ.mp h]
   exact hin
 rintro σ H2 ⟨⟨x5,x6,x7,x8,x9,rfl⟩,s2,cols,ls,hF,hM,hB0⟩
 rw[<- cpl,Ad] at hB0
 have hB:∀ b ∈ cps.map Prod.snd,b ∈ cols:=fun b hb=>by
  obtain⟨p,hp,rfl⟩:=AW.mp hb
  exact hB0 p hp
 refine⟨_,rfl,v,T,rfl,ia.same (s1.trans s2),gT,fun l us H3 s3 hl hus=>⟨l,rfl,⟨_,SqL.of hl⟩,?_⟩⟩
 have lfd:l ≠ fd:=fun z=>by
  obtain⟨kvs,h,_⟩:=hF.same s3
  rw[<- z,hl] at h
  cases h
 have ul:=AQ hus
 rw[AB] at ul
 refine qP (xs:=us) (fun j σ H'=>(∃ x5 x6 x7 x8 x9,σ=[some v,some (.ref ct),some (nV len),some (.ref e),some (.ref fd),x5,x6,x7,x8,x9])/\zL H1 H'/\H' l=some (.lst us)/\Lzs H' (l0 T.cs) us/\∃ cols ls,FdH H' fd cols ls/\FdM T (cps.map Prod.fst) len (cps.map Prod.snd) cols ls/\(∀ b ∈ cps.map Prod.snd,b ∈ cols)/\∀ z ∈ (l0 T.cs).take j,qo T len cols z ∈ cols) ⟨⟨_,_,_,_,_,rfl⟩,s2.trans s3,hl,hus,cols,ls,hF.same s3,hM,hB,fun z h=>by simp at h⟩ (fun j σ H' _ h=>SqL.of h.2.2.1) ?_ ?_
 ·rintro j x σ H4 hx ⟨⟨x5,x6,x7,x8,x9,rfl⟩,s4,hl4,hus4,cols,ls,hF,hM,hB,hZ⟩
  have hj:j < (l0 T.cs).length:=by
   rw[ul]
   exact (AE.mp hx).1
  have hz:(l0 T.cs)[j]? = some (l0 T.cs)[j]:=AD hj
  generalize (l0 T.cs)[j]=z at hz
  obtain⟨z0,zc⟩:=Jz (AN hz)
  obtain⟨t,rfl,ht⟩:=Paired.at hus4 j (Sum.inr z) _ (by rw[AR,hz];rfl) hx
  have zn:∀ n ∈ z.2,n < ([]:List (List Nat)).length:=fun n hn=>by rw[z0] at hn;cases hn
  have zn':∀ n ∈ z.2,n < cols.length:=fun n hn=>by rw[z0] at hn;cases hn
  refine⟨_,rfl,_,rfl,_,rfl,zt (by show 0<=1000;decide),fun nl hnl=>?_⟩
  have n5:=ze hnl (.lst [])
  have S5:=s1.trans (s4.trans n5)
  refine⟨_,rfl,_,rfl,v,e,nl,t,T,z,[],[],len,rfl,ia.same S5,gT,nT,hcd.same (s4.trans n5),zd,.nil,(fun _ h=>by cases h),n5 _ _ ht,zn,zc,n9,fun t' H6 s6 ht'=>⟨_,rfl,?_⟩⟩
  have el:qo T len [] z=qo T len cols z:=by
   have:=qU T len cols zn
   rw[Bw] at this
   exact this.symm
  have ht':H6 t'=some (.tup ((qo T len cols z).map nV)):=by rw[<- el];exact ht'
  dsimp only[tNil]
  refine W1 (l:=.inr z) (hF.same (n5.trans s6)) hM ht' (Wb gT nT hM.gc zn' zc) (Xm hM zn' zc) ⟨zn',zc⟩ ⟨t,rfl,(n5.trans s6) _ _ ht⟩ rfl (fun cs a1 a2 a3=>qe cs _ (s1.trans (s4.trans (n5.trans s6))) a1 a2 a3) fun H7 cols' ls' o7 k7 hF7 hM7 hmo hin=>?_
  obtain⟨more,rfl⟩:=hmo
  refine⟨⟨_,_,_,_,_,rfl⟩,JV (s4.trans (n5.trans s6)) hfd o7,o7 _ _ lfd ((n5.trans s6) _ _ hl4),Lns.tk k7 (Lns.tk (Tk.of (n5.trans s6)) hus4),_,_,hF7,hM7,(fun b hb=>Ah _ (hB b hb)),fun z' hz'=>?_⟩
  have z'0:z'.2=[]:=(Jz (BU hz')).1
  rw[qU T len more (fun n hn=>by rw[z'0] at hn;cases hn)]
  rw[take_snoc hz] at hz'
  rcases AV.mp hz' with h | h
  ·exact Ah _ (hZ z' h)
  ·rw[AJ.mp h]
   exact hin
 rintro σ H4 ⟨⟨x5,x6,x7,x8,x9,rfl⟩,s4,hl4,hus4,cols,ls,hF,hM,hB,hZ⟩
 rw[<- ul,Ad] at hZ
 refine⟨fun m σ' H'=>(∃ k x5 x6 x7 x9,σ'=[some v,some (.ref ct),some (nV len),some (.ref e),some (.ref fd),x5,x6,x7,some (nV k),x9]/\zL H1 H'/\∃ cols ls,FdH H' fd cols ls/\FdM T (cps.map Prod.fst) len (cps.map Prod.snd) cols ls/\(∀ b ∈ cps.map Prod.snd,b ∈ cols)/\(∀ z ∈ l0 T.cs,qo T len cols z ∈ cols)/\(∀ k',k' < k->∀ z ∈ lw k' T.cs,qo T len cols z ∈ cols)/\k<=cols.length/\m+k=82),⟨82,0,_,_,_,_,rfl,s4,cols,ls,hF,hM,hB,hZ,(fun k' h=>absurd h (by omega)),A6 _,rfl⟩,?_⟩
 rintro m σ H5 ⟨k,x5,x6,x7,x9,rfl,s5,cols,ls,hF,hM,hB,hZ,hW,hk,hm⟩
 obtain⟨kvs,hkvs,ek,hln⟩:=id hF
 have kl:kvs.length=cols.length:=by
  have:=BL List.length ek
  rw[AB,AB] at this
  exact this
 have c16:=few hM
 refine⟨_,rfl,_,rfl,fd,kvs,rfl,hkvs,_,_,rfl,rfl,_,rfl,?_⟩
 by_cases hlt:k < cols.length
 ·refine y8 (Ak (by omega)) ?_
  refine⟨fun σ' H'=>∃ m',m' < m/\(∃ k x5 x6 x7 x9,σ'=[some v,some (.ref ct),some (nV len),some (.ref e),some (.ref fd),x5,x6,x7,some (nV k),x9]/\zL H1 H'/\∃ cols ls,FdH H' fd cols ls/\FdM T (cps.map Prod.fst) len (cps.map Prod.snd) cols ls/\(∀ b ∈ cps.map Prod.snd,b ∈ cols)/\(∀ z ∈ l0 T.cs,qo T len cols z ∈ cols)/\(∀ k',k' < k->∀ z ∈ lw k' T.cs,qo T len cols z ∈ cols)/\k<=cols.length/\m'+k=82),fun σ' H' h=>h,?_⟩
  refine⟨_,rfl,fd,kvs,cols,rfl,hkvs,ek,fun al avs hal hcol=>?_⟩
  have n6:=ze hal (.lst avs)
  refine⟨_,rfl,_,rfl,v,T,k,rfl,ia.same (s1.trans (s5.trans n6)),gT,c4,(by omega),fun l us H6 s6 hl hus=>⟨l,rfl,⟨_,SqL.of hl⟩,?_⟩⟩
  have lfd:l ≠ fd:=fun z=>by
   have h:=s6 _ _ (n6 _ _ hkvs)
   rw[<- z,hl] at h
   cases h
  have afd:al ≠ fd:=Q2 hkvs hal
  have ul:=AQ hus
  rw[AB] at ul
  have hcol6:wU H6 cols avs:=wU.tk (Tk.of (n6.trans s6)) hcol
  refine qP (xs:=us) (fun j σ H'=>(∃ x5 x6 x7,σ=[some v,some (.ref ct),some (nV len),some (.ref e),some (.ref fd),x5,x6,x7,some (nV k),some (.ref al)])/\zL H1 H'/\H' l=some (.lst us)/\Lzs H' (lw k T.cs) us/\H' al=some (.lst avs)/\wU H' cols avs/\∃ more ls,FdH H' fd (cols++more) ls/\FdM T (cps.map Prod.fst) len (cps.map Prod.snd) (cols++more) ls/\∀ z ∈ (lw k T.cs).take j,qo T len cols z ∈ cols++more) ⟨⟨_,_,_,rfl⟩,s5.trans (n6.trans s6),hl,hus,s6 _ _ zd,hcol6,[],ls,by rw[Ap];exact hF.same (n6.trans s6),by rw[Ap];exact hM,fun z h=>by simp at h⟩ (fun j σ H' _ h=>SqL.of h.2.2.1) ?_ ?_
  ·rintro j x σ H7 hx ⟨⟨x5,x6,x7,rfl⟩,s7,hl7,hus7,hal7,hcol7,more,ls',hF7,hM7,hZ7⟩
   have hj:j < (lw k T.cs).length:=by
    rw[ul]
    exact (AE.mp hx).1
   have hz:(lw k T.cs)[j]? = some (lw k T.cs)[j]:=AD hj
   generalize (lw k T.cs)[j]=z at hz
   obtain⟨zk,zc⟩:=yN (AN hz) p2
   have zn:∀ n ∈ z.2,n < cols.length:=fun n hn=>DO (zk n hn) hlt
   have zn':∀ n ∈ z.2,n < (cols++more).length:=fun n hn=>by rw[AI];exact AS (zn n hn) (BX _ _)
   obtain⟨t,rfl,ht⟩:=Paired.at hus7 j (Sum.inr z) _ (by rw[AR,hz];rfl) hx
   have S7:=s1.trans s7
   refine⟨_,rfl,_,rfl,_,rfl,_,rfl,_,rfl,_,rfl,v,e,al,t,T,z,cols,avs,len,rfl,ia.same S7,gT,nT,hcd.same s7,hal7,hcol7,hM.gc,ht,zn,zc,n9,fun t' H8 s8 ht'=>⟨_,rfl,?_⟩⟩
   have el:=qU T len more zn
   have ht':H8 t'=some (.tup ((qo T len (cols++more) z).map nV)):=by rw[el];exact ht'
   dsimp only[tNil]
   refine W1 (l:=.inr z) (hF7.same s8) hM7 ht' (Wb gT nT hM7.gc zn' zc) (Xm hM7 zn' zc) ⟨zn',zc⟩ ⟨t,rfl,s8 _ _ ht⟩ rfl (fun cs a1 a2 a3=>qe cs _ (s1.trans (s7.trans s8)) a1 a2 a3) fun H9 cols' ls9 o9 k9 hF9 hM9 hmo hin=>?_
   obtain⟨more',rfl⟩:=hmo
   rw[Ag] at hF9 hM9 hin
   refine⟨⟨_,_,_,rfl⟩,JV (s7.trans s8) hfd o9,o9 _ _ lfd (s8 _ _ hl7),Lns.tk k9 (Lns.tk (Tk.of s8) hus7),o9 _ _ afd (s8 _ _ hal7),wU.tk k9 (wU.tk (Tk.of s8) hcol7),more++more',ls9,hF9,hM9,fun z' hz'=>?_⟩
   rw[take_snoc hz] at hz'
   rcases AV.mp hz' with h | h
   ·rw[<- Ag]
    exact Ah _ (hZ7 z' h)
   ·rw[AJ.mp h,<- el]
    exact hin
  ·rintro σ H7 ⟨⟨x5,x6,x7,rfl⟩,s7,hl7,hus7,hal7,hcol7,more,ls',hF7,hM7,hZ7⟩
   rw[<- ul,Ad] at hZ7
   refine⟨_,rfl,_,_,rfl,rfl,?_⟩
   have l7:(cols++more).length=cols.length+more.length:=AI
   refine⟨m - 1,by omega,k+1,_,_,_,_,rfl,s7,cols++more,ls',hF7,hM7,(fun b hb=>Ah _ (hB b hb)),(fun z hz=>?_),(fun k' hk' z hz=>?_),by omega,by omega⟩
   ·rw[qU T len more (fun n hn=>by rw[(Jz hz).1] at hn;cases hn)]
    exact Ah _ (hZ z hz)
   ·rw[qU T len more (fun n hn=>by have:=(yN hz p2).1 n hn;omega)]
    by_cases e:k'=k
    ·rw[e] at hz
     exact hZ7 z hz
    ·exact Ah _ (hW k' (by omega) z hz)
 ·refine Wz (AY (by omega)) ?_
  exact⟨_,rfl,q fd cols ls H5 (s1.trans s5) fdH hF hM fun col h=>sd_in gT hB hZ (fun k' h'=>hW k' (by omega)) h⟩
abbrev Q6:Stmt:=top 22
theorem Qa:zI ["T", "columns", "wish", "found", "last"] ["T", "columns", "wish"] (zj Q6):=⟨rfl,rfl,rfl,by ac_rfl,rfl,by ac_rfl,by ac_rfl⟩
theorem Yq (F:Fun K "sayable" "sayable" Q6 f fd) (gb:Gb mg) {c:Nat->Addr} (cl:Cl K mg c) (d_all_sayable:Def1 P w K mg base 4 "all_sayable" ["T", "columns", "length"] (JW (c 6))) (d_needed_alone:Def P w K mg base 4 "needed_alone" ["lines"] W0):jO P w K mg base (CX1 P w) 5 f fd ["T", "columns", "wish"] (spSay (c 6)):=by
 refine F.ok1 Qa (fun vs H Q E h=>?_) (fun cdv A outer s H vs Q E hr h=>?_)
 ·obtain⟨v,ct,wt,T,cps,cvs,wish,rfl,_⟩:=h
  rfl
 obtain⟨v,ct,wt,T,cps,cvs,wish,rfl,ia,gT,nT,c4,hct,hpc,hgc,hwt,w1,w9,q1,q0,qe⟩:=h
 refine⟨_,(@zg _ _ _ _ _ (@zy _ _ 3 _ _ _ _ Qa.nd rfl (Or.inl rfl) (@JG _ _ _ _ _ _ _ _ _ _ _ _ d_all_sayable hr (by omega) rfl (@pass1 _ _ _ _ _ _ _ _ _ _ _ _ _ _ _ _ (fun _ _ _ z=>z)) (@za _ _ _ _ _ (@pw _ 0 _ _ rfl rfl) (@za _ _ _ _ _ (@pw _ 1 _ _ rfl rfl) (@za _ _ _ _ _ (@zq _ _ _ _ _ _ _ _ _ (@zS _ K rfl) rfl gb.len qH (@za _ _ _ _ _ (@pw _ 2 _ _ rfl rfl) (@zf _) rfl) (by decide) (by decide) rfl rfl) (@zf _) rfl) rfl) rfl) (by decide) rfl rfl) rfl (by walk_at "f")) (@zg _ _ _ _ _ (@qO _ _ _ _ _ _ _ _ (@zA _ _ _ _ _ _ _ _ (@QP _ _ hr) (@pw _ 2 _ _ rfl rfl) (@pw _ 3 _ _ rfl rfl) (by with_unfolding_all rfl)) (@zm _ _ _ (@zJ _ _ _ _ (@qx _ _ _ _ _ (@za _ _ _ _ _ (@qF _ _ _ _) (@za _ _ _ _ _ (@zC _ _ _ _ _ _ _ _ _ (@zw _ K rfl) rfl gb.tuple zW (@za _ _ _ _ _ (@zq _ _ _ _ _ _ _ _ _ (@QY _ rfl) rfl gb.sorted QK (@za _ _ _ _ _ (@pw _ 3 _ _ rfl rfl) (@zf _) rfl) (by decide) (by decide) rfl rfl) (@zf _) rfl) (by decide) (by decide) rfl rfl) (@zf _) rfl) rfl)))) (@zX _)) (@zg _ _ _ _ _ (@zy _ _ 4 _ _ _ _ Qa.nd rfl (Or.inl rfl) (@jU _ K _ _ _ _ _ _ _ _ _ _ _ Av PySem.F.slot_list_index PySem.F.type_list_index (@xK _ _ hr) (@zC _ _ _ _ _ _ _ _ _ (@QS _ rfl) rfl gb.list ZI (@za _ _ _ _ _ (@pw _ 3 _ _ rfl rfl) (@zf _) rfl) (by decide) (by decide) rfl rfl) (@za _ _ _ _ _ (@pw _ 2 _ _ rfl rfl) (@zf _) rfl) rfl rfl rfl rfl rfl rfl) rfl (by walk_at "f")) (@zm _ _ _ (@zJ _ _ _ _ (@qx _ _ _ _ _ (@za _ _ _ _ _ (@qF _ _ _ _) (@za _ _ _ _ _ (@zG _ _ _ _ _ _ _ _ _ _ _ d_needed_alone hr (by omega) rfl (@za _ _ _ _ _ (@qA _ _ _ _ _ _ _ _ _ _ (@Zq _ K rfl) (@zC _ _ _ _ _ _ _ _ _ (@Yj _ rfl) rfl gb.list ZI (@za _ _ _ _ _ (@pe_dvals _ _ _ _ _ (@pw _ 3 _ _ rfl rfl) rfl rfl) (@zf _) rfl) (by decide) (by decide) rfl rfl) (@jo _) (@qR _ _ _ (@zK _ _ _ _ _ _ _ _ (@qw _) (@pw _ 4 _ _ rfl rfl) (@zh _ _ _ _)))) (@zf _) rfl) (by decide) rfl rfl) (@zf _) rfl) rfl))))))),?_⟩
 refine⟨_,rfl,_,rfl,_,rfl,_,_,rfl,.inr ⟨_,SqT.of hwt,rfl⟩,v,ct,T,cps,cvs,wish.length,by rw[AB];rfl,ia,gT,nT,c4,hct,hpc,hgc,w9,fun fd cols ls H1 s1 hfd hF hM hin=>?_,fun cs H1 s1 a1 a2 a3=>qe cs H1 s1 a1 a2 a3⟩
 obtain⟨kvs,hkvs,ek,hln⟩:=id hF
 have few:cols.length<=81:=hM.le
 have sdi:∀ col,col ∈ cols ↔ Sd T wish.length (cps.map Prod.snd) col:=fun col=>⟨hM.sd col,hin col⟩
 have hwt1:=s1 _ _ hwt
 refine⟨_,rfl,_,rfl,fd,wt,kvs,jK wish,rfl,rfl,hkvs,by rw[Qg];exact hwt1,_,rfl,?_⟩
 by_cases hw:wish ∈ cols
 ·rw[(jw ek wish).mpr hw]
  refine JF ?_
  refine⟨_,rfl,fd,kvs,cols,rfl,hkvs,ek,fun al avs hal hcol=>?_⟩
  have n2:=ze hal (.lst avs)
  obtain⟨j,hj⟩:=A5.mp hw
  have jl:=(AE.mp hj).1
  have hno:∀ m,m < j->cols[m]? ≠ some wish:=fun m hm e=>by
   have:=(CO (by omega) hM.nd).mp (e.trans hj.symm)
   omega
  refine⟨.inl ⟨rfl,_,SqL.of zd⟩,_,rfl,al,wt,avs,cols,wish,j,rfl,rfl,zd,ColVs.tk (Tk.of n2) hcol,(fun k hk=>(hM.gc k hk).1),n2 _ _ hwt1,hj,hno,?_⟩
  have hk2:=n2 _ _ hkvs
  refine⟨_,rfl,fd,kvs,rfl,hk2,fun r hr'=>?_⟩
  have n3:=ze hr' (ViewO r fd)
  have rfd:r ≠ fd:=Q2 hk2 hr'
  refine⟨r,fd,kvs,rfl,zd,rfd,n3 _ _ hk2,fun l hl=>?_⟩
  have n4:=ze hl (.lst (kvs.map Prod.snd))
  refine⟨_,rfl,_,_,rfl,rfl,_,rfl,.inl ⟨l,_,rfl,SqL.of zd,fun y hy=>?_⟩⟩
  rw[show some ((j:Int)+1)=some (((j+1:Nat):Nat):Int) from rfl,Wa]
  have n5:=ze hy (.lst ((kvs.map Prod.snd).take (j+1)))
  have S5:=n2.trans (n3.trans (n4.trans n5))
  have kl:kvs.length=cols.length:=by
   have:=BL List.length ek
   rw[AB,AB] at this
   exact this
  have ll:=hM.ll
  refine⟨y,_,ls.take (j+1),T,cps.map Prod.fst,rfl,.inr zd,yK _ (Lns.tk (Tk.of S5) hln),Q1 hM.gl _,(fun c hc=>(gT.cn c hc).2.1),(fun x hx=>?_),by rw[Ae];omega,by rw[Ae];omega,fun t us' ns H6 s6 ht clos ris hln'=>?_⟩
  ·obtain⟨p,hp,rfl⟩:=AW.mp hx
   exact (hgc p hp).1
  refine⟨zt (by show 2<=1000;decide),fun t2 ht2=>?_⟩
  have n7:=ze ht2 (.tup [.str "said",.ref t])
  have nl:=AQ hln'
  have nl2:ns.length<=81:=Aq (Tn.nodup_len _ _ clos.nd clos.lt) (by rw[Ae];omega)
  refine q1 ((sdi wish).mp hw) cols sdi few t2 t us' _ _ (s1.trans (S5.trans (s6.trans n7))) zd (n7 _ _ ht) (Lns.tk (Tk.of n7) hln') (yO (Q1 hM.gl _) clos ris) ?_ (by rw[AB];exact nl2) (told_of hM hj clos ris)
  rw[AB]
  exact List.length_pos_of_mem clos.last
 ·have hv:(qY kvs (jK wish)).isSome=false:=by
   cases h:(qY kvs (jK wish)).isSome with
   | false=>rfl
   | true=>exact absurd ((jw ek wish).mp h) hw
  rw[hv]
  refine J8 ?_
  refine⟨_,rfl,fd,kvs,cols,wish.length,rfl,hkvs,ek,(fun k hk=>(hM.gc k hk).1),w1,hM.nd,by omega,fun l bs ks hl hP per asc=>?_⟩
  have n2:=ze hl (.lst bs)
  refine⟨l,_,rfl,.inl ⟨SqL.of zd,fun ut hut=>?_⟩⟩
  have n3:=ze hut (.tup bs)
  refine⟨zt (by show 2<=1000;decide),fun t ht=>?_⟩
  have n4:=ze ht (.tup [.str "unsaid",.ref ut])
  exact q0 (fun h=>hw ((sdi wish).mpr h)) t ut bs ks _ (s1.trans (n2.trans (n3.trans n4))) zd (n4 _ _ zd) (ColVs.tk (Tk.of (n2.trans (n3.trans n4))) hP) asc (fun col=>by rw[per.mem_iff,sdi]) (by rw[per.length_eq];exact few)
abbrev Qb:Stmt:=top 31
theorem Zb:zI ["_law_script", "_law_place", "_law_cell_here", "_law_one"] ["_law_script", "_law_place"] (zj Qb):=⟨rfl,rfl,rfl,by ac_rfl,rfl,by ac_rfl,by ac_rfl⟩
theorem W7 (F:Fun K "_law_well" "_law_well" Qb f fd) (gb:Gb mg) {c:Nat->Addr} (cl:Cl K mg c):jO P w K mg base CX0 1 f fd ["_law_script", "_law_place"] (Xa K):=by
 refine F.ok Zb (fun vs H Q E h=>?_) (fun cdv A outer s H vs Q E hr h=>?_)
 ·obtain⟨a,ns,pl,rfl,_⟩:=h
  rfl
 obtain⟨a,ns,pl,rfl,hS,hn,q⟩:=h
 refine⟨_,(@zg _ _ _ _ _ (@zy _ _ 2 _ _ _ _ Zb.nd rfl (Or.inl rfl) (@zh _ _ _ _) rfl (by walk_at "f")) (@zg _ _ _ _ _ (@js _ _ _ _ _ _ _ _ BF rfl (@qk _ K _ _ _ (@qA _ _ _ _ _ _ _ _ _ _ (@Zq _ K rfl) (@pw _ 0 _ _ rfl rfl) (@qR _ _ _ (@pw _ 1 _ _ rfl rfl)) (@qR _ _ _ (@zK _ _ _ _ _ _ _ _ (@qw _) (@pw _ 1 _ _ rfl rfl) (@zh _ _ _ _)))) rfl) (@pgl _ 3 _ _ Zb.nd rfl rfl) (@zm _ _ _ (@zy _ _ 2 _ _ _ _ Zb.nd rfl (Or.inl rfl) (@pw _ 3 _ _ rfl rfl) rfl (by walk_at "f"))) (by intro _;rfl)) (@zg _ _ _ _ _ (@qO _ _ _ _ _ _ _ _ (@PW.pt _ _ _ (@wc _ _ _ _ _ _ _ (@zA _ _ _ _ _ _ _ _ (@yU _) (@pw _ 2 _ _ rfl rfl) (@zh _ _ _ _) (@zM _ _ (by decide) (by decide))) (@Qy _ _ _ _ (@zA _ _ _ _ _ _ _ _ (@op_ge _) (@pw _ 2 _ _ rfl rfl) (@zK _ _ _ _ _ _ _ _ (@op_pow _) (@zh _ _ _ _) (@zh _ _ _ _)) (@zM _ _ (by decide) (by decide)))))) (@zm _ _ _ (@zJ _ _ _ _ (@qm _ _ _ _ (@za _ _ _ _ _ (@zh _ _ _ _) (@za _ _ _ _ _ (@zq _ _ _ _ _ _ _ _ _ (@call_abs _) rfl gb.abs bt_abs (@za _ _ _ _ _ (@pw _ 2 _ _ rfl rfl) (@zf _) rfl) (by decide) (by decide) rfl rfl) (@zf _) rfl) rfl)))) (@zX _)) (@zm _ _ _ (@zJ _ _ _ _ (@qm _ _ _ _ (@za _ _ _ _ _ (@zh _ _ _ _) (@za _ _ _ _ _ (@zK _ _ _ _ _ _ _ _ (@qw _) (@zK _ _ _ _ _ _ _ _ (@ZR _) (@zK _ _ _ _ _ _ _ _ (@qw _) (@zK _ _ _ _ _ _ _ _ (@ZR _) (@pw _ 2 _ _ rfl rfl) (@zh _ _ _ _)) (@zK _ _ _ _ _ _ _ _ (@ZQ _) (@zh _ _ _ _) (@pw _ 1 _ _ rfl rfl))) (@zh _ _ _ _)) (@zh _ _ _ _)) (@zf _) rfl) rfl))))))),?_⟩
 refine⟨_,rfl,_,rfl,_,rfl,_,rfl,_,_,rfl,rfl,_,rfl,.inl ⟨a,_,rfl,hS,fun y hy=>?_⟩⟩
 obtain⟨ms,em⟩:=cut_ints ns (some pl) (some (pl+1))
 rw[em] at *
 refine⟨y,rfl,⟨_,SqL.of zd⟩,?_⟩
 refine qP (xs:=ms.map V.int) (fun _ σ H'=>(∃ (c:Int) (x:Option V),σ=[some (.ref a),some (.int pl),some (.int c),x])/\zL H H'/\H' y=some (.lst (ms.map V.int))) ⟨⟨_,_,rfl⟩,ze hy _,zd⟩ (fun i σ H' _ h=>SqL.of h.2.2) ?_ ?_
 ·rintro i x σ H1 hx ⟨⟨c,x',rfl⟩,s1,h1⟩
  rw[AR] at hx
  obtain⟨cv,_,rfl⟩:=At.mp hx
  exact⟨_,rfl,⟨_,_,rfl⟩,s1,h1⟩
 ·rintro σ H1 ⟨⟨c,x',rfl⟩,s1,h1⟩
  walk_at "rd"
  refine Yu (fun c1=>?_) (fun c1=>?_)
  ·walk_at "rd"
   exact⟨zt (by show 2<=1000;decide),fun p hp=>q p _ (s1.free hp) (s1.trans (ze hp _)) Wel.put⟩
  ·walk_at "rd"
   refine Yu (fun c2=>?_) (fun c2=>?_)
   ·walk_at "rd"
    exact⟨zt (by show 2<=1000;decide),fun p hp=>q p _ (s1.free hp) (s1.trans (ze hp _)) Wel.put⟩
   ·walk_at "rd"
    exact⟨zt (by show 2<=1000;decide),fun p hp=>q p _ (s1.free hp) (s1.trans (ze hp _)) Wel.put⟩
abbrev Qc:Stmt:=top 32
theorem jF:zI ["_law_well_here", "_law_many", "_law_found", "_law_turn", "_law_upper", "_law_lower"] ["_law_well_here", "_law_many"] (zj Qc):=⟨rfl,rfl,rfl,by ac_rfl,rfl,by ac_rfl,by ac_rfl⟩
theorem W8 (F:Fun K "_law_draw" "_law_draw" Qc f fd) (gb:Gb mg) {c:Nat->Addr} (cl:Cl K mg c):jO P w K mg base CX0 1 f fd ["_law_well_here", "_law_many"] Zt:=by
 refine F.ok jF (fun vs H Q E h=>?_) (fun cdv A outer s H vs Q E hr h=>?_)
 ·obtain⟨p,m,rfl,_⟩:=h
  rfl
 obtain⟨p,m,rfl,w,m0,m1,q⟩:=h
 refine⟨_,(@zg _ _ _ _ _ (@qO _ _ _ _ _ _ _ _ (@zA _ _ _ _ _ _ _ _ (@Zh _) (@zO _ _ _ _ _ _ _ (@zr _ K rfl) (@pw _ 0 _ _ rfl rfl) (@zh _ _ _ _) (fun _ _=>rfl)) (@zh _ _ _ _) (@zM _ _ (by decide) (by decide))) (@zg _ _ _ _ _ (@zy _ _ 2 _ _ _ _ jF.nd rfl (Or.inl rfl) (@zK _ _ _ _ _ _ _ _ (@ZR _) (@zO _ _ _ _ _ _ _ (@zr _ K rfl) (@pw _ 0 _ _ rfl rfl) (@zh _ _ _ _) (fun _ _=>rfl)) (@pw _ 1 _ _ rfl rfl)) rfl (by walk_at "f")) (@zg _ _ _ _ _ (@wf _ _ _ _ _ _ (@zK _ _ _ _ _ _ _ _ (@YE _) (@zO _ _ _ _ _ _ _ (@zr _ K rfl) (@pw _ 0 _ _ rfl rfl) (@zh _ _ _ _) (fun _ _=>rfl)) (@pw _ 1 _ _ rfl rfl)) (@pg_sub _ _ _ _ _ _ _ (@pw _ 0 _ _ rfl rfl) (@zh _ _ _ _) (@ym _) (by intro _;rfl)) rfl rfl rfl) (@zm _ _ _ (@zJ _ _ _ _ (@pw _ 2 _ _ rfl rfl))))) (@zX _)) (@zg _ _ _ _ _ (@js _ _ _ _ _ _ _ _ BF rfl (@zV _ _ _ _ _ _ rfl gb.range (@za _ _ _ _ _ (@zh _ _ _ _) (@zf _) rfl) rfl) (@pgl _ 3 _ _ jF.nd rfl rfl) (@zg _ _ _ _ _ (@wf _ _ _ _ _ _ (@zq _ _ _ _ _ _ _ _ _ (@Wt _) rfl gb.divmod Y7 (@za _ _ _ _ _ (@zO _ _ _ _ _ _ _ (@zr _ K rfl) (@pw _ 0 _ _ rfl rfl) (@zh _ _ _ _) (fun _ _=>rfl)) (@za _ _ _ _ _ (@zh _ _ _ _) (@zf _) rfl) rfl) (by decide) (by decide) rfl rfl) (@jp _ K _ _ _ _ 2 rfl (@zD _ _ _ _ _ (@pgl _ 4 _ _ jF.nd rfl rfl) (@zD _ _ _ _ _ (@pgl _ 5 _ _ jF.nd rfl rfl) (@jn _) rfl) rfl) rfl rfl rfl) rfl rfl rfl) (@zm _ _ _ (@wf _ _ _ _ _ _ (@zK _ _ _ _ _ _ _ _ (@ZR _) (@zK _ _ _ _ _ _ _ _ (@qw _) (@zK _ _ _ _ _ _ _ _ (@qw _) (@zK _ _ _ _ _ _ _ _ (@ZQ _) (@pw _ 5 _ _ rfl rfl) (@zh _ _ _ _)) (@zK _ _ _ _ _ _ _ _ (@ZQ _) (@pw _ 4 _ _ rfl rfl) (@zh _ _ _ _))) (@zh _ _ _ _)) (@zh _ _ _ _)) (@pg_sub _ _ _ _ _ _ _ (@pw _ 0 _ _ rfl rfl) (@zh _ _ _ _) (@ym _) (by intro _;rfl)) rfl rfl rfl))) (by intro _;rfl)) (@zm _ _ _ (@zJ _ _ _ _ (@zK _ _ _ _ _ _ _ _ (@ZR _) (@zK _ _ _ _ _ _ _ _ (@YE _) (@zO _ _ _ _ _ _ _ (@zr _ K rfl) (@pw _ 0 _ _ rfl rfl) (@zh _ _ _ _) (fun _ _=>rfl)) (@zh _ _ _ _)) (@pw _ 1 _ _ rfl rfl)))))),?_⟩
 obtain⟨x,y,hp⟩:=id w
 refine⟨_,rfl,.inl ⟨p,_,0,_,rfl,rfl,SqL.of hp,rfl,rfl,_,rfl,Yu (fun c=>?_) (fun c=>?_)⟩⟩
 ·walk_at "rd"
  have e:=Int.emod_nonneg y (show (m:Int) ≠ 0 by omega)
  have l:=Int.emod_lt_of_pos y (show (0:Int) < m by omega)
  have q1:=q (y % (m:Int)).toNat _ (by omega) (Off.put (o:=.lst [.int x,.int (y / (m:Int))])) ⟨_,_,zd⟩
  rw[show nV (y % (m:Int)).toNat=V.int (y % (m:Int)) by show V.int _=_;rw[Int.toNat_of_nonneg e]] at q1
  exact q1
 ·refine⟨2,rfl,by decide,by decide,?_⟩
  refine wg (fun _ σ H'=>(∃ x2 x3 x4 x5,σ=[some (.ref p),some (.int (m:Int)),x2,x3,x4,x5])/\Off p H H'/\Wel H' p) ⟨⟨_,_,_,_,rfl⟩,Off.refl,w⟩ ?_ ?_
  ·rintro i σ H1 hi ⟨⟨x2,x3,x4,x5,rfl⟩,o1,⟨a,b,h1⟩⟩
   refine⟨_,rfl,.inl ⟨p,_,1,_,rfl,rfl,SqL.of h1,rfl,_,_,rfl,⟨by decide,by decide⟩,fun t ht=>?_⟩⟩
   refine⟨t,_,rfl,SqT.of zd,rfl,_,_,rfl,_,_,rfl,rfl,?_⟩
   have h2:=ze ht (.tup [.int (b / 4099),.int (b % 4099)]) _ _ h1
   walk_at "rd"
   exact⟨⟨_,_,_,_,rfl⟩,(o1.trans (Off.of (ze ht _))).trans Off.put,Wel.put⟩
  ·rintro σ H1 ⟨⟨x2,x3,x4,x5,rfl⟩,o1,⟨a,b,h1⟩⟩
   walk_at "rd"
   have e:=Int.emod_nonneg (b / 5) (show (m:Int) ≠ 0 by omega)
   have l:=Int.emod_lt_of_pos (b / 5) (show (0:Int) < m by omega)
   have q1:=q (b / 5 % (m:Int)).toNat _ (by omega) o1 ⟨a,b,h1⟩
   rw[show nV (b / 5 % (m:Int)).toNat=V.int (b / 5 % (m:Int)) by show V.int _=_;rw[Int.toNat_of_nonneg e]] at q1
   exact q1
abbrev jG:Stmt:=top 33
theorem qy:zI ["_law_well_here", "_law_many", "_law_signs", "_law_first", "_law_pick", "_law_some", "_law_size", "_law_at"] ["_law_well_here", "_law_many"] (zj jG):=⟨rfl,rfl,rfl,by ac_rfl,rfl,by ac_rfl,by ac_rfl⟩
theorem Wf (F:Fun K "_law_names" "_law_names" jG f fd) (gb:Gb mg) {c:Nat->Addr} (cl:Cl K mg c) (d_law_draw:Def P w K mg base 1 "_law_draw" ["_law_well_here", "_law_many"] Zt):jO P w K mg base CX0 2 f fd ["_law_well_here", "_law_many"] WS:=by
 refine F.ok qy (fun vs H Q E h=>?_) (fun cdv A outer s H vs Q E hr h=>?_)
 ·obtain⟨p,k,rfl,_⟩:=h
  rfl
 obtain⟨p,k,rfl,w,k8,q⟩:=h
 have nd0:(["_law_k", "_law_signs", "_law_first"]:List Str).Nodup:=by ac_rfl
 have nd1:(["_law_k", "_law_at", "_law_signs", "_law_first", "_law_size"]:List Str).Nodup:=by ac_rfl
 refine⟨_,(@zg _ _ _ _ _ (@zy _ _ 2 _ _ _ _ qy.nd rfl (Or.inr rfl) (@qF _ _ _ _) rfl (by walk_at "f")) (@zg _ _ _ _ _ (@zy _ _ 3 _ _ _ _ qy.nd rfl (Or.inr rfl) (@zG _ _ _ _ _ _ _ _ _ _ _ d_law_draw hr (by omega) rfl (@za _ _ _ _ _ (@pw _ 0 _ _ rfl rfl) (@za _ _ _ _ _ (@zh _ _ _ _) (@zf _) rfl) rfl) (by decide) rfl rfl) rfl (by walk_at "f")) (@zg _ _ _ _ _ (@zy _ _ 4 _ _ _ _ qy.nd rfl (Or.inl rfl) (@zG _ _ _ _ _ _ _ _ _ _ _ d_law_draw hr (by omega) rfl (@za _ _ _ _ _ (@pw _ 0 _ _ rfl rfl) (@za _ _ _ _ _ (@zh _ _ _ _) (@zf _) rfl) rfl) (by decide) rfl rfl) rfl (by walk_at "f")) (@zg _ _ _ _ _ (@qO _ _ _ _ _ _ _ _ (@zA _ _ _ _ _ _ _ _ (@Zh _) (@pw _ 4 _ _ rfl rfl) (@zh _ _ _ _) (@zM _ _ (by decide) (by decide))) (@zg _ _ _ _ _ (@zy _ _ 5 _ _ _ _ qy.nd rfl (Or.inl rfl) (@qm _ _ _ _ (@za _ _ _ _ _ (@qF _ _ _ _) (@za _ _ _ _ _ (@qF _ _ _ _) (@za _ _ _ _ _ (@qF _ _ _ _) (@za _ _ _ _ _ (@qF _ _ _ _) (@za _ _ _ _ _ (@qF _ _ _ _) (@za _ _ _ _ _ (@qF _ _ _ _) (@za _ _ _ _ _ (@qF _ _ _ _) (@za _ _ _ _ _ (@qF _ _ _ _) (@zf _) rfl) rfl) rfl) rfl) rfl) rfl) rfl) rfl)) rfl (by walk_at "f")) (@zm _ _ _ (@zJ _ _ _ _ (@qA _ _ _ _ _ _ _ _ _ _ (@Zq _ K rfl) (@zK _ _ _ _ _ _ _ _ (@wy _) (@qA _ _ _ _ _ _ _ _ _ _ (@Zq _ K rfl) (@pw _ 5 _ _ rfl rfl) (@qR _ _ _ (@zK _ _ _ _ _ _ _ _ (@ZR _) (@pw _ 3 _ _ rfl rfl) (@zh _ _ _ _))) (@jo _)) (@qA _ _ _ _ _ _ _ _ _ _ (@Zq _ K rfl) (@pw _ 5 _ _ rfl rfl) (@jo _) (@qR _ _ _ (@zK _ _ _ _ _ _ _ _ (@ZR _) (@pw _ 3 _ _ rfl rfl) (@zh _ _ _ _))))) (@jo _) (@qR _ _ _ (@pw _ 1 _ _ rfl rfl)))))) (@zX _)) (@zg _ _ _ _ _ (@qO _ _ _ _ _ _ _ _ (@zA _ _ _ _ _ _ _ _ (@Zh _) (@pw _ 4 _ _ rfl rfl) (@zh _ _ _ _) (@zM _ _ (by decide) (by decide))) (@zm _ _ _ (@zJ _ _ _ _ (@zK _ _ _ _ _ _ _ _ (@wy _) (@qA _ _ _ _ _ _ _ _ _ _ (@Zq _ K rfl) (@zY _ ["_law_k", "_law_signs", "_law_first"] [none,some 2,some 3] _ _ _ _ _ _ _ _ _ _ (by exact (show zN ["_law_well_here", "_law_many", "_law_signs", "_law_first", "_law_pick", "_law_some", "_law_size", "_law_at"] (zj jG) ["_law_k", "_law_signs", "_law_first"] [none,some 2,some 3] _ from⟨rfl,by ac_rfl,by ac_rfl,by ac_rfl,by ac_rfl,rfl,by ac_rfl⟩)) rfl (@zV _ _ _ _ _ _ rfl gb.range (@za _ _ _ _ _ (@zh _ _ _ _) (@zf _) rfl) rfl) (fun _ _ _ _=>(@pgl _ 0 _ _ nd0 rfl rfl)) (fun _ _ _ _=>(@qh _)) (fun _ _ _ _=>(@zK _ _ _ _ _ _ _ _ (@JK _) (@zO _ _ _ _ _ _ _ (@zr _ K rfl) (@pw _ 1 _ _ rfl rfl) (@pw _ 2 _ _ rfl rfl) (fun _ _=>rfl)) (@zK _ _ _ _ _ _ _ _ (@qw _) (@pw _ 0 _ _ rfl rfl) (@zh _ _ _ _)))) (by intro _;rfl)) (@jo _) (@qR _ _ _ (@pw _ 1 _ _ rfl rfl))) (@zK _ _ _ _ _ _ _ _ (@op_repL _ K) (@qm _ _ _ _ (@za _ _ _ _ _ (@zK _ _ _ _ _ _ _ _ (@JK _) (@zO _ _ _ _ _ _ _ (@zr _ K rfl) (@pw _ 2 _ _ rfl rfl) (@zK _ _ _ _ _ _ _ _ (@yh _) (@pw _ 3 _ _ rfl rfl) (@zh _ _ _ _)) (fun _ _=>rfl)) (@zh _ _ _ _)) (@zf _) rfl)) (@zC _ _ _ _ _ _ _ _ _ (@wk _) rfl gb.int YW (@za _ _ _ _ _ (@Zl _ _ _ _ _ _ _ _ (@Zh _) (@pw _ 1 _ _ rfl rfl) (@zh _ _ _ _) (@zM _ _ (by decide) (by decide))) (@zf _) rfl) (by decide) (by decide) rfl rfl))))) (@zX _)) (@zg _ _ _ _ _ (@zy _ _ 6 _ _ _ _ qy.nd rfl (Or.inr rfl) (@zK _ _ _ _ _ _ _ _ (@qw _) (@zh _ _ _ _) (@zG _ _ _ _ _ _ _ _ _ _ _ d_law_draw hr (by omega) rfl (@za _ _ _ _ _ (@pw _ 0 _ _ rfl rfl) (@za _ _ _ _ _ (@zh _ _ _ _) (@zf _) rfl) rfl) (by decide) rfl rfl)) rfl (by walk_at "f")) (@zg _ _ _ _ _ (@zy _ _ 7 _ _ _ _ qy.nd rfl (Or.inr rfl) (@zG _ _ _ _ _ _ _ _ _ _ _ d_law_draw hr (by omega) rfl (@za _ _ _ _ _ (@pw _ 0 _ _ rfl rfl) (@za _ _ _ _ _ (@zK _ _ _ _ _ _ _ _ (@qw _) (@pw _ 6 _ _ rfl rfl) (@zh _ _ _ _)) (@zf _) rfl) rfl) (by decide) rfl rfl) rfl (by walk_at "f")) (@zm _ _ _ (@zJ _ _ _ _ (@zY _ ["_law_k", "_law_at", "_law_signs", "_law_first", "_law_size"] [none,some 7,some 2,some 3,some 6] _ _ _ _ _ _ _ _ _ _ (by exact (show zN ["_law_well_here", "_law_many", "_law_signs", "_law_first", "_law_pick", "_law_some", "_law_size", "_law_at"] (zj jG) ["_law_k", "_law_at", "_law_signs", "_law_first", "_law_size"] [none,some 7,some 2,some 3,some 6] _ from⟨rfl,by ac_rfl,by ac_rfl,by ac_rfl,by ac_rfl,rfl,by ac_rfl⟩)) rfl (@zV _ _ _ _ _ _ rfl gb.range (@za _ _ _ _ _ (@pw _ 1 _ _ rfl rfl) (@zf _) rfl) rfl) (fun _ _ _ _=>(@pgl _ 0 _ _ nd1 rfl rfl)) (fun _ _ _ _=>(@qh _)) (fun _ _ _ _=>(@zK _ _ _ _ _ _ _ _ (@Jl _) (@zK _ _ _ _ _ _ _ _ (@Jl _) (@zK _ _ _ _ _ _ _ _ (@JK _) (@qF _ _ _ _) (@pw _ 1 _ _ rfl rfl)) (@zO _ _ _ _ _ _ _ (@zr _ K rfl) (@pw _ 2 _ _ rfl rfl) (@zK _ _ _ _ _ _ _ _ (@ZR _) (@zK _ _ _ _ _ _ _ _ (@qw _) (@pw _ 3 _ _ rfl rfl) (@pw _ 0 _ _ rfl rfl)) (@zh _ _ _ _)) (fun _ _=>rfl))) (@zK _ _ _ _ _ _ _ _ (@JK _) (@qF _ _ _ _) (@zK _ _ _ _ _ _ _ _ (@yh _) (@pw _ 4 _ _ rfl rfl) (@pw _ 1 _ _ rfl rfl))))) (by intro _;rfl))))))))))),?_⟩
 refine⟨_,rfl,p,26,rfl,w,by decide,by decide,fun f H1 f1 o1 w1=>?_⟩
 refine⟨_,rfl,p,3,rfl,w1,by decide,by decide,fun g H2 g1 o2 w2=>?_⟩
 have o12:=o1.trans o2
 refine⟨_,rfl,rfl,_,rfl,Yu (fun c=>?_) (fun c=>?_)⟩
 ·refine⟨zt (by show 8<=1000;decide),fun L hL=>?_⟩
  have hN:=rot8 f
  have hT:TL 8 [.str "and",.str "or",.str "not",.str "then",.str "grades",.str "wished",.str "false",.str "true"]:=⟨["and", "or", "not", "then", "grades", "wished", "false", "true"],rfl,by decide,by ac_rfl⟩
  generalize ([.str "and",.str "or",.str "not",.str "then",.str "grades",.str "wished",.str "false",.str "true"]:List V)=xs at *
  have n1:=ze hL (.lst xs)
  refine⟨_,rfl,_,rfl,_,_,rfl,rfl,(show (0:Int) < 8 by decide),_,rfl,.inl ⟨L,_,rfl,SqL.of zd,fun y hy=>?_⟩⟩
  have n2:=ze hy (.lst (Zk xs (some ((f:Int) % 8)) none))
  refine⟨_,rfl,_,rfl,_,_,rfl,rfl,(show (0:Int) < 8 by decide),_,rfl,.inl ⟨L,_,rfl,SqL.of (n2 _ _ zd),fun z hz=>?_⟩⟩
  have n3:=ze hz (.lst (Zk xs none (some ((f:Int) % 8))))
  have t1:=hT.cut (some ((f:Int) % 8)) none
  have t2:=hT.cut none (some ((f:Int) % 8))
  have l1:=t1.len
  have l2:=t2.len
  refine⟨y,z,_,_,rfl,rfl,n3 _ _ zd,zd,zt (by omega),fun v hv=>?_⟩
  have n4:=ze hv (.lst (Zk xs (some ((f:Int) % 8)) none++Zk xs none (some ((f:Int) % 8))))
  refine⟨_,rfl,_,rfl,.inl ⟨v,_,rfl,SqL.of zd,fun r hr'=>?_⟩⟩
  have n5:=ze hr' (.lst (Zk (Zk xs (some ((f:Int) % 8)) none++Zk xs none (some ((f:Int) % 8))) none (some (k:Int))))
  have sN:=n1.trans (n2.trans (n3.trans (n4.trans n5)))
  exact q r _ _ (o12.trans (Off.of sN)) (w2.same sN) zd ((t1.app t2).cut _ _) (nd_cut hN _ _) (by rw[Wa,Ae];omega) (Af ((w2.same (n1.trans (n2.trans (n3.trans n4)))).ne hr'))
 refine⟨_,rfl,rfl,_,rfl,Yu (fun c=>?_) (fun c=>?_)⟩
 ·refine⟨7,rfl,by decide,by decide,fun D hD=>?_⟩
  obtain⟨cc,ec⟩:=WR (i:=(f:Int)) (by omega) (by omega)
  refine qc (fun i ys H'=>zL H2 H'/\TL i ys/\ys=(List.range i).map (nm1 cc)) ⟨ze hD _,⟨[],rfl,AG _,fun y h=>by cases h⟩,rfl⟩ ?_ ?_
  ·rintro i ys H3 hi ⟨s3,t3,ey⟩ hD3
   have i7:i < 7:=hi
   refine yes ⟨_,rfl,_,rfl,.inr (.inr ⟨WQ,_,cc,rfl,rfl,zt (by ac_rfl),ec,_,rfl,_,_,rfl,rfl,_,_,rfl,rfl,by omega,by omega,(show (Str.mk #[cc]).length<=10 from (show 1<=10 by decide)),?_⟩)⟩
   have l3:=t3.len
   refine ZP hi jg hD3 (zo (by omega)) ⟨s3.put hD,?_,by rw[ey,BV,AM];rfl⟩
   refine t3.app ⟨[_],rfl,AG _,fun y hy=>?_⟩
   rw[AJ.mp hy]
   refine Aq (JL _ _) ?_
   show 1 * _<=100
   omega
  ·rintro ys H3 ⟨s3,t3,ey⟩ hD3
   have hN:ys.Nodup:=by rw[ey];exact nm1_nd _ _
   refine⟨_,rfl,_,rfl,.inl ⟨D,_,rfl,SqL.of hD3,fun y hy=>?_⟩⟩
   have n1:=ze hy (.lst (Zk ys none (some (k:Int))))
   obtain⟨cd,ed⟩:=WR (i:=(f:Int) - 1) (by omega) (by omega)
   refine⟨_,rfl,_,rfl,_,_,rfl,rfl,.inr (.inr ⟨WQ,_,cd,rfl,rfl,zt (by ac_rfl),ed,_,_,rfl,rfl,by decide,by decide,(show (Str.mk #[cd]).length<=10 from (show 1<=10 by decide)),zt (by show 1<=1000;decide),fun z hz=>?_⟩)⟩
   have n2:=ze hz (.lst [.str (Txt.mul (Str.mk #[cd]) 2)])
   have tz:TL 1 [.str (Txt.mul (Str.mk #[cd]) 2)]:=⟨[_],rfl,AG _,fun y hy=>by rw[AJ.mp hy];exact Aq (JL _ _) (by show 1 * 2<=100;decide)⟩
   refine⟨_,rfl,rfl,.inr ⟨_,rfl,z,_,_,rfl,rfl,zd,by split <;> decide,by split <;> decide,by (show 1 * _<=1000;split <;> decide),fun v hv=>?_⟩⟩
   dsimp only at hv ⊢
   have trep:TL 1 (List.replicate (if decide (V.int (k:Int)=V.int 8)=true then (1:Int) else 0).toNat [V.str (Txt.mul (Str.mk #[cd]) 2)]).flatten:=by
    split
    ·exact tz
    ·exact⟨[],rfl,by decide,fun y h=>by cases h⟩
   have hNz:(Zk ys none (some (k:Int))++(List.replicate (if decide (V.int (k:Int)=V.int 8)=true then (1:Int) else 0).toNat [V.str (Txt.mul (Str.mk #[cd]) 2)]).flatten).Nodup:=by
    rw[Bu]
    refine⟨nd_cut hN _ _,?_,fun x hx z hz e=>?_⟩
    ·split
     ·show ([V.str (Txt.mul (Str.mk #[cd]) 2)]:List V).Nodup
      simp
     ·exact List.nodup_nil
    ·have hz':z=V.str (Txt.mul (Str.mk #[cd]) 2):=by
      revert hz
      split
      ·intro hz
       exact AJ.mp hz
      ·intro hz
       cases hz
     have hx':=cut_mem hx
     rw[ey] at hx'
     obtain⟨jj,_,rfl⟩:=AW.mp hx'
     rw[hz',sg_of ec,sg_of ed] at e
     exact nm1_z (by omega) jj e
   generalize (List.replicate (if decide (V.int (k:Int)=V.int 8)=true then (1:Int) else 0).toNat [V.str (Txt.mul (Str.mk #[cd]) 2)]).flatten=zs at *
   have n3:=ze hv (.lst zs)
   have t1:=t3.cut none (some (k:Int))
   have l1:=t1.len
   have l2:=trep.len
   refine⟨y,v,_,_,rfl,rfl,n3 _ _ (n2 _ _ zd),zd,zt (by show _<=1000;have:(7:Int).toNat=7:=rfl;omega),fun r hr'=>?_⟩
   have n4:=ze hr' (.lst (Zk ys none (some (k:Int))++zs))
   have sN:=s3.trans (n1.trans (n2.trans (n3.trans n4)))
   exact q r _ _ (o12.trans (Off.of sN)) (w2.same sN) zd ((t1.app trep).mono (by decide)) hNz (by rw[AI,Wa,Ae];omega) (Af ((w2.same (s3.trans (n1.trans (n2.trans n3)))).ne hr'))
 refine⟨_,rfl,p,7,rfl,w2,by decide,by decide,fun sz H3 z1 o3 w3=>?_⟩
 refine⟨_,_,rfl,rfl,?_⟩
 dsimp only
 refine⟨_,rfl,_,rfl,_,_,rfl,rfl,p,sz+2,by (show [V.ref p,V.int (1+(sz:Int)+1)]=_;rw[show (1+(sz:Int)+1)=((sz+2:Nat):Int) by omega]),w3,by omega,by omega,fun at_ H4 a1 o4 w4=>?_⟩
 have o14:=o12.trans (o3.trans o4)
 refine⟨_,rfl,(k:Int),rfl,by omega,by omega,fun D hD=>?_⟩
 rw[A2]
 refine qc (fun i ys H'=>zL H4 H'/\TL i ys/\ys=(List.range i).map (nm2 f (Txt.mul (Str.ofString "a") (at_:Int)) (Txt.mul (Str.ofString "b") (1+(sz:Int) - (at_:Int))))) ⟨ze hD _,⟨[],rfl,AG _,fun y h=>by cases h⟩,rfl⟩ ?_ ?_
 ·rintro i ys H5 hi ⟨s5,t5,ey⟩ hD5
  obtain⟨cc,ec⟩:=WR (i:=((f:Int)+(0+(i:Int))) % 26) (by omega) (by omega)
  have la:=JL (Str.ofString "a") (at_:Int)
  have lb:=JL (Str.ofString "b") (1+(sz:Int) - (at_:Int))
  rw[show (Str.ofString "a").length=1 by ac_rfl] at la
  rw[show (Str.ofString "b").length=1 by ac_rfl] at lb
  refine yes ⟨_,rfl,_,_,rfl,rfl,by omega,by omega,by ac_rfl,?_⟩
  refine⟨_,rfl,_,rfl,_,rfl,_,_,rfl,rfl,_,_,rfl,rfl,(show (0:Int) < 26 by decide),.inr (.inr ⟨WQ,_,cc,rfl,rfl,zt (by ac_rfl),ec,_,_,rfl,rfl,?_,?_⟩)⟩
  ·show _+1<=_
   exact zt (by omega)
  refine⟨_,rfl,_,rfl,_,_,rfl,rfl,_,_,rfl,rfl,by omega,by omega,by ac_rfl,_,_,rfl,rfl,?_,?_⟩
  ·rw[WA]
   show _+1+_<=_
   exact zt (by omega)
  have l5:=t5.len
  refine ZP hi jg hD5 (zo (by omega)) ⟨s5.put hD,?_,by rw[ey,BV,AM,sg_of ec];rfl⟩
  refine t5.app ⟨[_],rfl,AG _,fun y hy=>?_⟩
  rw[AJ.mp hy,WA,WA]
  show _+1+_<=100
  omega
 ·rintro ys H5 ⟨s5,t5,ey⟩ hD5
  exact q D _ _ (o14.trans (Off.of s5)) (w4.same s5) hD5 (t5.mono (by omega)) (by rw[ey];exact nm2_nd _ _ _ _ (by omega)) (by have:=t5.len;omega) (Af (w4.ne hD))
abbrev q5:Stmt:=top 34
theorem ji:zI ["_law_well_here", "_law_many", "_law_places", "_law_size", "_law_kept", "_law_found"] ["_law_well_here", "_law_many", "_law_places"] (zj q5):=⟨rfl,rfl,rfl,by ac_rfl,rfl,by ac_rfl,by ac_rfl⟩
theorem Wg (F:Fun K "_law_cells" "_law_cells" q5 f fd) (gb:Gb mg) {c:Nat->Addr} (cl:Cl K mg c) (d_law_draw:Def P w K mg base 1 "_law_draw" ["_law_well_here", "_law_many"] Zt):jO P w K mg base CX0 2 f fd ["_law_well_here", "_law_many", "_law_places"] WT:=by
 refine F.ok ji (fun vs H Q E h=>?_) (fun cdv A outer s H vs Q E hr h=>?_)
 ·obtain⟨p,m,pl,rfl,_⟩:=h
  rfl
 obtain⟨p,m,pl,rfl,w,m1,m9,pl2,q⟩:=h
 have nd0:(["_law_k", "_law_well_here", "_law_many"]:List Str).Nodup:=by ac_rfl
 have nd1:(["_law_k", "_law_well_here", "_law_many"]:List Str).Nodup:=by ac_rfl
 have nd2:(["_law_mark", "_law_kept"]:List Str).Nodup:=by ac_rfl
 refine⟨_,(@zg _ _ _ _ _ (@zy _ _ 3 _ _ _ _ ji.nd rfl (Or.inl rfl) (@zO _ _ _ _ _ _ _ (@zr _ K rfl) (@qm _ _ _ _ (@za _ _ _ _ _ (@zh _ _ _ _) (@za _ _ _ _ _ (@pw _ 1 _ _ rfl rfl) (@za _ _ _ _ _ (@zK _ _ _ _ _ _ _ _ (@ZQ _) (@pw _ 1 _ _ rfl rfl) (@pw _ 1 _ _ rfl rfl)) (@zf _) rfl) rfl) rfl)) (@pw _ 2 _ _ rfl rfl) (fun _ _=>rfl)) rfl (by walk_at "f")) (@zg _ _ _ _ _ (@zy _ _ 4 _ _ _ _ ji.nd rfl (Or.inr rfl) (@zY _ ["_law_k", "_law_well_here", "_law_many"] [none,some 0,some 1] _ _ _ _ _ _ _ _ _ _ (by exact (show zN ["_law_well_here", "_law_many", "_law_places", "_law_size", "_law_kept", "_law_found"] (zj q5) ["_law_k", "_law_well_here", "_law_many"] [none,some 0,some 1] _ from⟨rfl,by ac_rfl,by ac_rfl,by ac_rfl,by ac_rfl,rfl,by ac_rfl⟩)) rfl (@zV _ _ _ _ _ _ rfl gb.range (@za _ _ _ _ _ (@zK _ _ _ _ _ _ _ _ (@qw _) (@zh _ _ _ _) (@zG _ _ _ _ _ _ _ _ _ _ _ d_law_draw hr (by omega) rfl (@za _ _ _ _ _ (@pw _ 0 _ _ rfl rfl) (@za _ _ _ _ _ (@zh _ _ _ _) (@zf _) rfl) rfl) (by decide) rfl rfl)) (@zf _) rfl) rfl) (fun _ _ _ _=>(@pgl _ 0 _ _ nd0 rfl rfl)) (fun _ _ _ _=>(@qh _)) (fun _ _ _ _=>(@zG _ _ _ _ _ _ _ _ _ _ _ d_law_draw hr (by omega) rfl (@za _ _ _ _ _ (@pw _ 1 _ _ rfl rfl) (@za _ _ _ _ _ (@pw _ 2 _ _ rfl rfl) (@zf _) rfl) rfl) (by decide) rfl rfl)) (by intro _;rfl)) rfl (by walk_at "f")) (@zg _ _ _ _ _ (@jA _ ["_law_k", "_law_well_here", "_law_many"] [none,some 0,some 1] _ 5 _ _ _ _ _ _ _ _ _ _ _ _ (by exact (show zN ["_law_well_here", "_law_many", "_law_places", "_law_size", "_law_kept", "_law_found"] (zj q5) ["_law_k", "_law_well_here", "_law_many"] [none,some 0,some 1] _ from⟨rfl,by ac_rfl,by ac_rfl,by ac_rfl,by ac_rfl,rfl,by ac_rfl⟩)) rfl (@zV _ _ _ _ _ _ rfl gb.range (@za _ _ _ _ _ (@pw _ 3 _ _ rfl rfl) (@zf _) rfl) rfl) (fun _ _ _ _=>(@pgl _ 0 _ _ nd1 rfl rfl)) (fun _ _ _ _=>(@qh _)) (fun _ _ _ _=>(@zG _ _ _ _ _ _ _ _ _ _ _ d_law_draw hr (by omega) rfl (@za _ _ _ _ _ (@pw _ 1 _ _ rfl rfl) (@za _ _ _ _ _ (@pw _ 2 _ _ rfl rfl) (@zf _) rfl) rfl) (by decide) rfl rfl)) ji.nd rfl rfl rfl (by intro _;rfl)) (@zg _ _ _ _ _ (@qO _ _ _ _ _ _ _ _ (@zA _ _ _ _ _ _ _ _ (@Zh _) (@zG _ _ _ _ _ _ _ _ _ _ _ d_law_draw hr (by omega) rfl (@za _ _ _ _ _ (@pw _ 0 _ _ rfl rfl) (@za _ _ _ _ _ (@zh _ _ _ _) (@zf _) rfl) rfl) (by decide) rfl rfl) (@zh _ _ _ _) (@zM _ _ (by decide) (by decide))) (@zm _ _ _ (@jA _ ["_law_mark", "_law_kept"] [none,some 4] _ 5 _ _ _ _ _ _ _ _ _ _ _ _ (by exact (show zN ["_law_well_here", "_law_many", "_law_places", "_law_size", "_law_kept", "_law_found"] (zj q5) ["_law_mark", "_law_kept"] [none,some 4] _ from⟨rfl,by ac_rfl,by ac_rfl,by ac_rfl,by ac_rfl,rfl,by ac_rfl⟩)) rfl (@qk _ K _ _ _ (@pw _ 5 _ _ rfl rfl) rfl) (fun _ _ _ _=>(@pgl _ 0 _ _ nd2 rfl rfl)) (fun _ _ _ _=>(@qh _)) (fun _ _ _ _=>(@zO _ _ _ _ _ _ _ (@zr _ K rfl) (@pw _ 1 _ _ rfl rfl) (@zK _ _ _ _ _ _ _ _ (@ZR _) (@pw _ 0 _ _ rfl rfl) (@zq _ _ _ _ _ _ _ _ _ (@zS _ K rfl) rfl gb.len qH (@za _ _ _ _ _ (@pw _ 1 _ _ rfl rfl) (@zf _) rfl) (by decide) (by decide) rfl rfl)) (fun _ _=>rfl))) ji.nd rfl rfl rfl (by intro _;rfl))) (@zX _)) (@zm _ _ _ (@zJ _ _ _ _ (@zC _ _ _ _ _ _ _ _ _ (@zw _ K rfl) rfl gb.tuple zW (@za _ _ _ _ _ (@pw _ 5 _ _ rfl rfl) (@zf _) rfl) (by decide) (by decide) rfl rfl))))))),?_⟩
 have mp:=xZ m9 pl2
 refine⟨_,rfl,_,rfl,_,rfl,_,_,rfl,rfl,.inr ⟨by omega,by omega⟩,zt (by show 3<=1000;decide),fun L hL=>?_⟩
 have nL:=ze hL (.lst [.int 1,nV m,.int ((m:Int) * (m:Int))])
 refine⟨_,rfl,.inl ⟨L,_,_,nV (m ^ pl),rfl,rfl,SqL.of zd,?_,?_⟩⟩
 ·have h:pl=0\/pl=1\/pl=2:=by omega
  rcases h with rfl | rfl | rfl
  ·exact qu (by rw[Nat.pow_zero];rfl)
  ·exact qu (by rw[Nat.pow_one];rfl)
  ·exact qu (by rw[Nat.pow_two,show nV (m * m)=V.int ((m:Int) * (m:Int)) by show V.int _=_;rw[B5]];rfl)
 refine⟨_,rfl,p,3,rfl,w.same nL,by decide,by decide,fun kc H1 kc1 o1 w1=>?_⟩
 refine⟨_,_,rfl,rfl,_,rfl,by omega,by omega,fun D hD=>?_⟩
 rw[show (1+(kc:Int)).toNat=kc+1 by omega]
 have oA:=(Off.of (p:=p) nL).trans o1
 refine Jo (m:=m) w1 hD (by omega) (fun i H' Q' hi w' k'=>⟨_,rfl,_,rfl,p,m,rfl,w',by omega,by omega,k'⟩) (fun ks H2 kl kv o2 w2 hD2=>?_)
 have pD:=w1.ne hD
 refine⟨_,rfl,_,rfl,by omega,by omega,fun D2 hD3=>?_⟩
 rw[A2]
 refine Jo (m:=m) w2 hD3 (by omega) (fun i H' Q' hi w' k'=>⟨_,rfl,_,rfl,p,m,rfl,w',by omega,by omega,k'⟩) (fun fs H3 fl fv o3 w3 hD4=>?_)
 have pD2:=w2.ne hD3
 refine⟨_,rfl,p,3,rfl,w3,by decide,by decide,fun dd H4 d1 o4 w4=>⟨rfl,_,rfl,?_⟩⟩
 have hk4:=o4 D _ (Af pD) (o3 D _ (Af pD) hD2)
 have hf4:=o4 D2 _ (Af pD2) hD4
 have oB:=oA.trans (o2.trans (o3.trans o4))
 refine Yu (fun c=>?_) (fun c=>?_)
 ·refine⟨_,rfl,D2,rfl,⟨_,SqL.of hf4⟩,fun D3 hD5=>?_⟩
  have kpos:0 < ks.length:=by omega
  refine map_list fs nV (fun x=>nV (Tn.at' ks (x % ks.length))) hf4 (by omega) hD5 (fun z hz H' Q' s5 q'=>?_) (fun H5 s5 hD6=>?_)
  ·have hlen:((ks.map nV).length:Int)=(ks.length:Int):=by rw[AB]
   have e:atI (ks.map nV) ((z:Int) % ((ks.map nV).length:Int))=some (nV (Tn.at' ks (z % ks.length))):=by
    rw[hlen,<- Int.natCast_emod]
    exact Z9 (EI _ kpos)
   exact⟨_,rfl,_,rfl,_,rfl,_,_,rfl,.inl ⟨_,SqL.of (s5 _ _ hk4),rfl⟩,_,_,rfl,rfl,(by rw[hlen];omega),.inl ⟨D,_,_,_,rfl,rfl,SqL.of (s5 _ _ hk4),e,q' H' zL.rfl'⟩⟩
  ·refine⟨_,rfl,D3,_,rfl,.inl ⟨SqL.of hD6,fun t ht=>?_⟩⟩
   have n6:=ze ht (.tup (fs.map fun x=>nV (Tn.at' ks (x % ks.length))))
   refine q t (fs.map fun x=>Tn.at' ks (x % ks.length)) _ (oB.trans (Off.of (s5.trans n6))) (w4.same (s5.trans n6)) ⟨by rw[AB];exact fl,fun x hx=>?_⟩ (by rw[BA];exact zd)
   obtain⟨y,hy,rfl⟩:=AW.mp hx
   have hl:=EI y kpos
   unfold Tn.at'
   rw[AO,AD hl]
   exact kv _ (CY _)
 ·refine⟨_,rfl,D2,_,rfl,.inl ⟨SqL.of hf4,fun t ht=>?_⟩⟩
  have n6:=ze ht (.tup (fs.map nV))
  exact q t fs _ (oB.trans (Off.of n6)) (w4.same n6) ⟨fl,fv⟩ zd
abbrev Zc:Stmt:=top 35
theorem qz:zI ["_law_well_here", "_law_most", "_law_some", "_law_many", "_law_wished", "_law_names_here", "_law_connectives", "_law_name", "_law_places"] ["_law_well_here", "_law_most", "_law_some"] (zj Zc):=⟨rfl,rfl,rfl,by ac_rfl,rfl,by ac_rfl,by ac_rfl⟩
theorem Wh (F:Fun K "_law_table" "_law_table" Zc f fd) (gb:Gb mg) {c:Nat->Addr} (cl:Cl K mg c) (d_law_draw:Def P w K mg base 1 "_law_draw" ["_law_well_here", "_law_many"] Zt) (d_law_names:Def P w K mg base 2 "_law_names" ["_law_well_here", "_law_many"] WS) (d_law_cells:Def P w K mg base 2 "_law_cells" ["_law_well_here", "_law_many", "_law_places"] WT):jO P w K mg base CX0 3 f fd ["_law_well_here", "_law_most", "_law_some"] WU:=by
 refine F.ok qz (fun vs H Q E h=>?_) (fun cdv A outer s H vs Q E hr h=>?_)
 ·obtain⟨p,mo,so,rfl,_⟩:=h
  rfl
 obtain⟨p,mo,so,rfl,w,mo1,mo9,so8,q⟩:=h
 have nd0:(["_law_mark", "_law_well_here"]:List Str).Nodup:=by ac_rfl
 refine⟨_,(@zg _ _ _ _ _ (@zy _ _ 3 _ _ _ _ qz.nd rfl (Or.inl rfl) (@zK _ _ _ _ _ _ _ _ (@qw _) (@zh _ _ _ _) (@zG _ _ _ _ _ _ _ _ _ _ _ d_law_draw hr (by omega) rfl (@za _ _ _ _ _ (@pw _ 0 _ _ rfl rfl) (@za _ _ _ _ _ (@pw _ 1 _ _ rfl rfl) (@zf _) rfl) rfl) (by decide) rfl rfl)) rfl (by walk_at "f")) (@zg _ _ _ _ _ (@zy _ _ 4 _ _ _ _ qz.nd rfl (Or.inl rfl) (@zC _ _ _ _ _ _ _ _ _ (@zw _ K rfl) rfl gb.tuple zW (@za _ _ _ _ _ (@zY _ ["_law_mark", "_law_well_here"] [none,some 0] _ _ _ _ _ _ _ _ _ _ (by exact (show zN ["_law_well_here", "_law_most", "_law_some", "_law_many", "_law_wished", "_law_names_here", "_law_connectives", "_law_name", "_law_places"] (zj Zc) ["_law_mark", "_law_well_here"] [none,some 0] _ from⟨rfl,by ac_rfl,by ac_rfl,by ac_rfl,by ac_rfl,rfl,by ac_rfl⟩)) rfl (@zV _ _ _ _ _ _ rfl gb.range (@za _ _ _ _ _ (@pw _ 3 _ _ rfl rfl) (@zf _) rfl) rfl) (fun _ _ _ _=>(@pgl _ 0 _ _ nd0 rfl rfl)) (fun _ _ _ _=>(@yn _ _ _ (@zA _ _ _ _ _ _ _ _ (@Zh _) (@zG _ _ _ _ _ _ _ _ _ _ _ d_law_draw hr (by omega) rfl (@za _ _ _ _ _ (@pw _ 1 _ _ rfl rfl) (@za _ _ _ _ _ (@zh _ _ _ _) (@zf _) rfl) rfl) (by decide) rfl rfl) (@zh _ _ _ _) (@zM _ _ (by decide) (by decide))))) (fun _ _ _ _=>(@pw _ 0 _ _ rfl rfl)) (by intro _;rfl)) (@zf _) rfl) (by decide) (by decide) rfl rfl) rfl (by walk_at "f")) (@zg _ _ _ _ _ (@zy _ _ 5 _ _ _ _ qz.nd rfl (Or.inl rfl) (@zG _ _ _ _ _ _ _ _ _ _ _ d_law_names hr (by omega) rfl (@za _ _ _ _ _ (@pw _ 0 _ _ rfl rfl) (@za _ _ _ _ _ (@zG _ _ _ _ _ _ _ _ _ _ _ d_law_draw hr (by omega) rfl (@za _ _ _ _ _ (@pw _ 0 _ _ rfl rfl) (@za _ _ _ _ _ (@zK _ _ _ _ _ _ _ _ (@qw _) (@pw _ 2 _ _ rfl rfl) (@zh _ _ _ _)) (@zf _) rfl) rfl) (by decide) rfl rfl) (@zf _) rfl) rfl) (by decide) rfl rfl) rfl (by walk_at "f")) (@zg _ _ _ _ _ (@zy _ _ 6 _ _ _ _ qz.nd rfl (Or.inl rfl) (@qm _ _ _ _ (@zf _)) rfl (by walk_at "f")) (@zg _ _ _ _ _ (@js _ _ _ _ _ _ _ _ BF rfl (@qk _ K _ _ _ (@pw _ 5 _ _ rfl rfl) rfl) (@pgl _ 7 _ _ qz.nd rfl rfl) (@zg _ _ _ _ _ (@zy _ _ 8 _ _ _ _ qz.nd rfl (Or.inl rfl) (@zO _ _ _ _ _ _ _ (@zr _ K rfl) (@qm _ _ _ _ (@za _ _ _ _ _ (@zh _ _ _ _) (@za _ _ _ _ _ (@zh _ _ _ _) (@za _ _ _ _ _ (@zh _ _ _ _) (@za _ _ _ _ _ (@zh _ _ _ _) (@za _ _ _ _ _ (@zh _ _ _ _) (@zf _) rfl) rfl) rfl) rfl) rfl)) (@zG _ _ _ _ _ _ _ _ _ _ _ d_law_draw hr (by omega) rfl (@za _ _ _ _ _ (@pw _ 0 _ _ rfl rfl) (@za _ _ _ _ _ (@zh _ _ _ _) (@zf _) rfl) rfl) (by decide) rfl rfl) (fun _ _=>rfl)) rfl (by walk_at "f")) (@zm _ _ _ (@qJ _ _ _ _ (@jU _ K _ _ _ _ _ _ _ _ _ _ _ Av BO BN (@qG _) (@pw _ 6 _ _ rfl rfl) (@za _ _ _ _ _ (@qx _ _ _ _ _ (@za _ _ _ _ _ (@pw _ 7 _ _ rfl rfl) (@za _ _ _ _ _ (@pw _ 8 _ _ rfl rfl) (@za _ _ _ _ _ (@zG _ _ _ _ _ _ _ _ _ _ _ d_law_cells hr (by omega) rfl (@za _ _ _ _ _ (@pw _ 0 _ _ rfl rfl) (@za _ _ _ _ _ (@pw _ 3 _ _ rfl rfl) (@za _ _ _ _ _ (@pw _ 8 _ _ rfl rfl) (@zf _) rfl) rfl) rfl) (by decide) rfl rfl) (@zf _) rfl) rfl) rfl)) (@zf _) rfl) rfl rfl rfl rfl rfl rfl) rfl))) (by intro _;rfl)) (@zm _ _ _ (@zJ _ _ _ _ (@qx _ _ _ _ _ (@za _ _ _ _ _ (@pw _ 3 _ _ rfl rfl) (@za _ _ _ _ _ (@pw _ 4 _ _ rfl rfl) (@za _ _ _ _ _ (@zC _ _ _ _ _ _ _ _ _ (@zw _ K rfl) rfl gb.tuple zW (@za _ _ _ _ _ (@pw _ 6 _ _ rfl rfl) (@zf _) rfl) (by decide) (by decide) rfl rfl) (@zf _) rfl) rfl) rfl))))))))),?_⟩
 refine⟨_,rfl,_,rfl,p,mo,rfl,w,by omega,by omega,fun mm H1 mm1 o1 w1=>?_⟩
 refine⟨_,_,rfl,rfl,?_⟩
 dsimp only
 rw[show (1+(mm:Int))=((mm+1:Nat):Int) by omega]
 refine⟨_,rfl,((mm+1:Nat):Int),rfl,by omega,by omega,fun D hD=>?_⟩
 rw[A2]
 have pD:=w1.ne hD
 refine qc (fun i ys H'=>∃ ws:List Nat,ys=ws.map nV/\ws.Pairwise (· < ·)/\(∀ x ∈ ws,x < i)/\ws.length<=i/\Off p H1 H'/\Wel H' p) ⟨[],rfl,.nil,(fun x h=>by cases h),AG _,Off.new hD,w1.off pD⟩ ?_ ?_
 ·rintro i ys H2 hi ⟨ws,rfl,wr,wl,wn,o2,w2⟩ hD2
  refine⟨_,rfl,p,2,rfl,w2,by decide,by decide,fun v H3 v1 o3 w3=>⟨rfl,_,rfl,?_⟩⟩
  have hD3:=o3 D _ (Af pD) hD2
  refine Yu (fun c=>?_) (fun c=>?_)
  ·refine⟨_,rfl,ZP hi jg hD3 (by rw[AB];exact zo (by omega)) ⟨ws++[i],by rw[AM,EY];rfl,?_,fun x hx=>?_,by rw[AI];exact Nat.succ_le_succ wn,(o2.trans o3).fresh hD,w3.off pD⟩⟩
   ·rw[DC]
    exact⟨wr,List.pairwise_singleton _ _,fun a ha b hb=>by rw[AJ.mp hb];exact wl a ha⟩
   ·rcases AV.mp hx with h | h
    ·have:=wl x h
     omega
    ·rw[AJ.mp h]
     omega
  ·exact cno hi jg hD3 ⟨ws,rfl,wr,fun x hx=>B9 (wl x hx),Nat.le_succ_of_le wn,o2.trans o3,w3⟩
 rintro ys H2 ⟨ws,rfl,wr,wl,wn,o2,w2⟩ hD2
 refine⟨D,_,rfl,.inl ⟨SqL.of hD2,fun tw htw=>?_⟩⟩
 have n3:=ze htw (.tup (ws.map nV))
 refine⟨_,rfl,_,rfl,_,rfl,_,_,rfl,rfl,p,so+1,rfl,w2.same n3,by omega,by omega,fun kk H3 kk1 o3 w3=>?_⟩
 refine⟨p,kk,rfl,w3,by omega,fun l xs H4 o4 w4 hl hT hN x4 lp=>?_⟩
 have oA:=o1.trans (o2.trans ((Off.of (p:=p) n3).trans (o3.trans o4)))
 have htw4:H4 tw=some (.tup (ws.map nV)):=(w3.tk o4) _ _ (((w2.same n3).tk o3) _ _ zd)
 refine⟨zt (by show 0<=1000;decide),fun cn hcn=>?_⟩
 have pcn:=w4.ne hcn
 have n5:=ze hcn (.lst [])
 refine⟨_,rfl,l,rfl,⟨_,SqL.of (n5 _ _ hl)⟩,?_⟩
 have hTl:=hT.len
 refine qP (xs:=xs) (fun i σ H'=>(∃ x7 x8,σ=[some (.ref p),some (nV mo),some (nV so),some (nV (mm+1)),some (.ref tw),some (.ref l),some (.ref cn),x7,x8])/\Off p H4 H'/\Wel H' p/\∃ cs ys,H' cn=some (.lst ys)/\Cns H' cs ys/\cs.length=i/\(∀ c ∈ cs,c.nm.length<=100/\c.pl<=2/\Tn.Cs (mm+1) c.pl c.cs)/\(cs.map fun c=>V.str c.nm)=xs.take i) ⟨⟨_,_,rfl⟩,Off.of n5,w4.same n5,[],[],zd,.nil,rfl,(fun c h=>by cases h),rfl⟩ (fun i σ H' _ h=>SqL.of (h.2.1 _ _ lp hl)) ?_ ?_
 ·rintro i x σ H5 hx ⟨⟨x7,x8,rfl⟩,o5,w5,cs,ys,hy,hC,cl,hg,en⟩
  obtain⟨ts,rfl,tl,tb⟩:=id hT
  have hil:i < (ts.map V.str).length:=(AE.mp hx).1
  have hx0:=hx
  rw[AR] at hx
  obtain⟨nm,hnm,rfl⟩:=At.mp hx
  refine⟨zt (by show 5<=1000;decide),fun L hL=>?_⟩
  have nL:=ze hL (.lst [.int 0,.int 1,.int 1,.int 2,.int 2])
  have pL:=w5.ne hL
  refine⟨_,rfl,p,5,rfl,w5.same nL,by decide,by decide,fun v H7 v1 o7 w7=>?_⟩
  obtain⟨pl,e,p2⟩:∃ pl:Nat,atI [V.int 0,.int 1,.int 1,.int 2,.int 2] (v:Int)=some (nV pl)/\pl<=2:=by
   match v,v1 with
   | 0,_=>exact⟨0,qu rfl,by decide⟩
   | 1,_=>exact⟨1,qu rfl,by decide⟩
   | 2,_=>exact⟨1,qu rfl,by decide⟩
   | 3,_=>exact⟨2,qu rfl,by decide⟩
   | 4,_=>exact⟨2,qu rfl,by decide⟩
  refine .inl ⟨L,_,_,_,rfl,rfl,SqL.of (o7 L _ (Af pL) zd),e,?_⟩
  have hy7:=o7 cn _ (Af pcn) (nL _ _ hy)
  refine⟨_,rfl,.inl ⟨rfl,_,SqL.of hy7⟩,_,rfl,_,rfl,_,rfl,_,rfl,_,rfl,p,mm+1,pl,rfl,w7,by omega,by omega,p2,fun t cs8 H8 o8 w8 hcs ht=>?_⟩
  refine⟨zt (by show 3<=1000;decide),fun t3 ht3=>?_⟩
  have n9:=ze ht3 (.tup [.str nm,nV pl,.ref t])
  have hy9:=n9 _ _ (o8 cn _ (Af pcn) hy7)
  have hyl:=hC.len
  have oN:=(o5.trans (Off.of nL)).trans (o7.trans (o8.trans (Off.of n9)))
  have tN:Tk H5 (upd H8 t3 (.tup [.str nm,nV pl,.ref t])):=((Tk.of nL).trans ((w5.same nL).tk o7)).trans ((w7.tk o8).trans (Tk.of n9))
  refine⟨cn,_,_,rfl,rfl,hy9,zo (by omega),⟨⟨_,_,rfl⟩,oN.fresh hcn,(w8.same n9).off pcn,cs++[⟨nm,pl,cs8⟩],_,zd,?_,by rw[AI,cl];rfl,fun c hc=>?_,by rw[AM,en,take_snoc hx0];rfl⟩⟩
  ·exact (Cns.snoc (c:=⟨nm,pl,cs8⟩) (hC.tk tN) zd (n9 _ _ ht)).tk (Tk.put hy9)
  ·rcases AV.mp hc with h | h
   ·exact hg c h
   ·rw[AJ.mp h]
    exact⟨tb nm (AN hnm),p2,hcs⟩
 ·rintro σ H5 ⟨⟨x7,x8,rfl⟩,o5,w5,cs,ys,hy,hC,cl,hg,en⟩
  refine⟨_,rfl,_,rfl,_,rfl,cn,_,rfl,.inl ⟨SqL.of hy,fun tc htc=>?_⟩⟩
  have n6:=ze htc (.tup ys)
  refine⟨zt (by show 3<=1000;decide),fun t ht=>?_⟩
  have n7:=ze ht (.tup [nV (mm+1),.ref tw,.ref tc])
  have n67:=n6.trans n7
  refine q _ ⟨mm+1,ws,cs⟩ _ ((oA.trans o5).trans (Off.of n67)) (w5.same n67) ⟨by show 1<=mm+1;omega,by show mm+1<=9;omega,wr,wl,by show cs.length<=16;omega,hg⟩ (by show mm+1<=mo;omega) (by show cs.length<=4;omega) ?_ ⟨t,tw,tc,ys,rfl,zd,n67 _ _ ((w4.tk o5) _ _ htw4),n7 _ _ zd,hC.same n67⟩
  rw[Ad] at en
  rw[<- en] at hN
  refine Xc ?_
  unfold nmsOf'
  rw[BA]
  exact hN
abbrev Qd:Stmt:=top 36
theorem Zd:zI ["_law_many", "_law_cells_here", "_law_grades", "_law_place", "_law_mark"] ["_law_many", "_law_cells_here", "_law_grades"] (zj Qd):=⟨rfl,rfl,rfl,by ac_rfl,rfl,by ac_rfl,by ac_rfl⟩
theorem W9 (F:Fun K "_law_cell" "_law_cell" Qd f fd) (gb:Gb mg) {c:Nat->Addr} (cl:Cl K mg c):jO P w K mg base CX0 1 f fd ["_law_many", "_law_cells_here", "_law_grades"] Xb:=by
 refine F.ok Zd (fun vs H Q E h=>?_) (fun cdv A outer s H vs Q E hr h=>?_)
 ·obtain⟨m,k,c,g,cs,r,rfl,_⟩:=h
  rfl
 obtain⟨m,k,c,g,cs,r,rfl,m9,k2,hc,hg,hrw,hl,q⟩:=h
 refine⟨_,(@zg _ _ _ _ _ (@zy _ _ 3 _ _ _ _ Zd.nd rfl (Or.inl rfl) (@zh _ _ _ _) rfl (by walk_at "f")) (@zg _ _ _ _ _ (@js _ _ _ _ _ _ _ _ BF rfl (@piOr _ _ _ _ _ (@qk _ K _ _ _ (@pw _ 2 _ _ rfl rfl) rfl) (@qS _ K _ _ _ (@pw _ 2 _ _ rfl rfl) rfl)) (@pgl _ 4 _ _ Zd.nd rfl rfl) (@zm _ _ _ (@zy _ _ 3 _ _ _ _ Zd.nd rfl (Or.inl rfl) (@zK _ _ _ _ _ _ _ _ (@qw _) (@zK _ _ _ _ _ _ _ _ (@ZQ _) (@pw _ 3 _ _ rfl rfl) (@pw _ 0 _ _ rfl rfl)) (@pw _ 4 _ _ rfl rfl)) rfl (by walk_at "f"))) (by intro _;rfl)) (@zm _ _ _ (@zJ _ _ _ _ (@zO _ _ _ _ _ _ _ (@zr _ K rfl) (@pw _ 1 _ _ rfl rfl) (@pw _ 3 _ _ rfl rfl) (fun _ _=>rfl)))))),?_⟩
 rcases hg with hg | hg
 ·refine .inl ⟨_,rfl,g,rfl,⟨_,SqL.of hg⟩,?_⟩
  refine qP (xs:=r.map nV) (fun i σ H'=>H'=H/\∃ x,σ=[some (nV m),some (.ref c),some (.ref g),some (nV (Tn.place m (r.take i))),x]) ⟨rfl,_,rfl⟩ (fun i σ H' _ h=>by rw[h.1];exact SqL.of hg) ?_ ?_
  ·rintro i x σ H' hx ⟨rfl,x',rfl⟩
   rw[AR] at hx
   obtain⟨a,ha,rfl⟩:=At.mp hx
   refine⟨_,rfl,_,rfl,_,_,rfl,rfl,.inr ⟨by omega,by omega⟩,_,rfl,_,_,rfl,rfl,rfl,some (nV a),?_⟩
   rw[take_snoc ha,Tn.place_snoc]
   rw[show nV (Tn.place m (r.take i) * m+a)=V.int ((Tn.place m (r.take i):Int) * (m:Int)+(a:Int)) by show V.int _=_;rw[Dm,B5]]
   rfl
  ·rintro σ H' ⟨rfl,x',rfl⟩
   rw[AB,Ad]
   exact⟨_,rfl,_,rfl,.inr (.inl ⟨c,_,_,_,rfl,rfl,SqT.of hc,Z9 (by rw[hl];exact Tn.place_lt k r hrw),q⟩)⟩
 ·refine .inr ⟨_,rfl,g,rfl,⟨_,SqT.of hg⟩,?_⟩
  refine QB (xs:=r.map nV) (fun i σ H'=>H'=H/\∃ x,σ=[some (nV m),some (.ref c),some (.ref g),some (nV (Tn.place m (r.take i))),x]) ⟨rfl,_,rfl⟩ (fun i σ H' _ h=>by rw[h.1];exact SqT.of hg) ?_ ?_
  ·rintro i x σ H' hx ⟨rfl,x',rfl⟩
   rw[AR] at hx
   obtain⟨a,ha,rfl⟩:=At.mp hx
   refine⟨_,rfl,_,rfl,_,_,rfl,rfl,.inr ⟨by omega,by omega⟩,_,rfl,_,_,rfl,rfl,rfl,some (nV a),?_⟩
   rw[take_snoc ha,Tn.place_snoc]
   rw[show nV (Tn.place m (r.take i) * m+a)=V.int ((Tn.place m (r.take i):Int) * (m:Int)+(a:Int)) by show V.int _=_;rw[Dm,B5]]
   rfl
  ·rintro σ H' ⟨rfl,x',rfl⟩
   rw[AB,Ad]
   exact⟨_,rfl,_,rfl,.inr (.inl ⟨c,_,_,_,rfl,rfl,SqT.of hc,Z9 (by rw[hl];exact Tn.place_lt k r hrw),q⟩)⟩
abbrev jy:Stmt:=top 37
theorem jT:zI ["_law_well_here", "_law_many", "_law_size", "_law_letters", "_law_found", "_law_letter"] ["_law_well_here", "_law_many", "_law_size", "_law_letters"] (zj jy):=⟨rfl,rfl,rfl,by ac_rfl,rfl,by ac_rfl,by ac_rfl⟩
theorem Ji (F:Fun K "_law_columns" "_law_columns" jy f fd) (gb:Gb mg) {c:Nat->Addr} (cl:Cl K mg c) (d_law_draw:Def P w K mg base 1 "_law_draw" ["_law_well_here", "_law_many"] Zt):jO P w K mg base CX0 2 f fd ["_law_well_here", "_law_many", "_law_size", "_law_letters"] JX:=by
 refine F.ok jT (fun vs H Q E h=>?_) (fun cdv A outer s H vs Q E hr h=>?_)
 ·obtain⟨p,m,len,la,LT,rfl,_⟩:=h
  rfl
 obtain⟨p,m,len,la,LT,rfl,w,m1,m9,n9,hla,lp,l3,q⟩:=h
 have nd0:(["_law_k", "_law_well_here", "_law_many"]:List Str).Nodup:=by ac_rfl
 refine⟨_,(@zg _ _ _ _ _ (@zy _ _ 4 _ _ _ _ jT.nd rfl (Or.inl rfl) (@qm _ _ _ _ (@zf _)) rfl (by walk_at "f")) (@zg _ _ _ _ _ (@js _ _ _ _ _ _ _ _ BF rfl (@qk _ K _ _ _ (@pw _ 3 _ _ rfl rfl) rfl) (@pgl _ 5 _ _ jT.nd rfl rfl) (@zm _ _ _ (@qJ _ _ _ _ (@jU _ K _ _ _ _ _ _ _ _ _ _ _ Av BO BN (@qG _) (@pw _ 4 _ _ rfl rfl) (@za _ _ _ _ _ (@qx _ _ _ _ _ (@za _ _ _ _ _ (@pw _ 5 _ _ rfl rfl) (@za _ _ _ _ _ (@zC _ _ _ _ _ _ _ _ _ (@zw _ K rfl) rfl gb.tuple zW (@za _ _ _ _ _ (@zY _ ["_law_k", "_law_well_here", "_law_many"] [none,some 0,some 1] _ _ _ _ _ _ _ _ _ _ (by exact (show zN ["_law_well_here", "_law_many", "_law_size", "_law_letters", "_law_found", "_law_letter"] (zj jy) ["_law_k", "_law_well_here", "_law_many"] [none,some 0,some 1] _ from⟨rfl,by ac_rfl,by ac_rfl,by ac_rfl,by ac_rfl,rfl,by ac_rfl⟩)) rfl (@zV _ _ _ _ _ _ rfl gb.range (@za _ _ _ _ _ (@pw _ 2 _ _ rfl rfl) (@zf _) rfl) rfl) (fun _ _ _ _=>(@pgl _ 0 _ _ nd0 rfl rfl)) (fun _ _ _ _=>(@qh _)) (fun _ _ _ _=>(@zG _ _ _ _ _ _ _ _ _ _ _ d_law_draw hr (by omega) rfl (@za _ _ _ _ _ (@pw _ 1 _ _ rfl rfl) (@za _ _ _ _ _ (@pw _ 2 _ _ rfl rfl) (@zf _) rfl) rfl) (by decide) rfl rfl)) (by intro _;rfl)) (@zf _) rfl) (by decide) (by decide) rfl rfl) (@zf _) rfl) rfl)) (@zf _) rfl) rfl rfl rfl rfl rfl rfl) rfl)) (by intro _;rfl)) (@zm _ _ _ (@zJ _ _ _ _ (@zC _ _ _ _ _ _ _ _ _ (@zw _ K rfl) rfl gb.tuple zW (@za _ _ _ _ _ (@pw _ 4 _ _ rfl rfl) (@zf _) rfl) (by decide) (by decide) rfl rfl))))),?_⟩
 refine⟨zt (by show 0<=1000;decide),fun fd hfd=>?_⟩
 have n1':=ze hfd (.lst [])
 have fp:fd ≠ p:=Af (w.ne hfd)
 refine⟨_,rfl,la,rfl,⟨_,SqL.of (n1' _ _ hla)⟩,?_⟩
 refine qP (xs:=LT.map V.str) (fun i σ H'=>(∃ x5,σ=[some (.ref p),some (nV m),some (nV len),some (.ref la),some (.ref fd),x5])/\Off p H H'/\Wel H' p/\∃ (cps:List (Str×List Nat)) (cvs:List V),H' fd=some (.lst cvs)/\PCs H' cps cvs/\cps.length=i/\cps.map Prod.fst=LT.take i/\∀ q ∈ cps,zQ m len q.2) ⟨⟨_,rfl⟩,Off.of n1',w.same n1',[],[],zd,.nil,rfl,rfl,(fun q h=>by cases h)⟩ (fun i σ H' _ h=>SqL.of (h.2.1 la _ lp hla)) ?_ ?_
 ·rintro i x σ H2 hx ⟨⟨x5,rfl⟩,o2,w2,cps,cvs,hfd2,hpr,cl,en,hg⟩
  rw[AR] at hx
  obtain⟨y,hy,rfl⟩:=At.mp hx
  have hi:=(AE.mp hy).1
  have hcl:=AQ hpr
  refine⟨_,rfl,.inl ⟨rfl,_,SqL.of hfd2⟩,_,rfl,_,rfl,(len:Int),rfl,by omega,by omega,fun D hD=>?_⟩
  rw[A2]
  have pD:=w2.ne hD
  refine qc (fun j ys H'=>∃ cs:List Nat,ys=cs.map nV/\cs.length=j/\(∀ c ∈ cs,c < m)/\Off p H2 H'/\Wel H' p) ⟨[],rfl,rfl,(fun c h=>by cases h),Off.new hD,w2.off pD⟩ ?_ ?_
  ·rintro j ys H3 hj ⟨cs,rfl,cl3,cm,o3,w3⟩ hD3
   refine yes ⟨_,rfl,_,rfl,p,m,rfl,w3,by omega,by omega,fun v H4 v1 o4 w4=>?_⟩
   have hD4:=o4 D _ (Af pD) hD3
   refine ZP hj jg hD4 (by rw[AB];exact zo (by omega)) ⟨cs++[v],by rw[AM];rfl,by rw[AI,cl3];rfl,fun c hc=>?_,(o3.trans o4).fresh hD,w4.off pD⟩
   rcases AV.mp hc with h | h
   ·exact cm c h
   ·rw[AJ.mp h]
    exact v1
  rintro ys H3 ⟨cs,rfl,cl3,cm,o3,w3⟩ hD3
  refine⟨D,_,rfl,.inl ⟨SqL.of hD3,fun t ht=>?_⟩⟩
  have n4:=ze ht (.tup (cs.map nV))
  refine⟨zt (by show 2<=1000;decide),fun b hb=>?_⟩
  have n5:=ze hb (.tup [.str y,.ref t])
  have o5:Off p H2 (upd (upd H3 t (.tup (cs.map nV))) b (.tup [.str y,.ref t])):=o3.trans (Off.of (n4.trans n5))
  have k5:=w2.tk o5
  have w5:=w3.same (n4.trans n5)
  have hfd5:=o5 fd _ fp hfd2
  have ht5:=n5 _ _ (@zd H3 t (.tup (cs.map nV)))
  have hb5:=@zd (upd H3 t (.tup (cs.map nV))) b (.tup [.str y,.ref t])
  generalize upd (upd H3 t (.tup (cs.map nV))) b (.tup [.str y,.ref t])=H5 at *
  refine⟨fd,cvs,_,rfl,rfl,hfd5,zo (by omega),?_⟩
  refine⟨⟨_,rfl⟩,(o2.trans o5).fresh hfd,w5.off (Af fp),cps++[(y,cs)],cvs++[.ref b],zd,?_,by rw[AI,cl];rfl,by rw[AM,en,take_snoc hy];rfl,fun q hq=>?_⟩
  ·exact PCs.snoc (p:=(y,cs)) (PCs.tk (Tk.put hfd5) (PCs.tk k5 hpr)) (Tk.put hfd5 _ _ hb5) (Tk.put hfd5 _ _ ht5)
  ·rcases AV.mp hq with h | h
   ·exact hg q h
   ·rw[AJ.mp h]
    exact⟨cl3,cm⟩
 ·rintro σ H2 ⟨⟨x5,rfl⟩,o2,w2,cps,cvs,hfd2,hpr,cl,en,hg⟩
  rw[AB,Ad] at en
  refine⟨_,rfl,fd,_,rfl,.inl ⟨SqL.of hfd2,fun ct hct=>?_⟩⟩
  have n3:=ze hct (.tup cvs)
  exact q ct cps cvs _ (o2.trans (Off.of n3)) (w2.same n3) zd (PCs.tk (Tk.of n3) hpr) en hg
abbrev ja:Stmt:=top 39
theorem jN:zI ["_law_many", "_law_places", "_law_cells_here", "_law_found", "_law_at", "_law_given_here", "_law_here", "_law_other"] ["_law_many", "_law_places", "_law_cells_here", "_law_found", "_law_at"] (zj ja):=⟨rfl,rfl,rfl,by ac_rfl,rfl,by ac_rfl,by ac_rfl⟩
theorem Wi (F:Fun K "_law_given" "_law_given" ja f fd) (gb:Gb mg) {c:Nat->Addr} (cl:Cl K mg c):jO P w K mg base CX0 1 f fd ["_law_many", "_law_places", "_law_cells_here", "_law_found", "_law_at"] W3:=by
 refine F.ok jN (fun vs H Q E h=>?_) (fun cdv A outer s H vs Q E hr h=>?_)
 ·obtain⟨m,pl,len,n,cu,fl,cs,cols,fvs,rfl,_⟩:=h
  rfl
 obtain⟨m,pl,len,n,cu,fl,cs,cols,fvs,rfl,hcu,hcs,p2,m9,hfl,hP,hg,l9,hn,c81,q⟩:=h
 have nd0:(["_law_mark", "_law_cells_here"]:List Str).Nodup:=by ac_rfl
 have nd1:(["_law_k", "_law_cells_here", "_law_here", "_law_many", "_law_other"]:List Str).Nodup:=by ac_rfl
 have nd2:(["_law_k", "_law_cells_here", "_law_other", "_law_many", "_law_here"]:List Str).Nodup:=by ac_rfl
 refine⟨_,(@zg _ _ _ _ _ (@qO _ _ _ _ _ _ _ _ (@zA _ _ _ _ _ _ _ _ (@Zh _) (@pw _ 1 _ _ rfl rfl) (@zh _ _ _ _) (@zM _ _ (by decide) (by decide))) (@zm _ _ _ (@zJ _ _ _ _ (@qm _ _ _ _ (@za _ _ _ _ _ (@zC _ _ _ _ _ _ _ _ _ (@zw _ K rfl) rfl gb.tuple zW (@za _ _ _ _ _ (@zY _ ["_law_mark", "_law_cells_here"] [none,some 2] _ _ _ _ _ _ _ _ _ _ (by exact (show zN ["_law_many", "_law_places", "_law_cells_here", "_law_found", "_law_at", "_law_given_here", "_law_here", "_law_other"] (zj ja) ["_law_mark", "_law_cells_here"] [none,some 2] _ from⟨rfl,by ac_rfl,by ac_rfl,by ac_rfl,by ac_rfl,rfl,by ac_rfl⟩)) rfl (@qS _ K _ _ _ (@zO _ _ _ _ _ _ _ (@zr _ K rfl) (@pw _ 3 _ _ rfl rfl) (@pw _ 4 _ _ rfl rfl) (fun _ _=>rfl)) rfl) (fun _ _ _ _=>(@pgl _ 0 _ _ nd0 rfl rfl)) (fun _ _ _ _=>(@qh _)) (fun _ _ _ _=>(@zO _ _ _ _ _ _ _ (@zr _ K rfl) (@pw _ 1 _ _ rfl rfl) (@pw _ 0 _ _ rfl rfl) (fun _ _=>rfl))) (by intro _;rfl)) (@zf _) rfl) (by decide) (by decide) rfl rfl) (@zf _) rfl)))) (@zX _)) (@zg _ _ _ _ _ (@zy _ _ 5 _ _ _ _ jN.nd rfl (Or.inl rfl) (@qm _ _ _ _ (@zf _)) rfl (by walk_at "f")) (@zg _ _ _ _ _ (@zy _ _ 6 _ _ _ _ jN.nd rfl (Or.inr rfl) (@zO _ _ _ _ _ _ _ (@zr _ K rfl) (@pw _ 3 _ _ rfl rfl) (@pw _ 4 _ _ rfl rfl) (fun _ _=>rfl)) rfl (by walk_at "f")) (@zg _ _ _ _ _ (@js _ _ _ _ _ _ _ _ BF rfl (@qk _ K _ _ _ (@qA _ _ _ _ _ _ _ _ _ _ (@Zq _ K rfl) (@pw _ 3 _ _ rfl rfl) (@jo _) (@qR _ _ _ (@zK _ _ _ _ _ _ _ _ (@ZQ _) (@zK _ _ _ _ _ _ _ _ (@qw _) (@pw _ 4 _ _ rfl rfl) (@zh _ _ _ _)) (@zC _ _ _ _ _ _ _ _ _ (@wk _) rfl gb.int YW (@za _ _ _ _ _ (@Zl _ _ _ _ _ _ _ _ (@Zh _) (@pw _ 1 _ _ rfl rfl) (@zh _ _ _ _) (@zM _ _ (by decide) (by decide))) (@zf _) rfl) (by decide) (by decide) rfl rfl)))) rfl) (@QA _ _ 7 _ jN.nd rfl (Or.inr rfl) (by walk_at "f")) (@zg _ _ _ _ _ (@qJ _ _ _ _ (@jU _ K _ _ _ _ _ _ _ _ _ _ _ Av BO BN (@qG _) (@pw _ 5 _ _ rfl rfl) (@za _ _ _ _ _ (@zC _ _ _ _ _ _ _ _ _ (@zw _ K rfl) rfl gb.tuple zW (@za _ _ _ _ _ (@zY _ ["_law_k", "_law_cells_here", "_law_here", "_law_many", "_law_other"] [none,some 2,some 6,some 0,some 7] _ _ _ _ _ _ _ _ _ _ (by exact (show zN ["_law_many", "_law_places", "_law_cells_here", "_law_found", "_law_at", "_law_given_here", "_law_here", "_law_other"] (zj ja) ["_law_k", "_law_cells_here", "_law_here", "_law_many", "_law_other"] [none,some 2,some 6,some 0,some 7] _ from⟨rfl,by ac_rfl,by ac_rfl,by ac_rfl,by ac_rfl,rfl,by ac_rfl⟩)) rfl (@zV _ _ _ _ _ _ rfl gb.range (@za _ _ _ _ _ (@zq _ _ _ _ _ _ _ _ _ (@zS _ K rfl) rfl gb.len qH (@za _ _ _ _ _ (@pw _ 7 _ _ rfl rfl) (@zf _) rfl) (by decide) (by decide) rfl rfl) (@zf _) rfl) rfl) (fun _ _ _ _=>(@pgl _ 0 _ _ nd1 rfl rfl)) (fun _ _ _ _=>(@qh _)) (fun _ _ _ _=>(@zO _ _ _ _ _ _ _ (@zr _ K rfl) (@pw _ 1 _ _ rfl rfl) (@zK _ _ _ _ _ _ _ _ (@qw _) (@zK _ _ _ _ _ _ _ _ (@ZQ _) (@zO _ _ _ _ _ _ _ (@zr _ K rfl) (@pw _ 2 _ _ rfl rfl) (@pw _ 0 _ _ rfl rfl) (fun _ _=>rfl)) (@pw _ 3 _ _ rfl rfl)) (@zO _ _ _ _ _ _ _ (@zr _ K rfl) (@pw _ 4 _ _ rfl rfl) (@pw _ 0 _ _ rfl rfl) (fun _ _=>rfl))) (fun _ _=>rfl))) (by intro _;rfl)) (@zf _) rfl) (by decide) (by decide) rfl rfl) (@zf _) rfl) rfl rfl rfl rfl rfl rfl) rfl) (@zm _ _ _ (@qJ _ _ _ _ (@jU _ K _ _ _ _ _ _ _ _ _ _ _ Av BO BN (@qG _) (@pw _ 5 _ _ rfl rfl) (@za _ _ _ _ _ (@zC _ _ _ _ _ _ _ _ _ (@zw _ K rfl) rfl gb.tuple zW (@za _ _ _ _ _ (@zY _ ["_law_k", "_law_cells_here", "_law_other", "_law_many", "_law_here"] [none,some 2,some 7,some 0,some 6] _ _ _ _ _ _ _ _ _ _ (by exact (show zN ["_law_many", "_law_places", "_law_cells_here", "_law_found", "_law_at", "_law_given_here", "_law_here", "_law_other"] (zj ja) ["_law_k", "_law_cells_here", "_law_other", "_law_many", "_law_here"] [none,some 2,some 7,some 0,some 6] _ from⟨rfl,by ac_rfl,by ac_rfl,by ac_rfl,by ac_rfl,rfl,by ac_rfl⟩)) rfl (@zV _ _ _ _ _ _ rfl gb.range (@za _ _ _ _ _ (@zq _ _ _ _ _ _ _ _ _ (@zS _ K rfl) rfl gb.len qH (@za _ _ _ _ _ (@pw _ 7 _ _ rfl rfl) (@zf _) rfl) (by decide) (by decide) rfl rfl) (@zf _) rfl) rfl) (fun _ _ _ _=>(@pgl _ 0 _ _ nd2 rfl rfl)) (fun _ _ _ _=>(@qh _)) (fun _ _ _ _=>(@zO _ _ _ _ _ _ _ (@zr _ K rfl) (@pw _ 1 _ _ rfl rfl) (@zK _ _ _ _ _ _ _ _ (@qw _) (@zK _ _ _ _ _ _ _ _ (@ZQ _) (@zO _ _ _ _ _ _ _ (@zr _ K rfl) (@pw _ 2 _ _ rfl rfl) (@pw _ 0 _ _ rfl rfl) (fun _ _=>rfl)) (@pw _ 3 _ _ rfl rfl)) (@zO _ _ _ _ _ _ _ (@zr _ K rfl) (@pw _ 4 _ _ rfl rfl) (@pw _ 0 _ _ rfl rfl) (fun _ _=>rfl))) (fun _ _=>rfl))) (by intro _;rfl)) (@zf _) rfl) (by decide) (by decide) rfl rfl) (@zf _) rfl) rfl rfl rfl rfl rfl rfl) rfl))) (by intro _;rfl)) (@zm _ _ _ (@zJ _ _ _ _ (@pw _ 5 _ _ rfl rfl))))))),?_⟩
 have fl2:=AQ hP
 have hcn:cols[n]? = some (cols.getD n []):=by rw[AO,AD hn];rfl
 have hfn:fvs[n]? = some (fvs.getD n .non):=by rw[AO,AD (show n < fvs.length by omega)];rfl
 obtain⟨ta,eta,hta⟩:=Paired.at hP n _ _ hcn hfn
 rw[eta] at hfn
 have gca:=hg _ (AN hcn)
 generalize hca:cols.getD n []=ca at *
 refine⟨_,rfl,rfl,_,rfl,?_⟩
 by_cases p1:pl=1
 ·refine Yw (Ak (by rw[p1];rfl)) ?_
  refine⟨_,rfl,_,rfl,.inl ⟨fl,_,_,_,rfl,rfl,SqL.of hfl,qu hfn,ta,rfl,⟨_,SqT.of hta⟩,fun D hD=>?_⟩⟩
  refine map_tup ca nV (fun x=>nV (Tn.at' cs x)) hta (by have:=gca.1;omega) hD (fun z hz H' Q' s5 q'=>?_) (fun H5 s5 hD5=>?_)
  ·exact⟨_,rfl,_,rfl,.inr (.inl ⟨cu,_,_,_,rfl,rfl,SqT.of (s5 _ _ hcu),Z9 (by rw[hcs.len,p1,Nat.pow_one];exact gca.2 z hz),q' H' zL.rfl'⟩)⟩
  refine⟨D,_,rfl,.inl ⟨SqL.of hD5,fun t ht=>?_⟩⟩
  refine⟨zt (by show 1<=1000;decide),fun l hl=>?_⟩
  have m1:=ze ht (.tup (ca.map fun x=>nV (Tn.at' cs x)))
  have m2:=ze hl (.lst [.ref t])
  refine q l _ _ (s5.trans (m1.trans m2)) zd ?_
  unfold W2
  rw[if_pos p1,hca]
  exact .cons ⟨t,rfl,m2 _ _ (by rw[zd,BA];rfl)⟩ .nil
 ·refine Wn (AY fun z=>p1 ?_) ?_
  ·have:=V.int.inj z
   omega
  refine⟨zt (by show 0<=1000;decide),fun gl hgl=>?_⟩
  have n1:=ze hgl (.lst [])
  refine⟨_,rfl,_,rfl,.inl ⟨fl,_,_,_,rfl,rfl,SqL.of (n1 _ _ hfl),qu hfn,?_⟩⟩
  have eN:∃ N:Nat,((n:Int)+1) * (if decide (nV pl=V.int 2)=true then 1 else 0)=(N:Int)/\N=(if pl=2 then n+1 else 0):=by
   by_cases h:pl=2
   ·refine⟨n+1,?_,by rw[if_pos h]⟩
    rw[if_pos (Ak (by rw[h];rfl))]
    omega
   ·refine⟨0,?_,by rw[if_neg h]⟩
    rw[if_neg (by rw[B7];intro z;have:=V.int.inj z;omega)]
    omega
  obtain⟨N,eN,hN⟩:=eN
  refine⟨_,rfl,_,rfl,_,_,rfl,rfl,_,rfl,rfl,.inr ⟨_,rfl,?_⟩⟩
  refine⟨_,_,rfl,rfl,.inl ⟨by omega,by omega⟩,(N:Int),by (show V.int _=V.int _;rw[eN]),.inl ⟨fl,_,rfl,SqL.of (n1 _ _ hfl),fun sl hsl=>?_⟩⟩
  rw[Wa]
  have n2:=ze hsl (.lst (fvs.take N))
  have sg:sl ≠ gl:=fun z=>by
   rw[z,zd] at hsl
   cases hsl
  refine⟨sl,rfl,⟨_,SqL.of zd⟩,?_⟩
  have Nl:N<=82:=by rw[hN];split <;> omega
  refine qP (xs:=fvs.take N) (fun i σ H'=>(∃ x7,σ=[some (nV m),some (nV pl),some (.ref cu),some (.ref fl),some (nV n),some (.ref gl),some (.ref ta),x7])/\zL H H'/\H' sl=some (.lst (fvs.take N))/\∃ xs,H' gl=some (.lst xs)/\xs.length=2 * i/\Paired (Z6 H') ((cols.take i).flatMap fun o=>[jr cs m len ca o,jr cs m len o ca]) xs) ⟨⟨_,rfl⟩,n1.trans n2,zd,[],n2 _ _ zd,rfl,.nil⟩ (fun i σ H' _ h=>SqL.of h.2.2.1) ?_ ?_
  ·rintro i x σ H1 hx ⟨⟨x7,rfl⟩,s1,hsl1,xs,hgl1,xl,hX⟩
   have hi:=(AE.mp hx).1
   rw[Ae] at hi
   rw[Be (by omega)] at hx
   have hco:cols[i]? = some (cols[i]'(by omega)):=AD _
   generalize cols[i]'(by omega)=co at hco
   obtain⟨tb,rfl,htb⟩:=Paired.at hP i _ _ hco hx
   have gco:=hg _ (AN hco)
   have g1:=gca.1
   have g2:=gco.1
   have key:∀ (a b:List Nat) (sa sb:Addr) (Hq:Hp) (D:Addr) (te:TE) (σ0:St) (QQ:VK),zL H Hq->Hq D=none->zQ m len a->zQ m len b->(∀ (k:Nat) H' Q',k < len->zL Hq H'->Q' (nV (Tn.at' cs (Tn.at' a k * m+Tn.at' b k))) H'->te (σ0.set 0 (some (nV k))) H' Q')->(∀ H' ,zL Hq H'->H' D=some (.lst ((jr cs m len a b).map nV))->QQ (.ref D) H')->jt (Itr 0 len) (jm 0) tYes te σ0 Hq QQ D:=by
    intro a b sa sb Hq D te σ0 QQ sq hD ga gb' ht hq
    refine qc (fun j ys H'=>zL Hq H'/\ys=((List.range j).map fun k=>Tn.at' cs (Tn.at' a k * m+Tn.at' b k)).map nV) ⟨ze hD _,rfl⟩ ?_ ?_
    ·rintro j ys H3 hj ⟨s3,rfl⟩ hD3
     have ej:V.int (0+(j:Int))=nV j:=by show V.int _=V.int _;rw[EY]
     rw[ej]
     refine yes (ht j H3 _ hj s3 ?_)
     refine ZP hj jg hD3 (by rw[AB,AB,Aj];exact zo (by omega)) ⟨s3.put hD,?_⟩
     rw[BV,AM,AM]
     rfl
    ·rintro ys H3 ⟨s3,rfl⟩ hD3
     exact hq H3 s3 hD3
   have atl:∀ {a b:List Nat} {k:Nat},zQ m len a->zQ m len b->k < len->Tn.at' a k * m+Tn.at' b k < cs.length:=fun {a b k} ga gb' hk=>by
    have h1:=ga.at hk
    have h2:=gb'.at hk
    rw[hcs.len]
    have p2':pl=2\/pl=0:=by omega
    rcases p2' with e | e
    ·rw[e,Nat.pow_two]
     calc Tn.at' a k * m+Tn.at' b k < Tn.at' a k * m+m:=by omega
      _=(Tn.at' a k+1) * m:=by rw[Nat.add_mul,Nat.one_mul]
      _<=m * m:=Nat.mul_le_mul_right _ h1
    ·rw[hN,if_neg (by omega)] at hi
     omega
   have ecast:∀ x y:Nat,V.int ((x:Int) * (m:Int)+(y:Int))=nV (x * m+y):=fun x y=>by show V.int _=V.int _;rw[Dm,B5]
   have hta1:=s1 _ _ hta
   have htb1:=s1 _ _ htb
   refine⟨_,rfl,.inl ⟨rfl,_,SqL.of hgl1⟩,_,rfl,_,_,rfl,.inr ⟨_,SqT.of htb1,rfl⟩,(len:Int),by rw[AB,g2],by omega,by omega,fun D hD=>?_⟩
   rw[A2]
   refine key ca co ta tb H1 D _ _ _ s1 hD gca gco (fun k H' Q' hk s' hq=>?_) (fun H2 s2 hD2=>?_)
   ·have b1:=gca.at hk
    have b2:=gco.at hk
    refine⟨_,rfl,_,rfl,_,rfl,.inr (.inl ⟨ta,_,_,_,rfl,rfl,SqT.of (s' _ _ hta1),Z9 (by omega),_,rfl,_,_,rfl,rfl,.inl ⟨by omega,by omega⟩,_,rfl,_,rfl,.inr (.inl ⟨tb,_,_,_,rfl,rfl,SqT.of (s' _ _ htb1),Z9 (by omega),_,_,rfl,rfl,?_⟩)⟩)⟩
    show rIx K (.ref cu) (.int ((Tn.at' ca k:Int) * (m:Int)+(Tn.at' co k:Int))) H' Q'
    rw[ecast]
    exact .inr (.inl ⟨cu,_,_,_,rfl,rfl,SqT.of ((s1.trans s') _ _ hcu),Z9 (atl gca gco hk),hq⟩)
   refine⟨D,_,rfl,.inl ⟨SqL.of hD2,fun t1 ht1=>?_⟩⟩
   have m2:=ze ht1 (.tup ((jr cs m len ca co).map nV))
   have S2:=s1.trans (s2.trans m2)
   have hgl2:=(s2.trans m2) _ _ hgl1
   refine⟨gl,_,_,rfl,rfl,hgl2,zo (by omega),?_⟩
   have S3:zL H (upd (upd H2 t1 (.tup ((jr cs m len ca co).map nV))) gl (.lst (xs++[.ref t1]))):=S2.put hgl
   have hX3:Paired (Z6 (upd (upd H2 t1 (.tup ((jr cs m len ca co).map nV))) gl (.lst (xs++[.ref t1])))) (((cols.take i).flatMap fun o=>[jr cs m len ca o,jr cs m len o ca])++[jr cs m len ca co]) (xs++[.ref t1]):=qN (ColVs.tk (Tk.put hgl2) (ColVs.tk (Tk.of (s2.trans m2)) hX)) (.cons ⟨t1,rfl,Tk.put hgl2 _ _ zd⟩ .nil)
   have hgl3:(upd (upd H2 t1 (.tup ((jr cs m len ca co).map nV))) gl (.lst (xs++[.ref t1]))) gl=some (.lst (xs++[.ref t1])):=zd
   have hsl3:(upd (upd H2 t1 (.tup ((jr cs m len ca co).map nV))) gl (.lst (xs++[.ref t1]))) sl=some (.lst (fvs.take N)):=by rw[zx sg];exact (s2.trans m2) _ _ hsl1
   generalize upd (upd H2 t1 (.tup ((jr cs m len ca co).map nV))) gl (.lst (xs++[.ref t1]))=H3 at S3 hX3 hgl3 hsl3 ⊢
   have hta3:=S3 _ _ hta
   have htb3:=S3 _ _ htb
   refine⟨_,rfl,.inl ⟨rfl,_,SqL.of hgl3⟩,_,rfl,_,_,rfl,.inr ⟨_,SqT.of htb3,rfl⟩,(len:Int),by rw[AB,g2],by omega,by omega,fun D' hD'=>?_⟩
   rw[A2]
   refine key co ca tb ta H3 D' _ _ _ S3 hD' gco gca (fun k H' Q' hk s' hq=>?_) (fun H4 s4 hD4=>?_)
   ·have b1:=gca.at hk
    have b2:=gco.at hk
    refine⟨_,rfl,_,rfl,_,rfl,.inr (.inl ⟨tb,_,_,_,rfl,rfl,SqT.of (s' _ _ htb3),Z9 (by omega),_,rfl,_,_,rfl,rfl,.inl ⟨by omega,by omega⟩,_,rfl,_,rfl,.inr (.inl ⟨ta,_,_,_,rfl,rfl,SqT.of (s' _ _ hta3),Z9 (by omega),_,_,rfl,rfl,?_⟩)⟩)⟩
    show rIx K (.ref cu) (.int ((Tn.at' co k:Int) * (m:Int)+(Tn.at' ca k:Int))) H' Q'
    rw[ecast]
    exact .inr (.inl ⟨cu,_,_,_,rfl,rfl,SqT.of ((S3.trans s') _ _ hcu),Z9 (atl gco gca hk),hq⟩)
   refine⟨D',_,rfl,.inl ⟨SqL.of hD4,fun t2 ht2=>?_⟩⟩
   have m5:=ze ht2 (.tup ((jr cs m len co ca).map nV))
   have S5:=S3.trans (s4.trans m5)
   have hgl5:=(s4.trans m5) _ _ hgl3
   have xl2:(xs++[V.ref t1]).length=2 * i+1:=by rw[AI,xl];rfl
   refine⟨gl,_,_,rfl,rfl,hgl5,zo (by omega),⟨_,rfl⟩,S5.put hgl,by rw[zx sg];exact (s4.trans m5) _ _ hsl3,_,zd,by rw[AI,xl2];show 2 * i+1+1=_;omega,?_⟩
   have e2:((cols.take (i+1)).flatMap fun o=>[jr cs m len ca o,jr cs m len o ca])=(((cols.take i).flatMap fun o=>[jr cs m len ca o,jr cs m len o ca])++[jr cs m len ca co])++[jr cs m len co ca]:=by
    rw[take_snoc hco,DJ,Ag]
    rfl
   rw[e2]
   exact qN (ColVs.tk (Tk.put hgl5) (ColVs.tk (Tk.of (s4.trans m5)) hX3)) (.cons ⟨t2,rfl,Tk.put hgl5 _ _ zd⟩ .nil)
  ·rintro σ H1 ⟨⟨x7,rfl⟩,s1,hsl1,xs,hgl1,xl,hX⟩
   refine⟨_,rfl,q gl xs H1 s1 hgl1 ?_⟩
   unfold W2
   rw[if_neg p1,hca,<- hN]
   rw[Ae,<- fl2] at hX
   by_cases h:N<=cols.length
   ·rw[show min N cols.length=N by omega] at hX
    exact hX
   ·rw[BY (by omega)] at hX
    rw[BY (by omega)]
    exact hX
abbrev jW:Stmt:=top 38
theorem zZ:zI ["_law_table_here", "_law_columns_here", "_law_size", "_law_found", "_law_known", "_law_some", "_law_at", "_law_name", "_law_places", "_law_cells_here", "_law_column"] ["_law_table_here", "_law_columns_here", "_law_size"] (zj jW):=⟨rfl,rfl,rfl,by ac_rfl,rfl,by ac_rfl,by ac_rfl⟩
theorem ya (F:Fun K "_law_said" "_law_said" jW f fd) (gb:Gb mg) {c:Nat->Addr} (cl:Cl K mg c) (d_law_given:Def P w K mg base 1 "_law_given" ["_law_many", "_law_places", "_law_cells_here", "_law_found", "_law_at"] W3):jO P w K mg base CX0 2 f fd ["_law_table_here", "_law_columns_here", "_law_size"] Xq:=by
 refine F.ok zZ (fun vs H Q E h=>?_) (fun cdv A outer s H vs Q E hr h=>?_)
 ·obtain⟨v,ct,T,cps,cvs,len,rfl,_⟩:=h
  rfl
 obtain⟨v,ct,T,cps,cvs,len,rfl,ia,gT,nT,c4,hct,hpc,cp3,hgc,n1',n9,q⟩:=h
 have nd0:(["_law_letter", "_law_column"]:List Str).Nodup:=by ac_rfl
 have nd1:(["_law_name", "_law_places", "_law_cells_here", "_law_size"]:List Str).Nodup:=by ac_rfl
 refine⟨_,(@zg _ _ _ _ _ (@zy _ _ 3 _ _ _ _ zZ.nd rfl (Or.inl rfl) (@qm _ _ _ _ (@zf _)) rfl (by walk_at "f")) (@zg _ _ _ _ _ (@zy _ _ 4 _ _ _ _ zZ.nd rfl (Or.inl rfl) yz rfl (by walk_at "f")) (@zg _ _ _ _ _ (@jA _ ["_law_letter", "_law_column"] [none,none] _ 5 _ _ _ _ _ _ _ _ _ _ _ _ (by exact (show zN ["_law_table_here", "_law_columns_here", "_law_size", "_law_found", "_law_known", "_law_some", "_law_at", "_law_name", "_law_places", "_law_cells_here", "_law_column"] (zj jW) ["_law_letter", "_law_column"] [none,none] _ from⟨rfl,by ac_rfl,by ac_rfl,by ac_rfl,by ac_rfl,rfl,by ac_rfl⟩)) rfl (@qS _ K _ _ _ (@pw _ 1 _ _ rfl rfl) rfl) (fun _ _ _ _=>(@jp _ K _ _ _ _ 2 rfl (@zD _ _ _ _ _ (@pgl _ 0 _ _ nd0 rfl rfl) (@zD _ _ _ _ _ (@pgl _ 1 _ _ nd0 rfl rfl) (@jn _) rfl) rfl) rfl rfl rfl)) (fun _ _ _ _=>(@qh _)) (fun _ _ _ _=>(@pw _ 1 _ _ rfl rfl)) zZ.nd rfl rfl rfl (by intro _;rfl)) (@zg _ _ _ _ _ (@zy _ _ 5 _ _ _ _ zZ.nd rfl (Or.inl rfl) (@zK _ _ _ _ _ _ _ _ (@wy _) (@pw _ 5 _ _ rfl rfl) (@zY _ ["_law_name", "_law_places", "_law_cells_here", "_law_size"] [none,none,none,some 2] _ _ _ _ _ _ _ _ _ _ (by exact (show zN ["_law_table_here", "_law_columns_here", "_law_size", "_law_found", "_law_known", "_law_some", "_law_at", "_law_name", "_law_places", "_law_cells_here", "_law_column"] (zj jW) ["_law_name", "_law_places", "_law_cells_here", "_law_size"] [none,none,none,some 2] _ from⟨rfl,by ac_rfl,by ac_rfl,by ac_rfl,by ac_rfl,rfl,by ac_rfl⟩)) rfl (@qS _ K _ _ _ (@zO _ _ _ _ _ _ _ (@zr _ K rfl) (@pw _ 0 _ _ rfl rfl) (@zh _ _ _ _) (fun _ _=>rfl)) rfl) (fun _ _ _ _=>(@jp _ K _ _ _ _ 3 rfl (@zD _ _ _ _ _ (@pgl _ 0 _ _ nd1 rfl rfl) (@zD _ _ _ _ _ (@pgl _ 1 _ _ nd1 rfl rfl) (@zD _ _ _ _ _ (@pgl _ 2 _ _ nd1 rfl rfl) (@jn _) rfl) rfl) rfl) rfl rfl rfl)) (fun _ _ _ _=>(@yn _ _ _ (@zA _ _ _ _ _ _ _ _ (@Zh _) (@pw _ 1 _ _ rfl rfl) (@zh _ _ _ _) (@zM _ _ (by decide) (by decide))))) (fun _ _ _ _=>(@zK _ _ _ _ _ _ _ _ (@op_or2 _ _ _ _ (@op_repT _ K rfl) (@op_rep01 _ K rfl)) (@qx _ _ _ _ _ (@za _ _ _ _ _ (@zO _ _ _ _ _ _ _ (@zr _ K rfl) (@pw _ 2 _ _ rfl rfl) (@zh _ _ _ _) (fun _ _=>rfl)) (@zf _) rfl)) (@pw _ 3 _ _ rfl rfl))) (by intro _;rfl))) rfl (by walk_at "f")) (@zg _ _ _ _ _ (@zy _ _ 6 _ _ _ _ zZ.nd rfl (Or.inl rfl) (@zh _ _ _ _) rfl (by walk_at "f")) (@zg _ _ _ _ _ (@JC _ _ _ _ _ _ BF (@PW.pt _ _ _ (@wc _ _ _ _ _ _ _ (@zA _ _ _ _ _ _ _ _ (@yA _ K _ hr rfl) (@pw _ 5 _ _ rfl rfl) (@qm _ _ _ _ (@zf _)) (@zM _ _ (by decide) (by decide))) (@Qy _ _ _ _ (@PW.pt _ _ _ (@Qz _ _ _ _ _ _ _ (@zA _ _ _ _ _ _ _ _ (@yU _) (@pw _ 6 _ _ rfl rfl) (@zq _ _ _ _ _ _ _ _ _ (@zS _ K rfl) rfl gb.len qH (@za _ _ _ _ _ (@pw _ 3 _ _ rfl rfl) (@zf _) rfl) (by decide) (by decide) rfl rfl) (@zM _ _ (by decide) (by decide))) (@Qx _ _ _ _ (@zA _ _ _ _ _ _ _ _ (@yU _) (@zq _ _ _ _ _ _ _ _ _ (@zS _ K rfl) rfl gb.len qH (@za _ _ _ _ _ (@pw _ 3 _ _ rfl rfl) (@zf _) rfl) (by decide) (by decide) rfl rfl) (@zh _ _ _ _) (@zM _ _ (by decide) (by decide))))))))) (@zg _ _ _ _ _ (@qO _ _ _ _ _ _ _ _ (@zA _ _ _ _ _ _ _ _ (@op_eqNil _ K _ hr rfl) (@pw _ 5 _ _ rfl rfl) (@qm _ _ _ _ (@zf _)) (@zM _ _ (by decide) (by decide))) (@zg _ _ _ _ _ (@js _ _ _ _ _ _ _ _ BF rfl (@qS _ K _ _ _ (@zO _ _ _ _ _ _ _ (@zr _ K rfl) (@pw _ 0 _ _ rfl rfl) (@zh _ _ _ _) (fun _ _=>rfl)) rfl) (@jp _ K _ _ _ _ 3 rfl (@zD _ _ _ _ _ (@pgl _ 7 _ _ zZ.nd rfl rfl) (@zD _ _ _ _ _ (@pgl _ 8 _ _ zZ.nd rfl rfl) (@zD _ _ _ _ _ (@pgl _ 9 _ _ zZ.nd rfl rfl) (@jn _) rfl) rfl) rfl) rfl rfl rfl) (@zm _ _ _ (@qJ _ _ _ _ (@jU _ K _ _ _ _ _ _ _ _ _ _ _ Av Ce Cd (@ZS _) (@pw _ 5 _ _ rfl rfl) (@za _ _ _ _ _ (@zG _ _ _ _ _ _ _ _ _ _ _ d_law_given hr (by omega) rfl (@za _ _ _ _ _ (@zO _ _ _ _ _ _ _ (@zr _ K rfl) (@pw _ 0 _ _ rfl rfl) (@zh _ _ _ _) (fun _ _=>rfl)) (@za _ _ _ _ _ (@pw _ 8 _ _ rfl rfl) (@za _ _ _ _ _ (@pw _ 9 _ _ rfl rfl) (@za _ _ _ _ _ (@pw _ 3 _ _ rfl rfl) (@za _ _ _ _ _ (@pw _ 6 _ _ rfl rfl) (@zf _) rfl) rfl) rfl) rfl) rfl) (by decide) rfl rfl) (@zf _) rfl) rfl rfl rfl rfl rfl rfl) rfl)) (by intro _;rfl)) (@zm _ _ _ (@zy _ _ 6 _ _ _ _ zZ.nd rfl (Or.inl rfl) (@zK _ _ _ _ _ _ _ _ (@qw _) (@pw _ 6 _ _ rfl rfl) (@zh _ _ _ _)) rfl (by walk_at "f")))) (@zX _)) (@zg _ _ _ _ _ (@js _ _ _ _ _ _ _ _ BF rfl (@qk _ K _ _ _ (@pw _ 5 _ _ rfl rfl) rfl) (@pgl _ 10 _ _ zZ.nd rfl rfl) (@zm _ _ _ (@qO _ _ _ _ _ _ _ _ (@zA _ _ _ _ _ _ _ _ (@QP _ _ hr) (@pw _ 10 _ _ rfl rfl) (@pw _ 4 _ _ rfl rfl) (by with_unfolding_all rfl)) (@zg _ _ _ _ _ (@xh _ _ _ _ _ _ _ _ _ (@hu1 _ _ hr) (@pw _ 4 _ _ rfl rfl) (@pw _ 10 _ _ rfl rfl) (@Qv _ _ _ _) rfl) (@zm _ _ _ (@qJ _ _ _ _ (@jU _ K _ _ _ _ _ _ _ _ _ _ _ Av BO BN (@qG _) (@pw _ 3 _ _ rfl rfl) (@za _ _ _ _ _ (@pw _ 10 _ _ rfl rfl) (@zf _) rfl) rfl rfl rfl rfl rfl rfl) rfl))) (@zX _))) (by intro _;rfl)) (@zm _ _ _ (@zy _ _ 5 _ _ _ _ zZ.nd rfl (Or.inl rfl) (@qm _ _ _ _ (@zf _)) rfl (by walk_at "f")))))) (@zm _ _ _ (@zJ _ _ _ _ (@pw _ 3 _ _ rfl rfl))))))))),?_⟩
 obtain⟨a,w0,c0,vs,rfl,h1,h2,h3,h4⟩:=id ia
 have gx:∀ i,∃ t u:Addr,i < T.cs.length->vs[i]? = some (.ref t)/\H t=some (.tup [.str (T.cs.getD i d0).nm,nV (T.cs.getD i d0).pl,.ref u])/\H u=some (.tup ((T.cs.getD i d0).cs.map nV)):=fun i=>by
  by_cases hi:i < T.cs.length
  ·have hc:T.cs[i]? = some (T.cs.getD i d0):=by simp[List.getD,hi]
   obtain⟨t,u,h⟩:=h4.get hc
   exact⟨t,u,fun _=>h⟩
  ·exact⟨0,0,fun h=>absurd h hi⟩
 obtain⟨ad,gx⟩:=BB gx
 obtain⟨au,gx⟩:=BB gx
 have ge:∀ i,i < T.cs.length->T.cs[i]? = some (T.cs.getD i d0):=fun i hi=>by simp[List.getD,hi]
 have vl:=h4.len
 refine⟨zt (by show 0<=1000;decide),fun fl hfl=>?_⟩
 have n1:=ze hfl (.lst [])
 refine fun kd hkd=>?_
 have n2:=ze hkd (.dT [])
 have cvl:=AQ hpc
 have gp:∀ i,∃ t u:Addr,i < cps.length->cvs[i]? = some (.ref t)/\H t=some (.tup [.str (cps.getD i ("",[])).1,.ref u])/\H u=some (.tup ((cps.getD i ("",[])).2.map nV)):=fun i=>by
  by_cases hi:i < cps.length
  ·have hc:cps[i]? = some (cps.getD i ("",[])):=by simp[List.getD,hi]
   have hy:cvs[i]? = some (cvs.getD i .non):=by
    have:i < cvs.length:=by omega
    simp[List.getD,this]
   obtain⟨t',u',e1,e2,e3⟩:=Paired.at hpc i _ _ hc hy
   exact⟨t',u',fun _=>⟨by rw[hy,e1],e2,e3⟩⟩
  ·exact⟨0,0,fun h=>absurd h hi⟩
 obtain⟨pd,gp⟩:=BB gp
 obtain⟨pu,gp⟩:=BB gp
 have gpe:∀ i,i < cps.length->cps[i]? = some (cps.getD i ("",[])):=fun i hi=>by simp[List.getD,hi]
 have S2:=n1.trans n2
 refine⟨_,rfl,ct,rfl,⟨_,SqT.of (S2 _ _ hct)⟩,fun D hD=>?_⟩
 refine comp_tt2 (n:=cps.length) (ad:=pd) (v1:=fun i=>.str (cps.getD i ("",[])).1) (v2:=fun i=>.ref (pu i)) (more:=[]) (fun i ys H'=>zL _ H'/\ys.length=i/\Paired (Z6 H') ((cps.take i).map Prod.snd) ys) ⟨ze hD _,rfl,.nil⟩ (by omega) (fun i hi=>(gp i hi).1) (fun i ys H' h _=>SqT.of (h.1 _ _ (S2 _ _ hct))) (fun i ys H' hi h=>SqT.of (h.1 _ _ (S2 _ _ (gp i hi).2.1))) ?_ ?_
 ·rintro i ys H3 hi ⟨s3,yl,hY⟩ hD3
  refine yes ⟨_,rfl,?_⟩
  refine ZP hi ⟨_,_,rfl⟩ hD3 (zo (by omega)) ⟨s3.put hD,by rw[AI,yl];rfl,?_⟩
  rw[take_snoc (gpe i hi),AM]
  exact qN (ColVs.tk (Tk.put hD3) hY) (.cons ⟨pu i,rfl,Tk.put hD3 _ _ (s3 _ _ (S2 _ _ (gp i hi).2.2))⟩ .nil)
 rintro ys H3 ⟨s3,yl,hY⟩ hD3
 rw[Ad] at hY
 have S3:=S2.trans s3
 refine⟨_,rfl,_,rfl,.inr (.inl ⟨a,_,2,_,rfl,rfl,SqT.of (S3 _ _ h1),rfl,c0,rfl,⟨_,SqT.of (S3 _ _ h3)⟩,fun D2 hD2=>?_⟩)⟩
 refine ZX (n:=T.cs.length) (ad:=ad) (v1:=fun i=>.str (T.cs.getD i d0).nm) (v2:=fun i=>nV (T.cs.getD i d0).pl) (v3:=fun i=>.ref (au i)) (more:=[some (nV len)]) (fun i ys H'=>zL H3 H'/\ys.length<=i/\Paired (Z6 H') ((l0 (T.cs.take i)).map (qo T len [])) ys) ⟨ze hD2 _,AG _,.nil⟩ vl.symm (fun i hi=>(gx i hi).1) (fun i ys H' h _=>SqT.of (h.1 _ _ (S3 _ _ h3))) (fun i ys H' hi h=>SqT.of (h.1 _ _ (S3 _ _ (gx i hi).2.1))) ?_ ?_
 ·rintro i ys2 H4 hi ⟨s4,yl2,hP⟩ hD4
  refine⟨_,rfl,rfl,_,rfl,?_⟩
  have et:=take_snoc (ge i hi)
  have cm:=AN (ge i hi)
  by_cases e:(T.cs.getD i d0).pl=0
  ·have cs3:=(gT.cn _ cm).2.2
   have cl1:(T.cs.getD i d0).cs.length=1:=by rw[cs3.len,e,Nat.pow_zero]
   have hau:=(S3.trans s4) _ _ (gx i hi).2.2
   have el:qo T len [] ((T.cs.getD i d0).nm,[])=List.replicate len (Tn.at' (T.cs.getD i d0).cs 0):=by
    unfold qo
    rw[Ao (g:=fun _=>Tn.at' (T.cs.getD i d0).cs 0) (fun k _=>by rw[Xp nT cm];rfl),List.map_const',Aj]
   have e2:(l0 (T.cs.take (i+1))).map (qo T len [])=(l0 (T.cs.take i)).map (qo T len [])++[List.replicate len (Tn.at' (T.cs.getD i d0).cs 0)]:=by rw[et,l0_yes _ e,AM,DP,el]
   refine Yw (Ak (by rw[e];rfl)) ⟨_,rfl,.inr (.inl ⟨au i,_,0,_,rfl,rfl,SqT.of hau,Z9 (i:=0) (by omega),zt (by show 1<=1000;decide),fun t1 ht1=>⟨_,rfl,?_⟩⟩)⟩
   have m1:=ze ht1 (.tup [nV (Tn.at' (T.cs.getD i d0).cs 0)])
   have fin:∀ t H5,zL H4 H5->H5 t=some (.tup ((List.replicate len (Tn.at' (T.cs.getD i d0).cs 0)).map nV))->YZ (fun σ=>∃ x y z,σ=x :: y :: z :: [some (nV len)]) (fun i ys H'=>zL H3 H'/\ys.length<=i/\Paired (Z6 H') ((l0 (T.cs.take i)).map (qo T len [])) ys) T.cs.length D2 (some (.str (T.cs.getD i d0).nm) :: some (nV (T.cs.getD i d0).pl) :: some (.ref (au i)) :: [some (nV len)]) i (.ref t) H5:=fun t H5 s5 ht=>by
    have hD5:=s5 _ _ hD4
    refine ZP hi ⟨_,_,_,rfl⟩ hD5 (zo (by omega)) ⟨(s4.trans s5).put hD2,by rw[AI];show ys2.length+1<=i+1;omega,?_⟩
    rw[e2]
    exact qN (ColVs.tk (Tk.put hD5) (ColVs.tk (Tk.of s5) hP)) (.cons ⟨t,rfl,Tk.put hD5 _ _ ht⟩ .nil)
   by_cases l1:len=1
   ·refine .inr ⟨t1,_,rfl,SqT.of zd,.inl ⟨by rw[l1];rfl,?_⟩⟩
    exact fin t1 _ m1 (by rw[zd,l1];rfl)
   ·refine .inl ⟨t1,_,(len:Int),rfl,rfl,SqT.of zd,by simp,by omega,by omega,by rw[Int.toNat_natCast];show 1 * len<=1000;omega,fun p hp=>?_⟩
    rw[A2]
    have m2:=ze hp (.tup (List.replicate len [nV (Tn.at' (T.cs.getD i d0).cs 0)]).flatten)
    refine fin p _ (m1.trans m2) ?_
    rw[zd]
    congr 1
    congr 1
    simp
  ·refine Wn (AY fun z=>e ?_) (cno hi ⟨_,_,_,rfl⟩ hD4 ⟨s4,by omega,?_⟩)
   ·have:=V.int.inj z
    omega
   ·have e2:l0 (T.cs.take (i+1))=l0 (T.cs.take i):=by rw[et,l0_no _ e]
    rw[e2]
    exact hP
 rintro zs H4 ⟨s4,zl,hP⟩ hD4
 rw[Ad] at hP
 refine⟨D,D2,_,_,rfl,rfl,s4 _ _ hD3,hD4,zt (by omega),fun sm hsm=>?_⟩
 have n5:=ze hsm (.lst (ys++zs))
 have S5:=S3.trans (s4.trans n5)
 have S25:=s3.trans (s4.trans n5)
 have hfl5:=S25 _ _ (n2 _ _ zd)
 have hkd5:=S25 _ _ zd
 have hsc:Paired (Z6 (upd H4 sm (.lst (ys++zs)))) (cps.map Prod.snd++(l0 T.cs).map (qo T len [])) (ys++zs):=qN (ColVs.tk (Tk.of (s4.trans n5)) hY) (ColVs.tk (Tk.of n5) hP)
 have sm5:(upd H4 sm (.lst (ys++zs))) sm=some (.lst (ys++zs)):=zd
 have smH:H sm=none:=(S3.trans s4).free hsm
 have kdH:H kd=none:=n1.free hkd
 have p2:∀ c ∈ T.cs,c.pl<=2:=fun c hc=>(gT.cn c hc).2.1
 have l0l:(l0 T.cs).length<=T.cs.length:=by unfold l0;rw[List.length_map];exact C6 _ _
 have kf:kd ≠ fl:=fun z=>by
  rw[z,zd] at hkd
  cases hkd
 have sfk:∀ {b:Addr} {H':Hp},(∃ o,H' fl=some o)->(∃ o,H' kd=some o)->H' b=none->b ≠ fl/\b ≠ kd:=fun {b H'} ⟨o1,h1⟩ ⟨o2,h2⟩ hb=>⟨(fun z=>by rw[z,h1] at hb;cases hb),(fun z=>by rw[z,h2] at hb;cases hb)⟩
 obtain⟨sf0,sk0⟩:=sfk ⟨_,s4 _ _ (s3 _ _ (n2 _ _ zd))⟩ ⟨_,s4 _ _ (s3 _ _ zd)⟩ hsm
 have sdB:∀ c ∈ cps.map Prod.snd++(l0 T.cs).map (qo T len []),Sd T len (cps.map Prod.snd) c:=fun c hc=>by
  rcases AV.mp hc with h | h
  ·exact .base h
  ·obtain⟨z,hz,rfl⟩:=AW.mp h
   obtain⟨z0,cc,hcc,e1,e2⟩:=Jz hz
   rw[jL,z0,<- e1]
   exact .op hcc (by rw[e2,z0];rfl) (fun a h=>by cases h)
 have J0:SdH T len (cps.map Prod.snd) H (upd H4 sm (.lst (ys++zs))) fl kd sm [] (cps.map Prod.snd++(l0 T.cs).map (qo T len [])) [] (ys++zs) []:=⟨S5,hfl5,.nil,hkd5,rfl,sm5,hsc,.nil,(fun c h=>by cases h),sdB⟩
 generalize upd H4 sm (.lst (ys++zs))=H5 at J0 ⊢
 refine⟨fun m σ H'=>∃ sm n x7 x8 x9 x10 all scs fvs sxs kvs,σ=[some (.ref a),some (.ref ct),some (nV len),some (.ref fl),some (.ref kd),some (.ref sm),some (nV n),x7,x8,x9,x10]/\SdH T len (cps.map Prod.snd) H H' fl kd sm all scs fvs sxs kvs/\H sm=none/\sm ≠ fl/\sm ≠ kd/\(scs=[]->Cl8 T len (cps.map Prod.snd) all n)/\(scs ≠ []->n=0/\all=[]/\(∀ b ∈ cps.map Prod.snd,b ∈ scs)/\(∀ z ∈ l0 T.cs,qo T len [] z ∈ scs))/\scs.length<=20/\all.length<=740/\n<=82/\m=2 * (82 - n)+scs.length,⟨_,sm,0,_,_,_,_,[],_,_,_,_,rfl,J0,smH,sf0,sk0,fun e=>?_,fun _=>⟨rfl,rfl,fun b hb=>Ah _ hb,fun z hz=>Ac _ (AW.mpr ⟨z,hz,rfl⟩)⟩,by rw[AI,AB,AB];omega,by simp,by omega,rfl⟩,?_⟩
 ·obtain⟨e1,e2⟩:=List.append_eq_nil_iff.mp e
  exact⟨(fun b hb=>by rw[e1] at hb;cases hb),(fun z hz=>by rw[List.map_eq_nil_iff.mp e2] at hz;cases hz),fun k hk=>absurd hk (by omega),AG _⟩
 rintro m σ H6 ⟨sm,n,x7,x8,x9,x10,all,scs,fvs,sxs,kvs,rfl,J,smH,sf,sk,hcl,hin0,sc20,all7,n82,hm⟩
 have fll:=AQ J.pf
 have sxl:=AQ J.ps
 refine⟨_,rfl,zt (by show 0<=1000;decide),fun e0 he0=>?_⟩
 have m1:=ze he0 (.lst [])
 have J1:=J.same m1
 refine⟨sm,e0,sxs,rfl,rfl,SqL.of J1.hs,SqL.of zd,_,rfl,?_⟩
 generalize upd H6 e0 (.lst [])=H7 at J1 ⊢
 by_cases hsc0:scs=[]
 ·subst hsc0
  cases J.ps
  have cl:=hcl rfl
  refine Wn rfl ?_
  refine⟨_,rfl,_,rfl,_,_,rfl,.inl ⟨_,SqL.of J1.hf,rfl⟩,_,_,rfl,rfl,_,rfl,?_⟩
  by_cases hlt:n < all.length
  ·refine y8 (Ak (by omega)) ?_
   refine⟨_,rfl,_,_,rfl,.inl ⟨_,SqL.of J1.hf,rfl⟩,_,_,rfl,rfl,_,rfl,?_⟩
   by_cases h82:all.length < 82
   ·refine y8 (Ak (by omega)) ?_
    refine⟨_,fun _ _ h=>h,?_⟩
    refine⟨_,rfl,zt (by show 0<=1000;decide),fun e1 he1=>?_⟩
    have m2:=ze he1 (.lst [])
    have J2:=J1.same m2
    refine⟨sm,e1,[],rfl,rfl,SqL.of J2.hs,SqL.of zd,_,rfl,Yw rfl ?_⟩
    generalize upd H7 e1 (.lst [])=H8 at J2 ⊢
    refine⟨_,rfl,.inr (.inl ⟨a,_,2,_,rfl,rfl,SqT.of (J2.s _ _ h1),rfl,c0,rfl,⟨_,SqT.of (J2.s _ _ h3)⟩,?_⟩)⟩
    have hgood:∀ c ∈ all,zQ T.m len c:=fun c hc=>Xo gT nT (fun b hb=>by
     obtain⟨p,hp,rfl⟩:=AW.mp hb
     exact hgc p hp) (J.sa c hc)
    have hlen:∀ c ∈ all,c.length=len:=fun c hc=>(hgood c hc).1
    refine QB (xs:=vs) (fun i σ H'=>(∃ x7 x8 x9 x10,σ=[some (.ref a),some (.ref ct),some (nV len),some (.ref fl),some (.ref kd),some (.ref sm),some (nV n),x7,x8,x9,x10])/\∃ sx,SdH T len (cps.map Prod.snd) H H' fl kd sm all ((T.cs.take i).flatMap fun c=>W2 c.cs T.m c.pl len all n) fvs sx kvs/\sx.length<=164 * i) ⟨⟨_,_,_,_,rfl⟩,[],J2,AG _⟩ (fun i σ H' _ h=>by obtain⟨_,_,h,_⟩:=h;exact SqT.of (h.s _ _ h3)) ?_ ?_
    ·rintro i x σ H9 hx ⟨⟨x7,x8,x9,x10,rfl⟩,sx,J9,sxl9⟩
     have hi:i < T.cs.length:=by
      rw[vl]
      exact (AE.mp hx).1
     have hcc:T.cs[i]? = some T.cs[i]:=AD hi
     generalize T.cs[i]=cc at hcc
     have ccm:=AN hcc
     obtain⟨nl,pp2,cs3⟩:=gT.cn cc ccm
     obtain⟨t,u,ev,k1,k2⟩:=h4.get hcc
     rw[hx] at ev
     obtain rfl:=AH ev
     refine⟨t,_,rfl,SqT.of (J9.s _ _ k1),rfl,_,_,rfl,_,_,rfl,_,_,rfl,rfl,?_⟩
     refine⟨_,rfl,.inl ⟨rfl,_,SqL.of J9.hs⟩,_,rfl,.inr (.inl ⟨a,_,0,_,rfl,rfl,SqT.of (J9.s _ _ h1),rfl,_,rfl,_,rfl,_,rfl,_,rfl,T.m,cc.pl,len,n,u,fl,cc.cs,all,fvs,rfl,J9.s _ _ k2,cs3,pp2,gT.m9,J9.hf,J9.pf,hgood,n9,hlt,by omega,fun lg xs HA sA hlg hX=>?_⟩)⟩
     have hsA:=sA _ _ J9.hs
     have gl:=AQ hX
     have gll:=giv_len cc.cs T.m cc.pl len all (n:=n) (by omega)
     refine⟨sm,lg,_,_,rfl,rfl,hsA,hlg,zt (by omega),⟨_,_,_,_,rfl⟩,sx++xs,?_,by rw[AI];omega⟩
     have JA:=J9.same sA
     refine⟨JA.s.put smH,by rw[zx (Af sf)];exact JA.hf,ColVs.tk (Tk.put hsA) JA.pf,by rw[zx (Af sk)];exact JA.hk,JA.ek,zd,?_,JA.nd,JA.sa,fun c hc=>?_⟩
     ·rw[take_snoc hcc,DJ,Dg]
      exact qN (ColVs.tk (Tk.put hsA) JA.ps) (ColVs.tk (Tk.put hsA) hX)
     ·rw[take_snoc hcc,DJ,Dg] at hc
      rcases AV.mp hc with h | h
      ·exact JA.ss c h
      ·rw[giv_eq nT ccm hlen hlt] at h
       obtain⟨as,has,rfl⟩:=AW.mp h
       obtain⟨a1,a2⟩:=args_mem hlt pp2 has
       exact .op ccm a1 fun b hb=>J.sa b (a2 b hb)
    rintro σ H9 ⟨⟨x7,x8,x9,x10,rfl⟩,sx,J9,sxl9⟩
    rw[<- vl,Ad] at J9
    rw[<- vl] at sxl9
    refine⟨_,rfl,_,_,rfl,rfl,?_⟩
    have hmem:∀ z ∈ lw n T.cs,qo T len all z ∈ T.cs.flatMap fun c=>W2 c.cs T.m c.pl len all n:=fun z hz=>by
     obtain⟨cc,ccm,hz⟩:=Bq.mp hz
     exact Bq.mpr ⟨cc,ccm,giv_line nT ccm hlen hlt hz⟩
    refine⟨_,rfl,sm,rfl,⟨_,SqL.of (J9).hs⟩,?_⟩
    refine qP (xs:=sx) (fun i σ H'=>(∃ x7 x8 x9 x10,σ=[some (.ref a),some (.ref ct),some (nV len),some (.ref fl),some (.ref kd),some (.ref sm),some (nV (n+1)),x7,x8,x9,x10])/\∃ more fvs kvs,SdH T len (cps.map Prod.snd) H H' fl kd sm (all++more) (T.cs.flatMap fun c=>W2 c.cs T.m c.pl len all n) fvs sx kvs/\more.length<=i/\∀ c ∈ ((T.cs.flatMap fun c=>W2 c.cs T.m c.pl len all n)).take i,c ∈ all++more) ⟨⟨_,_,_,_,rfl⟩,[],_,_,by rw[Ap];exact J9,AG _,fun c h=>by simp at h⟩ (fun i σ H' _ h=>by obtain⟨_,_,_,_,h,_⟩:=h;exact SqL.of h.hs) ?_ ?_
    ·rintro i x σ H6 hx ⟨⟨x7,x8,x9,x10,rfl⟩,more,fvs6,kvs6,J6,ml,hin⟩
     have hi:=(AE.mp hx).1
     have psl:=AQ J6.ps
     have hci:((T.cs.flatMap fun c=>W2 c.cs T.m c.pl len all n))[i]? = some (((T.cs.flatMap fun c=>W2 c.cs T.m c.pl len all n))[i]'(by omega)):=AD _
     generalize ((T.cs.flatMap fun c=>W2 c.cs T.m c.pl len all n))[i]'(by omega)=col at hci
     obtain⟨tc,rfl,htc⟩:=Paired.at J6.ps i _ _ hci hx
     have csd:=J6.ss col (AN hci)
     refine⟨_,rfl,_,rfl,kd,tc,kvs6,jK col,rfl,rfl,J6.hk,by rw[Qg];exact htc,_,rfl,?_⟩
     cases hv:qY kvs6 (jK col) with
     | some u=>
      have hin2:col ∈ all++more:=(jw J6.ek col).mp (by rw[hv];rfl)
      refine JF ⟨⟨_,_,_,_,rfl⟩,more,fvs6,kvs6,J6,by omega,fun c hc=>?_⟩
      rw[take_snoc hci] at hc
      rcases AV.mp hc with h | h
      ·exact hin c h
      ·rw[AJ.mp h]
       exact hin2
     | none=>
      have nin:col ∉ all++more:=fun hm=>by
       have:=(jw J6.ek col).mpr hm
       rw[hv] at this
       cases this
      have kl6:kvs6.length=(all++more).length:=by
       have:=BL List.length J6.ek
       rw[AB,AB] at this
       exact this
      have al6:(all++more).length=all.length+more.length:=AI
      have fl6:=AQ J6.pf
      refine J8 ?_
      refine⟨_,rfl,_,rfl,kd,_,rfl,.t (k:=jK col) J6.hk (by rw[Qg];exact htc) (zo (by omega)),?_⟩
      rw[ZZ _ hv]
      have kfl:kd ≠ fl:=kf
      have tk1:Tk H6 (upd H6 kd (.dT (kvs6++[(jK col,V.bl true)]))):=fun b xs e=>by rw[zx (yR e J6.hk (by intro z;cases z))];exact e
      have hf7:(upd H6 kd (.dT (kvs6++[(jK col,V.bl true)]))) fl=some (.lst fvs6):=by rw[zx (Af kf)];exact J6.hf
      have hs7:(upd H6 kd (.dT (kvs6++[(jK col,V.bl true)]))) sm=some (.lst sx):=by rw[zx sk];exact J6.hs
      have hk7:(upd H6 kd (.dT (kvs6++[(jK col,V.bl true)]))) kd=some (.dT (kvs6++[(jK col,V.bl true)])):=zd
      have S7:zL H (upd H6 kd (.dT (kvs6++[(jK col,V.bl true)]))):=J6.s.put kdH
      generalize upd H6 kd (.dT (kvs6++[(jK col,V.bl true)]))=H7 at tk1 hf7 hs7 hk7 S7 ⊢
      refine⟨_,rfl,.inl ⟨rfl,_,SqL.of hf7⟩,_,rfl,fl,_,_,rfl,rfl,hf7,zo (by omega),⟨_,_,_,_,rfl⟩,more++[col],_,_,⟨S7.put hfl,zd,?_,by rw[zx kf];exact hk7,?_,by rw[zx sf];exact hs7,ColVs.tk (Tk.put hf7) (ColVs.tk tk1 J6.ps),?_,fun c hc=>?_,J6.ss⟩,by rw[AI];show more.length+1<=i+1;omega,fun c hc=>?_⟩
      ·rw[<- Ag]
       exact qN (ColVs.tk (Tk.put hf7) (ColVs.tk tk1 J6.pf)) (.cons ⟨tc,rfl,Tk.put hf7 _ _ (tk1 _ _ htc)⟩ .nil)
      ·rw[<- Ag,AM,AM,J6.ek]
       rfl
      ·rw[<- Ag,Bu]
       exact⟨J6.nd,by simp,fun x hx b' hb=>by rw[List.mem_singleton.mp hb];exact fun z=>nin (z ▸ hx)⟩
      ·rw[<- Ag] at hc
       rcases AV.mp hc with h | h
       ·exact J6.sa c h
       ·rw[AJ.mp h]
        exact csd
      ·rw[take_snoc hci] at hc
       rw[<- Ag]
       rcases AV.mp hc with h | h
       ·exact Ah _ (hin c h)
       ·rw[AJ.mp h]
        exact Ac _ (AJ.mpr rfl)
    rintro σ H6 ⟨⟨x7,x8,x9,x10,rfl⟩,more,fvs6,kvs6,J6,ml,hin⟩
    have psl:=AQ J6.ps
    rw[<- psl,Ad] at hin
    refine⟨zt (by show 0<=1000;decide),fun sm' hsm'=>?_⟩
    have m7:=ze hsm' (.lst [])
    have al8:(all++more).length=all.length+more.length:=AI
    refine⟨2 * (82 - (n+1)),by omega,sm',n+1,_,_,_,_,all++more,[],_,_,_,rfl,⟨(J6.same m7).s,(J6.same m7).hf,(J6.same m7).pf,(J6.same m7).hk,J6.ek,zd,.nil,J6.nd,J6.sa,(fun c h=>by cases h)⟩,J6.s.free hsm',(sfk ⟨_,J6.hf⟩ ⟨_,J6.hk⟩ hsm').1,(sfk ⟨_,J6.hf⟩ ⟨_,J6.hk⟩ hsm').2,fun _=>?_,fun h=>absurd rfl h,by simp,by omega,by omega,rfl⟩
    have clm:=cl.more gT (more:=more)
    refine⟨clm.hB,clm.h0,fun k hk z hz=>?_,by omega⟩
    by_cases e:k=n
    ·rw[e] at hz
     rw[qU T len more (fun n' hn'=>by have:=(yN hz p2).1 n' hn';omega)]
     exact hin _ (hmem z hz)
    ·exact clm.hW k (by omega) z hz
   ·refine Wz (AY (by omega)) ?_
    exact⟨_,rfl,q fl fvs all H7 J1.s hfl J1.hf J1.pf J1.nd J1.sa (fun h=>absurd h (by omega)) (by omega)⟩
  ·refine Wz (AY (by omega)) (JF ?_)
   refine⟨_,rfl,q fl fvs all H7 J1.s hfl J1.hf J1.pf J1.nd J1.sa (fun _ col hc=>?_) (by omega)⟩
   exact sd_in gT cl.hB cl.h0 (fun k hk=>cl.hW k (by omega)) hc
 ·have sne:(!sxs.isEmpty)=true:=by
   cases sxs with
   | nil=>exact absurd (Dc.mp sxl) hsc0
   | cons x xs=>rfl
  obtain⟨rfl,hall,hB0,h00⟩:=hin0 hsc0
  have al0:all.length=0:=by rw[hall];rfl
  have scp:1<=scs.length:=List.length_pos_iff.mpr hsc0
  rw[sne]
  refine J8 (J8 ?_)
  refine⟨_,fun _ _ h=>h,?_⟩
  refine⟨_,rfl,zt (by show 0<=1000;decide),fun e1 he1=>?_⟩
  have m2:=ze he1 (.lst [])
  have J2:=J1.same m2
  refine⟨sm,e1,sxs,rfl,rfl,SqL.of J2.hs,SqL.of zd,_,rfl,Wn (by simpa using sne) ?_⟩
  generalize upd H7 e1 (.lst [])=H8 at J2 ⊢
  refine⟨_,rfl,sm,rfl,⟨_,SqL.of (J2).hs⟩,?_⟩
  refine qP (xs:=sxs) (fun i σ H'=>(∃ x7 x8 x9 x10,σ=[some (.ref a),some (.ref ct),some (nV len),some (.ref fl),some (.ref kd),some (.ref sm),some (nV 0),x7,x8,x9,x10])/\∃ more fvs kvs,SdH T len (cps.map Prod.snd) H H' fl kd sm (all++more) scs fvs sxs kvs/\more.length<=i/\∀ c ∈ (scs).take i,c ∈ all++more) ⟨⟨_,_,_,_,rfl⟩,[],_,_,by rw[Ap];exact J2,AG _,fun c h=>by simp at h⟩ (fun i σ H' _ h=>by obtain⟨_,_,_,_,h,_⟩:=h;exact SqL.of h.hs) ?_ ?_
  ·rintro i x σ H6 hx ⟨⟨x7,x8,x9,x10,rfl⟩,more,fvs6,kvs6,J6,ml,hin⟩
   have hi:=(AE.mp hx).1
   have psl:=AQ J6.ps
   have hci:(scs)[i]? = some ((scs)[i]'(by omega)):=AD _
   generalize (scs)[i]'(by omega)=col at hci
   obtain⟨tc,rfl,htc⟩:=Paired.at J6.ps i _ _ hci hx
   have csd:=J6.ss col (AN hci)
   refine⟨_,rfl,_,rfl,kd,tc,kvs6,jK col,rfl,rfl,J6.hk,by rw[Qg];exact htc,_,rfl,?_⟩
   cases hv:qY kvs6 (jK col) with
   | some u=>
    have hin2:col ∈ all++more:=(jw J6.ek col).mp (by rw[hv];rfl)
    refine JF ⟨⟨_,_,_,_,rfl⟩,more,fvs6,kvs6,J6,by omega,fun c hc=>?_⟩
    rw[take_snoc hci] at hc
    rcases AV.mp hc with h | h
    ·exact hin c h
    ·rw[AJ.mp h]
     exact hin2
   | none=>
    have nin:col ∉ all++more:=fun hm=>by
     have:=(jw J6.ek col).mpr hm
     rw[hv] at this
     cases this
    have kl6:kvs6.length=(all++more).length:=by
     have:=BL List.length J6.ek
     rw[AB,AB] at this
     exact this
    have al6:(all++more).length=all.length+more.length:=AI
    have fl6:=AQ J6.pf
    refine J8 ?_
    refine⟨_,rfl,_,rfl,kd,_,rfl,.t (k:=jK col) J6.hk (by rw[Qg];exact htc) (zo (by omega)),?_⟩
    rw[ZZ _ hv]
    have kfl:kd ≠ fl:=kf
    have tk1:Tk H6 (upd H6 kd (.dT (kvs6++[(jK col,V.bl true)]))):=fun b xs e=>by rw[zx (yR e J6.hk (by intro z;cases z))];exact e
    have hf7:(upd H6 kd (.dT (kvs6++[(jK col,V.bl true)]))) fl=some (.lst fvs6):=by rw[zx (Af kf)];exact J6.hf
    have hs7:(upd H6 kd (.dT (kvs6++[(jK col,V.bl true)]))) sm=some (.lst sxs):=by rw[zx sk];exact J6.hs
    have hk7:(upd H6 kd (.dT (kvs6++[(jK col,V.bl true)]))) kd=some (.dT (kvs6++[(jK col,V.bl true)])):=zd
    have S7:zL H (upd H6 kd (.dT (kvs6++[(jK col,V.bl true)]))):=J6.s.put kdH
    generalize upd H6 kd (.dT (kvs6++[(jK col,V.bl true)]))=H7 at tk1 hf7 hs7 hk7 S7 ⊢
    refine⟨_,rfl,.inl ⟨rfl,_,SqL.of hf7⟩,_,rfl,fl,_,_,rfl,rfl,hf7,zo (by omega),⟨_,_,_,_,rfl⟩,more++[col],_,_,⟨S7.put hfl,zd,?_,by rw[zx kf];exact hk7,?_,by rw[zx sf];exact hs7,ColVs.tk (Tk.put hf7) (ColVs.tk tk1 J6.ps),?_,fun c hc=>?_,J6.ss⟩,by rw[AI];show more.length+1<=i+1;omega,fun c hc=>?_⟩
    ·rw[<- Ag]
     exact qN (ColVs.tk (Tk.put hf7) (ColVs.tk tk1 J6.pf)) (.cons ⟨tc,rfl,Tk.put hf7 _ _ (tk1 _ _ htc)⟩ .nil)
    ·rw[<- Ag,AM,AM,J6.ek]
     rfl
    ·rw[<- Ag,Bu]
     exact⟨J6.nd,by simp,fun x hx b' hb=>by rw[List.mem_singleton.mp hb];exact fun z=>nin (z ▸ hx)⟩
    ·rw[<- Ag] at hc
     rcases AV.mp hc with h | h
     ·exact J6.sa c h
     ·rw[AJ.mp h]
      exact csd
    ·rw[take_snoc hci] at hc
     rw[<- Ag]
     rcases AV.mp hc with h | h
     ·exact Ah _ (hin c h)
     ·rw[AJ.mp h]
      exact Ac _ (AJ.mpr rfl)
  rintro σ H6 ⟨⟨x7,x8,x9,x10,rfl⟩,more,fvs6,kvs6,J6,ml,hin⟩
  have psl:=AQ J6.ps
  rw[<- psl,Ad] at hin
  refine⟨zt (by show 0<=1000;decide),fun sm' hsm'=>?_⟩
  have m7:=ze hsm' (.lst [])
  have al8:(all++more).length=all.length+more.length:=AI
  refine⟨2 * (82 - 0),by omega,sm',0,_,_,_,_,all++more,[],_,_,_,rfl,⟨(J6.same m7).s,(J6.same m7).hf,(J6.same m7).pf,(J6.same m7).hk,J6.ek,zd,.nil,J6.nd,J6.sa,(fun c h=>by cases h)⟩,J6.s.free hsm',(sfk ⟨_,J6.hf⟩ ⟨_,J6.hk⟩ hsm').1,(sfk ⟨_,J6.hf⟩ ⟨_,J6.hk⟩ hsm').2,fun _=>?_,fun h=>absurd rfl h,by simp,by omega,by omega,rfl⟩
  refine⟨fun b hb=>hin b (hB0 b hb),fun z hz=>?_,fun k hk=>absurd hk (by omega),by omega⟩
  have e:=qU T len (cols:=[]) (all++more) (z:=z) (fun n hn=>by rw[(Jz hz).1] at hn;cases hn)
  rw[Bw] at e
  rw[e]
  exact hin _ (h00 z hz)
abbrev Zz:Stmt:=top 40
theorem Ze:zI ["_law_e", "_law_at", "_law_found"] ["_law_e", "_law_at"] (zj Zz):=⟨rfl,rfl,rfl,by ac_rfl,rfl,by ac_rfl,by ac_rfl⟩
theorem yb (F:Fun K "_law_only" "_law_only" Zz f fd) (gb:Gb mg) {c:Nat->Addr} (cl:Cl K mg c):jO P w K mg base CX0 1 f fd ["_law_e", "_law_at"] (W5 (c 6)):=by
 refine F.ok Ze (fun vs H Q E h=>?_) (fun cdv A outer s H vs Q E hr h=>?_)
 ·obtain⟨e,rfl,_⟩:=h
  rfl
 obtain⟨e,rfl,he,q⟩:=h
 have nd0:(["_law_k", "_law_at"]:List Str).Nodup:=by ac_rfl
 refine⟨_,(@zg _ _ _ _ _ (@zy _ _ 2 _ _ _ _ Ze.nd rfl (Or.inl rfl) (@qm _ _ _ _ (@za _ _ _ _ _ (@zq _ _ _ _ _ _ _ _ _ (@qj _ K _ cl.h_TooMany rfl) rfl gb.isinstance zu (@za _ _ _ _ _ (@pw _ 0 _ _ rfl rfl) (@za _ _ _ _ _ (@jk _ _ (.ref _) _ _ rfl cl.g_NoFraction rfl (by decide)) (@zf _) rfl) rfl) (by decide) (by decide) rfl rfl) (@za _ _ _ _ _ (@zq _ _ _ _ _ _ _ _ _ (@qj _ K _ cl.h_TooMany rfl) rfl gb.isinstance zu (@za _ _ _ _ _ (@pw _ 0 _ _ rfl rfl) (@za _ _ _ _ _ (@jk _ _ (.ref _) _ _ rfl cl.g_NoTable rfl (by decide)) (@zf _) rfl) rfl) (by decide) (by decide) rfl rfl) (@za _ _ _ _ _ (@zq _ _ _ _ _ _ _ _ _ (@qj _ K _ cl.h_TooMany rfl) rfl gb.isinstance zu (@za _ _ _ _ _ (@pw _ 0 _ _ rfl rfl) (@za _ _ _ _ _ (@jk _ _ (.ref _) _ _ rfl cl.g_NoSaying rfl (by decide)) (@zf _) rfl) rfl) (by decide) (by decide) rfl rfl) (@za _ _ _ _ _ (@zq _ _ _ _ _ _ _ _ _ (@qj _ K _ cl.h_TooMany rfl) rfl gb.isinstance zu (@za _ _ _ _ _ (@pw _ 0 _ _ rfl rfl) (@za _ _ _ _ _ (@jk _ _ (.ref _) _ _ rfl cl.g_NoName rfl (by decide)) (@zf _) rfl) rfl) (by decide) (by decide) rfl rfl) (@zf _) rfl) rfl) rfl) rfl)) rfl (by walk_at "f")) (@zg _ _ _ _ _ (@zy _ _ 2 _ _ _ _ Ze.nd rfl (Or.inl rfl) (@zK _ _ _ _ _ _ _ _ (@wy _) (@pw _ 2 _ _ rfl rfl) (@qm _ _ _ _ (@za _ _ _ _ _ (@zq _ _ _ _ _ _ _ _ _ (@qj _ K _ cl.h_TooMany rfl) rfl gb.isinstance zu (@za _ _ _ _ _ (@pw _ 0 _ _ rfl rfl) (@za _ _ _ _ _ (@jk _ _ (.ref _) _ _ rfl cl.g_NoLetter rfl (by decide)) (@zf _) rfl) rfl) (by decide) (by decide) rfl rfl) (@za _ _ _ _ _ (@zq _ _ _ _ _ _ _ _ _ (@qj _ K _ cl.h_TooMany rfl) rfl gb.isinstance zu (@za _ _ _ _ _ (@pw _ 0 _ _ rfl rfl) (@za _ _ _ _ _ (@jk _ _ (.ref _) _ _ rfl cl.g_TooMany rfl (by decide)) (@zf _) rfl) rfl) (by decide) (by decide) rfl rfl) (@za _ _ _ _ _ (@zq _ _ _ _ _ _ _ _ _ (@qj _ K _ cl.h_TooMany rfl) rfl gb.isinstance zu (@za _ _ _ _ _ (@pw _ 0 _ _ rfl rfl) (@za _ _ _ _ _ (@jk _ _ (.ref _) _ _ rfl cl.g_NoKind rfl (by decide)) (@zf _) rfl) rfl) (by decide) (by decide) rfl rfl) (@za _ _ _ _ _ (@zq _ _ _ _ _ _ _ _ _ (@qj _ K _ cl.h_TooMany rfl) rfl gb.isinstance zu (@za _ _ _ _ _ (@pw _ 0 _ _ rfl rfl) (@za _ _ _ _ _ (@jk _ _ (.ref _) _ _ rfl cl.g_NoCount rfl (by decide)) (@zf _) rfl) rfl) (by decide) (by decide) rfl rfl) (@zf _) rfl) rfl) rfl) rfl))) rfl (by walk_at "f")) (@zg _ _ _ _ _ (@zy _ _ 2 _ _ _ _ Ze.nd rfl (Or.inl rfl) (@zK _ _ _ _ _ _ _ _ (@wy _) (@pw _ 2 _ _ rfl rfl) (@qm _ _ _ _ (@za _ _ _ _ _ (@zq _ _ _ _ _ _ _ _ _ (@qj _ K _ cl.h_TooMany rfl) rfl gb.isinstance zu (@za _ _ _ _ _ (@pw _ 0 _ _ rfl rfl) (@za _ _ _ _ _ (@jk _ _ (.ref _) _ _ rfl cl.g_NoRow rfl (by decide)) (@zf _) rfl) rfl) (by decide) (by decide) rfl rfl) (@za _ _ _ _ _ (@zq _ _ _ _ _ _ _ _ _ (@qj _ K _ cl.h_TooMany rfl) rfl gb.isinstance zu (@za _ _ _ _ _ (@pw _ 0 _ _ rfl rfl) (@za _ _ _ _ _ (@jk _ _ (.ref _) _ _ rfl cl.g_NoKept rfl (by decide)) (@zf _) rfl) rfl) (by decide) (by decide) rfl rfl) (@zf _) rfl) rfl))) rfl (by walk_at "f")) (@zg _ _ _ _ _ (@qO _ _ _ _ _ _ _ _ (@PW.pt _ _ _ (@wc _ _ _ _ _ _ _ (@Qf _ _ _ _ (@Zg _ _ _ (@zq _ _ _ _ _ _ _ _ _ (@qj _ K _ cl.h_TooMany rfl) rfl gb.isinstance zu (@za _ _ _ _ _ (@pw _ 0 _ _ rfl rfl) (@za _ _ _ _ _ (@jk _ _ (.ref _) _ _ rfl cl.g_GradeError rfl (by decide)) (@zf _) rfl) rfl) (by decide) (by decide) rfl rfl) (by intro _;rfl))) (@Qy _ _ _ _ (@Qf _ _ _ _ (@Zg _ _ _ (@zq _ _ _ _ _ _ _ _ _ (@Wv _ K _ cl.h_TooMany rfl) rfl gb.isinstance zu (@za _ _ _ _ _ (@pw _ 0 _ _ rfl rfl) (@za _ _ _ _ _ (@jX _ _ (.ty "ValueError") _ _ rfl gb.ValueError JH rfl (by decide) (by decide)) (@zf _) rfl) rfl) (by decide) (by decide) rfl rfl) (by intro _;rfl)))))) (@zm _ _ _ (@zJ _ _ _ _ (@Qv _ _ _ _))) (@zX _)) (@zm _ _ _ (@zJ _ _ _ _ (@Zl _ _ _ _ _ _ _ _ (@op_eqL _ K _ hr rfl) (@pw _ 2 _ _ rfl rfl) (@zY _ ["_law_k", "_law_at"] [none,some 1] _ _ _ _ _ _ _ _ _ _ (by exact (show zN ["_law_e", "_law_at", "_law_found"] (zj Zz) ["_law_k", "_law_at"] [none,some 1] _ from⟨rfl,by ac_rfl,by ac_rfl,by ac_rfl,by ac_rfl,rfl,by ac_rfl⟩)) rfl (@zV _ _ _ _ _ _ rfl gb.range (@za _ _ _ _ _ (@zh _ _ _ _) (@zf _) rfl) rfl) (fun _ _ _ _=>(@pgl _ 0 _ _ nd0 rfl rfl)) (fun _ _ _ _=>(@qh _)) (fun _ _ _ _=>(@Zl _ _ _ _ _ _ _ _ (@Zh _) (@pw _ 0 _ _ rfl rfl) (@pw _ 1 _ _ rfl rfl) (@zM _ _ (by decide) (by decide)))) (by intro _;rfl)) (@zM _ _ (by decide) (by decide))))))))),?_⟩
 refine⟨_,rfl,e,_,_,rfl,he,cl.k_NoFraction,_,rfl,e,_,_,rfl,he,cl.k_NoTable,_,rfl,e,_,_,rfl,he,cl.k_NoSaying,_,rfl,e,_,_,rfl,he,cl.k_NoName,zt (by show 4<=1000;decide),fun l1 h1=>?_⟩
 have t1:zL H _:=ze h1 (.lst [.bl false,.bl false,.bl false,.bl false])
 have he1:=t1 _ _ he
 refine⟨_,rfl,_,rfl,e,_,_,rfl,he1,cl.k_NoLetter,_,rfl,e,_,_,rfl,he1,cl.k_TooMany,_,rfl,e,_,_,rfl,he1,cl.k_NoKind,_,rfl,e,_,_,rfl,he1,cl.k_NoCount,zt (by show 4<=1000;decide),fun l2 h2=>?_⟩
 have t2:=t1.trans (ze h2 (.lst [.bl false,.bl true,.bl false,.bl false]))
 refine⟨l1,l2,_,_,rfl,rfl,ze h2 _ _ _ zd,zd,zt (by show 4+4<=1000;decide),fun l3 h3=>?_⟩
 have t3:=t2.trans (ze h3 (.lst ([.bl false,.bl false,.bl false,.bl false]++[.bl false,.bl true,.bl false,.bl false])))
 have he3:=t3 _ _ he
 refine⟨_,rfl,_,rfl,e,_,_,rfl,he3,cl.k_NoRow,_,rfl,e,_,_,rfl,he3,cl.k_NoKept,zt (by show 2<=1000;decide),fun l4 h4=>?_⟩
 have t4:=t3.trans (ze h4 (.lst [.bl false,.bl false]))
 refine⟨l3,l4,_,_,rfl,rfl,ze h4 _ _ _ zd,zd,zt (by show 8+2<=1000;decide),fun l5 h5=>?_⟩
 have t5:=t4.trans (ze h5 (.lst (([.bl false,.bl false,.bl false,.bl false]++[.bl false,.bl true,.bl false,.bl false])++[.bl false,.bl false])))
 have he5:=t5 _ _ he
 refine⟨_,rfl,e,_,_,rfl,he5,cl.k_GradeError,true,rfl,?_⟩
 refine⟨_,rfl,e,_,_,rfl,he5,cl.k_ValueError,true,rfl,?_⟩
 refine⟨_,rfl,10,rfl,by decide,by decide,fun D hD=>?_⟩
 refine qc (fun i ys H'=>zL _ H'/\ys=(List.range i).map fun k=>V.bl (decide (V.int (0+((k:Nat):Int))=V.int 5))) ⟨ze hD _,rfl⟩ ?_ ?_
 ·rintro i ys H' hi ⟨s1,rfl⟩ hD'
  refine yes ?_
  refine⟨_,rfl,_,rfl,rfl,?_⟩
  refine ZP hi jg hD' (by rw[AB,Aj];exact zo (by omega)) ⟨fun b o qb=>?_,?_⟩
  ·rw[zx (zE qb hD)]
   exact s1 b o qb
  ·rw[BV,AM]
   rfl
 ·rintro ys H' ⟨s1,rfl⟩ hD'
  refine⟨l5,D,_,_,rfl,rfl,SqL.of (s1 _ _ zd),SqL.of hD',by rfl,by rfl,?_⟩
  exact q _ (t5.trans s1)
abbrev ZO:Stmt:=top 41
theorem Wj:zI ["_law_number", "_law_many"] ["_law_number", "_law_many"] (zj ZO):=⟨rfl,rfl,rfl,by ac_rfl,rfl,by ac_rfl,by ac_rfl⟩
theorem Wk (F:Fun K "_law_ahead" "_law_ahead" ZO f fd) (gb:Gb mg) {c:Nat->Addr} (cl:Cl K mg c):jO P w K mg base CX0 1 f fd ["_law_number", "_law_many"] W6:=by
 refine F.ok Wj (fun vs H Q E h=>?_) (fun cdv A outer s H vs Q E hr h=>?_)
 ·obtain⟨n,m,rfl,_⟩:=h
  rfl
 obtain⟨n,m,rfl,hn,q⟩:=h
 refine⟨_,(@zm _ _ _ (@zJ _ _ _ _ (@wd _ _ _ _ _ _ _ (@zq _ _ _ _ _ _ _ _ _ (@qM _ K rfl) rfl gb.isinstance zu (@za _ _ _ _ _ (@pw _ 0 _ _ rfl rfl) (@za _ _ _ _ _ (@jX _ _ (.ty "int") _ _ rfl gb.int YW rfl (by decide) (by decide)) (@zf _) rfl) rfl) (by decide) (by decide) rfl rfl) (@wd _ _ _ _ _ _ _ (@pe_not _ _ _ _ (@zq _ _ _ _ _ _ _ _ _ (@qM _ K rfl) rfl gb.isinstance zu (@za _ _ _ _ _ (@pw _ 0 _ _ rfl rfl) (@za _ _ _ _ _ (@jX _ _ (.ty "bool") _ _ rfl gb.bool bt_bool rfl (by decide) (by decide)) (@zf _) rfl) rfl) (by decide) (by decide) rfl rfl)) (@wd _ _ _ _ _ _ _ (@Zl _ _ _ _ _ _ _ _ (@op_le _) (@zh _ _ _ _) (@pw _ 0 _ _ rfl rfl) (@zM _ _ (by decide) (by decide))) (@pe_one _ _ _ _ _ (@Zl _ _ _ _ _ _ _ _ (@yU _) (@pw _ 0 _ _ rfl rfl) (@pw _ 1 _ _ rfl rfl) (@zM _ _ (by decide) (by decide))))))))),?_⟩
 refine⟨_,rfl,_,_,_,true,rfl,.int _,ju "int",true,rfl,J8 ⟨_,rfl,_,_,_,false,rfl,.int _,wD,false,rfl,true,rfl,J8 ?_⟩⟩
 refine⟨_,rfl,_,_,rfl,rfl,_,rfl,Yw (Ak (by omega)) ?_⟩
 refine⟨_,rfl,_,rfl,_,_,rfl,rfl,?_⟩
 dsimp only
 rw[Ak (show ((n:Nat):Int) < (m:Int) by omega)]
 exact q
abbrev Qe:Stmt:=top 43
theorem jb:zI ["_law_table_here", "_law_columns_here", "_law_wish_here", "_law_caught", "_law_found", "_law_e"] ["_law_table_here", "_law_columns_here", "_law_wish_here"] (zj Qe):=⟨rfl,rfl,rfl,by ac_rfl,rfl,by ac_rfl,by ac_rfl⟩
theorem yc (F:Fun K "_law_told" "_law_told" Qe f fd) (gb:Gb mg) {c:Nat->Addr} (cl:Cl K mg c) (d_sayable:Def1 P w K mg base 5 "sayable" ["T", "columns", "wish"] (spSay (c 6))):jO P w K mg base CX0 6 f fd ["_law_table_here", "_law_columns_here", "_law_wish_here"] (JY (c 6)):=by
 refine F.ok jb (fun vs H Q E h=>?_) (fun cdv A outer s H vs Q E hr h=>?_)
 ·obtain⟨v,ct,wt,T,cps,cvs,wish,rfl,_⟩:=h
  rfl
 obtain⟨v,ct,wt,T,cps,cvs,wish,rfl,ia,gT,nT,c4,hct,hpc,hgc,hwt,w1,w9,q1,q0,qe⟩:=h
 refine⟨_,(@zg _ _ _ _ _ (@zy _ _ 3 _ _ _ _ jb.nd rfl (Or.inl rfl) (@YA _ _ _) rfl (by walk_at "f")) (@zg _ _ _ _ _ (@zy _ _ 4 _ _ _ _ jb.nd rfl (Or.inl rfl) (@YA _ _ _) rfl (by walk_at "f")) (@zg _ _ _ _ _ (@ps_tryAs _ _ _ _ 5 _ _ _ _ _ _ _ _ rfl rfl rfl jb.nd rfl rfl rfl cl.g_GradeError (@psx_set _ 4 _ _ _ _ _ jb.nd rfl (Or.inl rfl) (@pex_def _ _ _ _ _ _ _ _ _ _ _ d_sayable hr (by omega) rfl (@za _ _ _ _ _ (@pw _ 0 _ _ rfl rfl) (@za _ _ _ _ _ (@pw _ 1 _ _ rfl rfl) (@za _ _ _ _ _ (@pw _ 2 _ _ rfl rfl) (@zf _) rfl) rfl) rfl) (by decide) rfl rfl) rfl (by walk_at "f")) (fun _=>(@zm _ _ _ (@zy _ _ 3 _ _ _ _ jb.nd rfl (Or.inl rfl) (@pw _ 5 _ _ rfl rfl) rfl (by walk_at "f")))) (by decide)) (@zm _ _ _ (@zJ _ _ _ _ (@qx _ _ _ _ _ (@za _ _ _ _ _ (@pw _ 4 _ _ rfl rfl) (@za _ _ _ _ _ (@pw _ 3 _ _ rfl rfl) (@zf _) rfl) rfl))))))),?_⟩
 refine⟨_,rfl,_,rfl,_,rfl,v,ct,wt,T,cps,cvs,wish,rfl,ia,gT,nT,c4,hct,hpc,hgc,hwt,w1,w9,fun hs all hall l81 t lt us L HD sD ht hlt hls hG l1 l2 htd=>?_,fun hs t ut bs ks HD sD ht hut hP asc hks hk=>?_,fun cs HD sD a1 a2 a3=>⟨cl.m_TooMany,fun ea hea=>?_⟩⟩
 ·refine⟨_,rfl,_,rfl,zt (by show 2<=1000;decide),fun t9 ht9=>?_⟩
  have n:=ze ht9 (.tup [.ref t,.non])
  exact q1 hs all hall l81 t9 t lt us L _ (sD.trans n) zd (n _ _ ht) (n _ _ hlt) (Lns.tk (Tk.of n) hls) hG l1 l2 htd
 ·refine⟨_,rfl,_,rfl,zt (by show 2<=1000;decide),fun t9 ht9=>?_⟩
  have n:=ze ht9 (.tup [.ref t,.non])
  exact q0 hs t9 t ut bs ks _ (sD.trans n) zd (n _ _ ht) (n _ _ hut) (ColVs.tk (Tk.of n) hP) asc hks hk
 ·have nE:=ze hea (ExcO ea (.ref (c 6)))
  refine⟨_,rfl,_,rfl,_,rfl,zt (by show 2<=1000;decide),fun t9 ht9=>?_⟩
  have n:=ze ht9 (.tup [.non,.ref ea])
  exact qe cs t9 ea _ (sD.trans (nE.trans n)) a1 a2 a3 zd (n _ _ zd)
abbrev ZA:Stmt:=top 44
theorem Q7:zI ["_law_well_here", "_law_table_here", "_law_columns_here", "_law_said_here", "_law_size", "_law_pick"] ["_law_well_here", "_law_table_here", "_law_columns_here", "_law_said_here", "_law_size"] (zj ZA):=⟨rfl,rfl,rfl,by ac_rfl,rfl,by ac_rfl,by ac_rfl⟩
theorem yd (F:Fun K "_law_wish" "_law_wish" ZA f fd) (gb:Gb mg) {c:Nat->Addr} (cl:Cl K mg c) (d_law_draw:Def P w K mg base 1 "_law_draw" ["_law_well_here", "_law_many"] Zt):jO P w K mg base CX0 2 f fd ["_law_well_here", "_law_table_here", "_law_columns_here", "_law_said_here", "_law_size"] JZ:=by
 refine F.ok Q7 (fun vs H Q E h=>?_) (fun cdv A outer s H vs Q E hr h=>?_)
 ·obtain⟨p,v,T,ct,sl,xs,all,len,rfl,_⟩:=h
  rfl
 obtain⟨p,v,T,ct,sl,xs,all,len,rfl,w,ia,gT,hsl,slp,hX,hg,a9,n9,q⟩:=h
 have nd0:(["_law_k", "_law_well_here", "_law_table_here"]:List Str).Nodup:=by ac_rfl
 refine⟨_,(@zg _ _ _ _ _ (@zy _ _ 5 _ _ _ _ Q7.nd rfl (Or.inl rfl) (@zG _ _ _ _ _ _ _ _ _ _ _ d_law_draw hr (by omega) rfl (@za _ _ _ _ _ (@pw _ 0 _ _ rfl rfl) (@za _ _ _ _ _ (@zh _ _ _ _) (@zf _) rfl) rfl) (by decide) rfl rfl) rfl (by walk_at "f")) (@zg _ _ _ _ _ (@qO _ _ _ _ _ _ _ _ (@PW.pt _ _ _ (@Qz _ _ _ _ _ _ _ (@zA _ _ _ _ _ _ _ _ (@Zh _) (@pw _ 5 _ _ rfl rfl) (@zh _ _ _ _) (@zM _ _ (by decide) (by decide))) (@Qx _ _ _ _ (@zA _ _ _ _ _ _ _ _ (@yA _ K _ hr rfl) (@pw _ 3 _ _ rfl rfl) (@qm _ _ _ _ (@zf _)) (@zM _ _ (by decide) (by decide)))))) (@zm _ _ _ (@zJ _ _ _ _ (@zO _ _ _ _ _ _ _ (@zr _ K rfl) (@pw _ 3 _ _ rfl rfl) (@zG _ _ _ _ _ _ _ _ _ _ _ d_law_draw hr (by omega) rfl (@za _ _ _ _ _ (@pw _ 0 _ _ rfl rfl) (@za _ _ _ _ _ (@zq _ _ _ _ _ _ _ _ _ (@zS _ K rfl) rfl gb.len qH (@za _ _ _ _ _ (@pw _ 3 _ _ rfl rfl) (@zf _) rfl) (by decide) (by decide) rfl rfl) (@zf _) rfl) rfl) (by decide) rfl rfl) (fun _ _=>rfl)))) (@zX _)) (@zm _ _ _ (@zJ _ _ _ _ (@zC _ _ _ _ _ _ _ _ _ (@zw _ K rfl) rfl gb.tuple zW (@za _ _ _ _ _ (@zY _ ["_law_k", "_law_well_here", "_law_table_here"] [none,some 0,some 1] _ _ _ _ _ _ _ _ _ _ (by exact (show zN ["_law_well_here", "_law_table_here", "_law_columns_here", "_law_said_here", "_law_size", "_law_pick"] (zj ZA) ["_law_k", "_law_well_here", "_law_table_here"] [none,some 0,some 1] _ from⟨rfl,by ac_rfl,by ac_rfl,by ac_rfl,by ac_rfl,rfl,by ac_rfl⟩)) rfl (@zV _ _ _ _ _ _ rfl gb.range (@za _ _ _ _ _ (@pw _ 4 _ _ rfl rfl) (@zf _) rfl) rfl) (fun _ _ _ _=>(@pgl _ 0 _ _ nd0 rfl rfl)) (fun _ _ _ _=>(@qh _)) (fun _ _ _ _=>(@zG _ _ _ _ _ _ _ _ _ _ _ d_law_draw hr (by omega) rfl (@za _ _ _ _ _ (@pw _ 1 _ _ rfl rfl) (@za _ _ _ _ _ (@zO _ _ _ _ _ _ _ (@zr _ K rfl) (@pw _ 2 _ _ rfl rfl) (@zh _ _ _ _) (fun _ _=>rfl)) (@zf _) rfl) rfl) (by decide) rfl rfl)) (by intro _;rfl)) (@zf _) rfl) (by decide) (by decide) rfl rfl))))),?_⟩
 obtain⟨a,w0,c0,vs,rfl,h1,h2,h3,h4⟩:=id ia
 have gm1:=gT.m1
 have gm9:=gT.m9
 refine⟨_,rfl,p,3,rfl,w,by decide,by decide,fun pk H1 pk1 o1 w1=>?_⟩
 have hsl1:=o1 sl _ slp hsl
 refine⟨_,rfl,rfl,_,rfl,Yu (fun _=>?_) (fun _=>?_)⟩
 ·refine⟨_,rfl,zt (by show 0<=1000;decide),fun nl hnl=>?_⟩
  have n2:=ze hnl (.lst [])
  have w2:=w1.same n2
  have o2:Off p H (upd H1 nl (.lst [])):=o1.trans (Off.of n2)
  have hsl2:=n2 _ _ hsl1
  refine⟨sl,nl,xs,rfl,rfl,SqL.of hsl2,SqL.of zd,_,rfl,?_⟩
  generalize upd H1 nl (.lst [])=HX at w2 o2 hsl2 ⊢
  by_cases hx:xs=[]
  ·refine Wn (by rw[hx];rfl) ?_
   have oX:=o2
   have wX:=w2
   refine⟨_,rfl,(len:Int),rfl,by omega,by omega,fun D3 hD3=>?_⟩
   rw[A2]
   have pD3:=wX.ne hD3
   refine qc (fun j zs H'=>∃ col:List Nat,zs=col.map nV/\col.length=j/\(∀ x ∈ col,x < T.m)/\Off p HX H'/\Wel H' p) ⟨[],rfl,rfl,(fun x h=>by cases h),Off.new hD3,wX.off pD3⟩ ?_ ?_
   ·rintro j zs HB hj ⟨col,rfl,cj,cm,oB,wB⟩ hDB
    refine yes ⟨_,rfl,_,rfl,.inr (.inl ⟨a,_,0,_,rfl,rfl,SqT.of ((w.tk (oX.trans oB)) _ _ h1),rfl,p,T.m,rfl,wB,by omega,by omega,fun v3 HC v31 oC wC=>?_⟩)⟩
    have hDC:=oC D3 _ (Af pD3) hDB
    refine ZP hj jg hDC (by rw[AB];exact zo (by omega)) ⟨col++[v3],by rw[AM];rfl,by rw[AI,cj];rfl,fun x hx=>?_,(oB.trans oC).fresh hD3,wC.off pD3⟩
    rcases AV.mp hx with h | h
    ·exact cm x h
    ·rw[AJ.mp h]
     exact v31
   rintro zs HB ⟨wish,rfl,cj,cm,oB,wB⟩ hDB
   refine⟨D3,_,rfl,.inl ⟨SqL.of hDB,fun wt hwt=>?_⟩⟩
   have nC:=ze hwt (.tup (wish.map nV))
   exact q wt wish _ (oX.trans (oB.trans (Off.of nC))) (wB.same nC) zd ⟨cj,cm⟩
  ·have xl:=AQ hX
   have xp:0 < xs.length:=List.length_pos_iff.mpr hx
   refine Yw (by cases xs with | nil=>exact absurd rfl hx | cons=>rfl) ?_
   refine⟨_,rfl,_,rfl,_,rfl,_,_,rfl,.inl ⟨_,SqL.of hsl2,rfl⟩,p,xs.length,rfl,w2,xp,by omega,fun v H3 v1 o3 w3=>?_⟩
   have hcv:all[v]? = some (all[v]'(by omega)):=AD _
   have hxv:xs[v]? = some (xs[v]'(by omega)):=AD _
   generalize all[v]'(by omega)=cv at hcv
   generalize xs[v]'(by omega)=xv at hxv
   obtain⟨t,rfl,ht⟩:=Paired.at hX v _ _ hcv hxv
   exact .inl ⟨sl,_,_,_,rfl,rfl,SqL.of (o3 sl _ slp hsl2),qu hxv,q t cv _ (o2.trans o3) w3 ((w.tk (o2.trans o3)) _ _ ht) (hg _ (AN hcv))⟩
 ·have oX:=o1
  have wX:=w1
  generalize H1=HX at oX wX ⊢
  refine⟨_,rfl,(len:Int),rfl,by omega,by omega,fun D3 hD3=>?_⟩
  rw[A2]
  have pD3:=wX.ne hD3
  refine qc (fun j zs H'=>∃ col:List Nat,zs=col.map nV/\col.length=j/\(∀ x ∈ col,x < T.m)/\Off p HX H'/\Wel H' p) ⟨[],rfl,rfl,(fun x h=>by cases h),Off.new hD3,wX.off pD3⟩ ?_ ?_
  ·rintro j zs HB hj ⟨col,rfl,cj,cm,oB,wB⟩ hDB
   refine yes ⟨_,rfl,_,rfl,.inr (.inl ⟨a,_,0,_,rfl,rfl,SqT.of ((w.tk (oX.trans oB)) _ _ h1),rfl,p,T.m,rfl,wB,by omega,by omega,fun v3 HC v31 oC wC=>?_⟩)⟩
   have hDC:=oC D3 _ (Af pD3) hDB
   refine ZP hj jg hDC (by rw[AB];exact zo (by omega)) ⟨col++[v3],by rw[AM];rfl,by rw[AI,cj];rfl,fun x hx=>?_,(oB.trans oC).fresh hD3,wC.off pD3⟩
   rcases AV.mp hx with h | h
   ·exact cm x h
   ·rw[AJ.mp h]
    exact v31
  rintro zs HB ⟨wish,rfl,cj,cm,oB,wB⟩ hDB
  refine⟨D3,_,rfl,.inl ⟨SqL.of hDB,fun wt hwt=>?_⟩⟩
  have nC:=ze hwt (.tup (wish.map nV))
  exact q wt wish _ (oX.trans (oB.trans (Off.of nC))) (wB.same nC) zd ⟨cj,cm⟩
abbrev zT:Stmt:=top 42
theorem zF:zI ["_law_table_here", "_law_columns_here", "_law_lines", "_law_wish_here", "_law_known", "_law_named", "_law_found", "_law_line", "_law_places", "_law_cells_here", "_law_numbers", "_law_rows"] ["_law_table_here", "_law_columns_here", "_law_lines", "_law_wish_here"] (zj zT):=⟨rfl,rfl,rfl,by ac_rfl,rfl,by ac_rfl,by ac_rfl⟩
theorem Z5 (F:Fun K "_law_lines_right" "_law_lines_right" zT f fd) (gb:Gb mg) {c:Nat->Addr} (cl:Cl K mg c) (d_law_ahead:Def P w K mg base 1 "_law_ahead" ["_law_number", "_law_many"] W6) (d_law_cell:Def P w K mg base 1 "_law_cell" ["_law_many", "_law_cells_here", "_law_grades"] Xb):jO P w K mg base CX0 2 f fd ["_law_table_here", "_law_columns_here", "_law_lines", "_law_wish_here"] spLR:=by
 refine F.ok zF (fun vs H Q E h=>?_) (fun cdv A outer s H vs Q E hr h=>?_)
 ·obtain⟨v,ct,lt,wt,T,cps,cvs,us,L,wish,rfl,_⟩:=h
  rfl
 obtain⟨v,ct,lt,wt,T,cps,cvs,us,L,wish,rfl,ia,gT,nT,c4,hct,hpc,ndc,cp3,hgc,hlt,hls,hG,l1,l81,htd,hwt,w1,w9,q⟩:=h
 have nd0:(["_law_name", "_law_places", "_law_cells_here"]:List Str).Nodup:=by ac_rfl
 have nd1:(["_law_number", "_law_found"]:List Str).Nodup:=by ac_rfl
 have nd2:(["_law_k", "_law_numbers", "_law_found"]:List Str).Nodup:=by ac_rfl
 have nd3:(["_law_number", "_law_found", "_law_k"]:List Str).Nodup:=by ac_rfl
 have nd4:(["_law_row", "_law_table_here", "_law_cells_here"]:List Str).Nodup:=by ac_rfl
 refine⟨_,(@zg _ _ _ _ _ (@zy _ _ 4 _ _ _ _ zF.nd rfl (Or.inl rfl) (@xB _ K _ _ _ _ rfl gb.dict (@za _ _ _ _ _ (@pw _ 1 _ _ rfl rfl) (@zf _) rfl) rfl rfl rfl) rfl (by walk_at "f")) (@zg _ _ _ _ _ (@zy _ _ 5 _ _ _ _ zF.nd rfl (Or.inl rfl) (@pe_dictP _ K _ _ _ _ rfl gb.dict (@za _ _ _ _ _ (@zY _ ["_law_name", "_law_places", "_law_cells_here"] [none,none,none] _ _ _ _ _ _ _ _ _ _ (by exact (show zN ["_law_table_here", "_law_columns_here", "_law_lines", "_law_wish_here", "_law_known", "_law_named", "_law_found", "_law_line", "_law_places", "_law_cells_here", "_law_numbers", "_law_rows"] (zj zT) ["_law_name", "_law_places", "_law_cells_here"] [none,none,none] _ from⟨rfl,by ac_rfl,by ac_rfl,by ac_rfl,by ac_rfl,rfl,by ac_rfl⟩)) rfl (@qS _ K _ _ _ (@zO _ _ _ _ _ _ _ (@zr _ K rfl) (@pw _ 0 _ _ rfl rfl) (@zh _ _ _ _) (fun _ _=>rfl)) rfl) (fun _ _ _ _=>(@jp _ K _ _ _ _ 3 rfl (@zD _ _ _ _ _ (@pgl _ 0 _ _ nd0 rfl rfl) (@zD _ _ _ _ _ (@pgl _ 1 _ _ nd0 rfl rfl) (@zD _ _ _ _ _ (@pgl _ 2 _ _ nd0 rfl rfl) (@jn _) rfl) rfl) rfl) rfl rfl rfl)) (fun _ _ _ _=>(@qh _)) (fun _ _ _ _=>(@qx _ _ _ _ _ (@za _ _ _ _ _ (@pw _ 0 _ _ rfl rfl) (@za _ _ _ _ _ (@qx _ _ _ _ _ (@za _ _ _ _ _ (@pw _ 1 _ _ rfl rfl) (@za _ _ _ _ _ (@pw _ 2 _ _ rfl rfl) (@zf _) rfl) rfl)) (@zf _) rfl) rfl))) (by intro _;rfl)) (@zf _) rfl) rfl rfl rfl) rfl (by walk_at "f")) (@zg _ _ _ _ _ (@zy _ _ 6 _ _ _ _ zF.nd rfl (Or.inr rfl) (@qm _ _ _ _ (@zf _)) rfl (by walk_at "f")) (@zg _ _ _ _ _ (@qO _ _ _ _ _ _ _ _ (@PW.pt _ _ _ (@wc _ _ _ _ _ _ _ (@Qf _ _ _ _ (@Zg _ _ _ (@zq _ _ _ _ _ _ _ _ _ (@qM _ K rfl) rfl gb.isinstance zu (@za _ _ _ _ _ (@pw _ 2 _ _ rfl rfl) (@za _ _ _ _ _ (@jX _ _ (.ty "tuple") _ _ rfl gb.tuple zW rfl (by decide) (by decide)) (@zf _) rfl) rfl) (by decide) (by decide) rfl rfl) (by intro _;rfl))) (@Qy _ _ _ _ (@zA _ _ _ _ _ _ _ _ (@op_eqE _ _ hr) (@pw _ 2 _ _ rfl rfl) (@qx _ _ _ _ _ (@zf _)) (@zM _ _ (by decide) (by decide)))))) (@zm _ _ _ (@zJ _ _ _ _ (@Qv _ _ _ _))) (@zX _)) (@zg _ _ _ _ _ (@js _ _ _ _ _ _ _ _ BF rfl (@qS _ K _ _ _ (@pw _ 2 _ _ rfl rfl) rfl) (@pgl _ 7 _ _ zF.nd rfl rfl) (@zm _ _ _ (@qO _ _ _ _ _ _ _ _ (@PW.pt _ _ _ (@Qz _ _ _ _ _ _ _ (@Zg _ _ _ (@zq _ _ _ _ _ _ _ _ _ (@qM _ K rfl) rfl gb.isinstance zu (@za _ _ _ _ _ (@pw _ 7 _ _ rfl rfl) (@za _ _ _ _ _ (@jX _ _ (.ty "str") _ _ rfl gb.str YX rfl (by decide) (by decide)) (@zf _) rfl) rfl) (by decide) (by decide) rfl rfl) (by intro _;rfl)) (@Qx _ _ _ _ (@zA _ _ _ _ _ _ _ _ (@op_kIn _ _ hr) (@pw _ 7 _ _ rfl rfl) (@pw _ 4 _ _ rfl rfl) (by with_unfolding_all rfl))))) (@zm _ _ _ (@qJ _ _ _ _ (@jU _ K _ _ _ _ _ _ _ _ _ _ _ Av BO BN (@qG _) (@pw _ 6 _ _ rfl rfl) (@za _ _ _ _ _ (@xj _ _ _ _ _ _ (@pw _ 4 _ _ rfl rfl) (@pw _ 7 _ _ rfl rfl) (fun _ _=>rfl)) (@zf _) rfl) rfl rfl rfl rfl rfl rfl) rfl)) (@zm _ _ _ (@qO _ _ _ _ _ _ _ _ (@PW.pt _ _ _ (@Qz _ _ _ _ _ _ _ (@Zg _ _ _ (@zq _ _ _ _ _ _ _ _ _ (@qM _ K rfl) rfl gb.isinstance zu (@za _ _ _ _ _ (@pw _ 7 _ _ rfl rfl) (@za _ _ _ _ _ (@jX _ _ (.ty "tuple") _ _ rfl gb.tuple zW rfl (by decide) (by decide)) (@zf _) rfl) rfl) (by decide) (by decide) rfl rfl) (by intro _;rfl)) (@Qz _ _ _ _ _ _ _ (@zA _ _ _ _ _ _ _ _ (@op_neE _ _ hr) (@pw _ 7 _ _ rfl rfl) (@qx _ _ _ _ _ (@zf _)) (@zM _ _ (by decide) (by decide))) (@Qz _ _ _ _ _ _ _ (@Zg _ _ _ (@zq _ _ _ _ _ _ _ _ _ (@qM _ K rfl) rfl gb.isinstance zu (@za _ _ _ _ _ (@zO _ _ _ _ _ _ _ (@zr _ K rfl) (@pw _ 7 _ _ rfl rfl) (@zh _ _ _ _) (fun _ _=>rfl)) (@za _ _ _ _ _ (@jX _ _ (.ty "str") _ _ rfl gb.str YX rfl (by decide) (by decide)) (@zf _) rfl) rfl) (by decide) (by decide) rfl rfl) (by intro _;rfl)) (@Qx _ _ _ _ (@zA _ _ _ _ _ _ _ _ (@op_kIn _ _ hr) (@zO _ _ _ _ _ _ _ (@zr _ K rfl) (@pw _ 7 _ _ rfl rfl) (@zh _ _ _ _) (fun _ _=>rfl)) (@pw _ 5 _ _ rfl rfl) (by with_unfolding_all rfl))))))) (@zg _ _ _ _ _ (@wf _ _ _ _ _ _ (@xj _ _ _ _ _ _ (@pw _ 5 _ _ rfl rfl) (@zO _ _ _ _ _ _ _ (@zr _ K rfl) (@pw _ 7 _ _ rfl rfl) (@zh _ _ _ _) (fun _ _=>rfl)) (fun _ _=>rfl)) (@jp _ K _ _ _ _ 2 rfl (@zD _ _ _ _ _ (@pgl _ 8 _ _ zF.nd rfl rfl) (@zD _ _ _ _ _ (@QA _ _ 9 _ zF.nd rfl (Or.inr rfl) (by walk_at "f")) (@jn _) rfl) rfl) rfl rfl rfl) rfl rfl rfl) (@zg _ _ _ _ _ (@zy _ _ 10 _ _ _ _ zF.nd rfl (Or.inr rfl) (@zC _ _ _ _ _ _ _ _ _ (@ZU _ K rfl) rfl gb.list ZI (@za _ _ _ _ _ (@qA _ _ _ _ _ _ _ _ _ _ (@kslT _ K rfl) (@pw _ 7 _ _ rfl rfl) (@qR _ _ _ (@zh _ _ _ _)) (@jo _)) (@zf _) rfl) (by decide) (by decide) rfl rfl) rfl (by walk_at "f")) (@zg _ _ _ _ _ (@qO _ _ _ _ _ _ _ _ (@PW.pt _ _ _ (@wc _ _ _ _ _ _ _ (@zA _ _ _ _ _ _ _ _ (@op_ne _) (@zq _ _ _ _ _ _ _ _ _ (@zS _ K rfl) rfl gb.len qH (@za _ _ _ _ _ (@pw _ 10 _ _ rfl rfl) (@zf _) rfl) (by decide) (by decide) rfl rfl) (@pw _ 8 _ _ rfl rfl) (@zM _ _ (by decide) (by decide))) (@Qy _ _ _ _ (@Qf _ _ _ _ (@Zg _ _ _ (@zq _ _ _ _ _ _ _ _ _ (@QI _ K rfl rfl) rfl gb.all YV (@za _ _ _ _ _ (@zY _ ["_law_number", "_law_found"] [none,some 6] _ _ _ _ _ _ _ _ _ _ (by exact (show zN ["_law_table_here", "_law_columns_here", "_law_lines", "_law_wish_here", "_law_known", "_law_named", "_law_found", "_law_line", "_law_places", "_law_cells_here", "_law_numbers", "_law_rows"] (zj zT) ["_law_number", "_law_found"] [none,some 6] _ from⟨rfl,by ac_rfl,by ac_rfl,by ac_rfl,by ac_rfl,rfl,by ac_rfl⟩)) rfl (@qk _ K _ _ _ (@pw _ 10 _ _ rfl rfl) rfl) (fun _ _ _ _=>(@pgl _ 0 _ _ nd1 rfl rfl)) (fun _ _ _ _=>(@qh _)) (fun _ _ _ _=>(@zG _ _ _ _ _ _ _ _ _ _ _ d_law_ahead hr (by omega) rfl (@za _ _ _ _ _ (@pw _ 0 _ _ rfl rfl) (@za _ _ _ _ _ (@zq _ _ _ _ _ _ _ _ _ (@zS _ K rfl) rfl gb.len qH (@za _ _ _ _ _ (@pw _ 1 _ _ rfl rfl) (@zf _) rfl) (by decide) (by decide) rfl rfl) (@zf _) rfl) rfl) (by decide) rfl rfl)) (by intro _;rfl)) (@zf _) rfl) (by decide) (by decide) rfl rfl) (by intro _;rfl)))))) (@zm _ _ _ (@zJ _ _ _ _ (@Qv _ _ _ _))) (@zX _)) (@zg _ _ _ _ _ (@WP _ ["_law_k", "_law_numbers", "_law_found"] [none,some 10,some 6] _ 11 "_law_k" _ _ _ _ _ _ _ _ _ _ _ _ (by exact (show jQ ["_law_table_here", "_law_columns_here", "_law_lines", "_law_wish_here", "_law_known", "_law_named", "_law_found", "_law_line", "_law_places", "_law_cells_here", "_law_numbers", "_law_rows"] (zj zT) ["_law_k", "_law_numbers", "_law_found"] [none,some 10,some 6] _ "_law_k" from⟨rfl,fun _ _=>rfl,fun _=>rfl,by ac_rfl,by ac_rfl,by ac_rfl,by ac_rfl,by ac_rfl,rfl,by ac_rfl⟩)) rfl (@zV _ _ _ _ _ _ rfl gb.range (@za _ _ _ _ _ (@zq _ _ _ _ _ _ _ _ _ (@zS _ K rfl) rfl gb.len qH (@za _ _ _ _ _ (@pw _ 3 _ _ rfl rfl) (@zf _) rfl) (by decide) (by decide) rfl rfl) (@zf _) rfl) rfl) (fun _ _ _ _=>(@QA _ _ 0 _ nd2 rfl (Or.inr rfl) (by exact (Or.inl (beq_self_eq_true _))))) (fun _ _ _ _=>(@qh _)) (fun _ _ _ _=>(@zY _ ["_law_number", "_law_found", "_law_k"] [none,some 2,some 0] _ _ _ _ _ _ _ _ _ _ (by exact (xY (show xX ["_law_k", "_law_numbers", "_law_found"] _ ["_law_number", "_law_found", "_law_k"] [none,some 2,some 0] _ from⟨rfl,by ac_rfl,by ac_rfl,by ac_rfl,by ac_rfl,rfl,by ac_rfl⟩))) rfl (@qk _ K _ _ _ (@pw _ 1 _ _ rfl rfl) rfl) (fun _ _ _ _=>(@pgl _ 0 _ _ nd3 rfl rfl)) (fun _ _ _ _=>(@qh _)) (fun _ _ _ _=>(@zO _ _ _ _ _ _ _ (@zr _ K rfl) (@zO _ _ _ _ _ _ _ (@zr _ K rfl) (@pw _ 1 _ _ rfl rfl) (@pw _ 0 _ _ rfl rfl) (fun _ _=>rfl)) (@pw _ 2 _ _ rfl rfl) (fun _ _=>rfl))) (by intro _;rfl))) zF.nd rfl rfl rfl (by intro _;rfl)) (@zm _ _ _ (@qJ _ _ _ _ (@jU _ K _ _ _ _ _ _ _ _ _ _ _ Av BO BN (@qG _) (@pw _ 6 _ _ rfl rfl) (@za _ _ _ _ _ (@zC _ _ _ _ _ _ _ _ _ (@zw _ K rfl) rfl gb.tuple zW (@za _ _ _ _ _ (@zY _ ["_law_row", "_law_table_here", "_law_cells_here"] [none,some 0,some 9] _ _ _ _ _ _ _ _ _ _ (by exact (show zN ["_law_table_here", "_law_columns_here", "_law_lines", "_law_wish_here", "_law_known", "_law_named", "_law_found", "_law_line", "_law_places", "_law_cells_here", "_law_numbers", "_law_rows"] (zj zT) ["_law_row", "_law_table_here", "_law_cells_here"] [none,some 0,some 9] _ from⟨rfl,by ac_rfl,by ac_rfl,by ac_rfl,by ac_rfl,rfl,by ac_rfl⟩)) rfl (@qk _ K _ _ _ (@pw _ 11 _ _ rfl rfl) rfl) (fun _ _ _ _=>(@pgl _ 0 _ _ nd4 rfl rfl)) (fun _ _ _ _=>(@qh _)) (fun _ _ _ _=>(@zG _ _ _ _ _ _ _ _ _ _ _ d_law_cell hr (by omega) rfl (@za _ _ _ _ _ (@zO _ _ _ _ _ _ _ (@zr _ K rfl) (@pw _ 1 _ _ rfl rfl) (@zh _ _ _ _) (fun _ _=>rfl)) (@za _ _ _ _ _ (@pw _ 2 _ _ rfl rfl) (@za _ _ _ _ _ (@pw _ 0 _ _ rfl rfl) (@zf _) rfl) rfl) rfl) (by decide) rfl rfl)) (by intro _;rfl)) (@zf _) rfl) (by decide) (by decide) rfl rfl) (@zf _) rfl) rfl rfl rfl rfl rfl rfl) rfl)))))) (@zm _ _ _ (@zJ _ _ _ _ (@Qv _ _ _ _))))))) (by intro _;rfl)) (@zm _ _ _ (@zJ _ _ _ _ (@Zl _ _ _ _ _ _ _ _ (@op_eqT _ K _ hr rfl) (@zO _ _ _ _ _ _ _ (@zr _ K rfl) (@pw _ 6 _ _ rfl rfl) (@pe_un _ _ _ _ _ _ (@un_neg _) (@zh _ _ _ _)) (fun _ _=>rfl)) (@pw _ 3 _ _ rfl rfl) (@zM _ _ (by decide) (by decide)))))))))),?_⟩
 obtain⟨a,w0,c,vs,rfl,h1,h2,h3,h4⟩:=id ia
 have gcl:=gT.cl
 have gm9:=gT.m9
 have gx:∀ i,∃ t u:Addr,i < T.cs.length->vs[i]? = some (.ref t)/\H t=some (.tup [.str (T.cs.getD i d0).nm,nV (T.cs.getD i d0).pl,.ref u])/\H u=some (.tup ((T.cs.getD i d0).cs.map nV)):=fun i=>by
  by_cases hi:i < T.cs.length
  ·have hc:T.cs[i]? = some (T.cs.getD i d0):=by simp[List.getD,hi]
   obtain⟨t,u,h⟩:=h4.get hc
   exact⟨t,u,fun _=>h⟩
  ·exact⟨0,0,fun h=>absurd h hi⟩
 obtain⟨ad,gx⟩:=BB gx
 obtain⟨au,gx⟩:=BB gx
 have ge:∀ i,i < T.cs.length->T.cs[i]? = some (T.cs.getD i d0):=fun i hi=>by simp[List.getD,hi]
 obtain⟨kps,hkp,hkf,hku⟩:=Xr hpc
 refine⟨_,rfl,ct,cvs,kps,rfl,hct,hkp,fun kd hkd=>?_⟩
 have n1:=ze hkd (.dK (putAll [] kps))
 have hkd1:(upd H kd (.dK (putAll [] kps))) kd=some (.dK (putAll [] kps)):=zd
 have hkn:∀ p ∈ cps,∃ u,qY (putAll [] kps) (Sum.inr p.1)=some (.ref u)/\H u=some (.tup (p.2.map nV)):=fun p hp=>by
  obtain⟨u,e1,e2⟩:=hku p hp
  refine⟨u,WH kps [] ((Sum.inr p.1:Key),V.ref u) ?_ e1,e2⟩
  rw[hkf]
  have:=inr_nd ndc
  rw[BA] at this
  exact this
 generalize putAll [] kps=kvs at *
 generalize upd H kd (.dK kvs)=H1 at *
 refine⟨_,rfl,.inr (.inl ⟨a,_,2,_,rfl,rfl,SqT.of (n1 _ _ h1),rfl,c,rfl,⟨_,SqT.of (n1 _ _ h3)⟩,fun D hD=>?_⟩)⟩
 refine ZX (n:=T.cs.length) (ad:=ad) (v1:=fun i=>.str (T.cs.getD i d0).nm) (v2:=fun i=>nV (T.cs.getD i d0).pl) (v3:=fun i=>.ref (au i)) (more:=[]) (fun i ys H'=>zL H1 H'/\ys.length=i/\∃ ps,Prs H' ys ps/\Nmd H' (T.cs.take i) ps) ⟨ze hD _,rfl,[],.nil,rfl,(fun c hc=>by cases hc)⟩ h4.len.symm (fun i hi=>(gx i hi).1) (fun i ys H' h _=>SqT.of (h.1 _ _ (n1 _ _ h3))) (fun i ys H' hi h=>SqT.of (h.1 _ _ (n1 _ _ (gx i hi).2.1))) ?_ ?_
 ·rintro i ys H2 hi ⟨s2,yl,ps,hP,hN⟩ hD2
  refine yes ⟨_,rfl,_,rfl,_,rfl,zt (by show 2<=1000;decide),fun b hb=>⟨zt (by show 2<=1000;decide),fun t ht=>?_⟩⟩
  have m1:=ze hb (.tup [nV (T.cs.getD i d0).pl,.ref (au i)])
  have m2:=ze ht (.tup [.str (T.cs.getD i d0).nm,.ref b])
  have hD4:=m2 _ _ (m1 _ _ hD2)
  have hau:=m2 _ _ (m1 _ _ (s2 _ _ (n1 _ _ (gx i hi).2.2)))
  have hb4:=m2 _ _ (zd (H:=H2) (a:=b) (o:=.tup [nV (T.cs.getD i d0).pl,.ref (au i)]))
  refine ZP hi ⟨_,_,_,rfl⟩ hD4 (zo (by omega)) ⟨(s2.trans (m1.trans m2)).put hD,by rw[AI,yl];rfl,ps++[((Sum.inr (T.cs.getD i d0).nm:Key),V.ref b)],?_,?_⟩
  ·exact Prs.snoc (p:=((Sum.inr (T.cs.getD i d0).nm:Key),V.ref b)) (Prs.tk (Tk.put hD4) (Prs.tk (Tk.of (m1.trans m2)) hP)) (Tk.put hD4 _ _ zd)
  ·rw[take_snoc (ge i hi)]
   exact Nmd.snoc (Nmd.tk (Tk.put hD4) (Nmd.tk (Tk.of (m1.trans m2)) hN)) (Tk.put hD4 _ _ hb4) (Tk.put hD4 _ _ hau)
 rintro ys H2 ⟨s2,yl,ps,hP,hN⟩ hD2
 rw[Ad] at hN
 refine⟨D,ys,ps,rfl,hD2,hP,fun nd hnd=>?_⟩
 have m3:=ze hnd (.dK (putAll [] ps))
 have hnd3:(upd H2 nd (.dK (putAll [] ps))) nd=some (.dK (putAll [] ps)):=zd
 have hnn:∀ cn ∈ T.cs,∃ b u,qY (putAll [] ps) (Sum.inr cn.nm)=some (.ref b)/\(upd H2 nd (.dK (putAll [] ps))) b=some (.tup [nV cn.pl,.ref u])/\(upd H2 nd (.dK (putAll [] ps))) u=some (.tup (cn.cs.map nV)):=fun cn hc=>by
  obtain⟨b,u,e1,e2,e3⟩:=hN.2 cn hc
  refine⟨b,u,WH ps [] ((Sum.inr cn.nm:Key),V.ref b) ?_ e1,m3 _ _ e2,m3 _ _ e3⟩
  rw[hN.1]
  have:=inr_nd nT
  unfold jv at this
  rw[BA] at this
  exact this
 have S3:=n1.trans (s2.trans m3)
 have hkd3:=(s2.trans m3) _ _ hkd1
 generalize putAll [] ps=nvs at *
 generalize upd H2 nd (.dK nvs)=HK at *
 refine⟨zt (by show 0<=1000;decide),fun fd hfd=>?_⟩
 have n4:=ze hfd (.lst [])
 have hlt4:=n4 _ _ (S3 _ _ hlt)
 have hLn:Lns HK L us:=Lns.tk (Tk.of S3) hls
 have hul:=AQ hLn
 refine⟨_,rfl,_,_,_,true,rfl,.tup hlt4,ju "tuple",true,rfl,?_⟩
 refine⟨_,rfl,zt (by show 0<=1000;decide),fun e0 he0=>?_⟩
 have n5:=ze he0 (.tup [])
 refine⟨lt,e0,us,rfl,rfl,n5 _ _ hlt4,zd,_,rfl,?_⟩
 have hus:us ≠ []:=fun z=>by
  rw[z] at hul
  have:L.length=0:=hul
  omega
 refine Wn (by cases us with | nil=>exact absurd rfl hus | cons=>rfl) ?_
 have S5:=n4.trans n5
 have hfd5:=n5 _ _ (zd (H:=HK) (a:=fd) (o:=.lst []))
 have nfd:HK fd=none:=hfd
 generalize upd (upd HK fd (.lst [])) e0 (.tup [])=H5 at *
 obtain⟨γ,hγ⟩:=gam (len:=wish.length) cps ndc fun p hp=>(hgc p hp).1
 have bd:∀ k,k < wish.length->∀ x ∈ cps.map Prod.fst,γ k x < T.m:=fun k hk x hx=>by
  obtain⟨p,hp,rfl⟩:=AW.mp hx
  have h8:=hγ p hp
  have h9:=(hgc p hp).2
  rw[h8] at h9
  exact h9 _ (AW.mpr ⟨k,Aw.mpr hk,rfl⟩)
 refine⟨_,rfl,lt,rfl,⟨_,SqT.of (S5 _ _ (S3 _ _ hlt))⟩,?_⟩
 refine QB (xs:=us) (fun i σ H'=>(∃ x7 x8 x9 x10 x11,σ=[some (.ref a),some (.ref ct),some (.ref lt),some (.ref wt),some (.ref kd),some (.ref nd),some (.ref fd),x7,x8,x9,x10,x11])/\zL HK H'/\∃ ys,H' fd=some (.lst ys)/\Paired (Z6 H') ((List.range i).map (ZG T γ L wish.length)) ys) ⟨⟨_,_,_,_,_,rfl⟩,S5,[],hfd5,.nil⟩ (fun i σ H' _ h=>SqT.of (h.2.1 _ _ (S3 _ _ hlt))) ?_ ?_
 ·rintro i x σ H6 hx ⟨⟨x7,x8,x9,x10,x11,rfl⟩,s6,ys,hf,hY⟩
  have hi:i < us.length:=(AE.mp hx).1
  have hl':L[i]? = some L[i]:=AD (by omega)
  generalize L[i]=l at hl'
  have hix:=Paired.at hLn i _ _ hl' hx
  have gl:=hG i l hl'
  have yl:=AQ hY
  rw[AB,Aj] at yl
  have fin:∀ (H':Hp) (t:Addr),Tk H6 H'->H' fd=some (.lst ys)->H' t=some (.tup ((ZG T γ L wish.length i).map nV))->Paired (Z6 (upd H' fd (.lst (ys++[.ref t])))) ((List.range (i+1)).map (ZG T γ L wish.length)) (ys++[.ref t]):=fun H' t k hf' ht=>by
   rw[BV,AM]
   exact Paired.snoc9 ⟨t,rfl,Tk.put hf' _ _ ht⟩ (ColVs.tk (Tk.put hf') (ColVs.tk k hY))
  cases l with
  | inl y=>
   obtain rfl:x=.str y:=hix
   obtain⟨p,hp,rfl⟩:=AW.mp (show y ∈ cps.map Prod.fst from gl)
   obtain⟨u,hv,hu⟩:=hkn p hp
   refine⟨_,rfl,_,_,_,true,rfl,.str _,ju "str",_,rfl,J8 ?_⟩
   refine⟨_,rfl,_,rfl,kd,kvs,Sum.inr p.1,rfl,rfl,s6 _ _ hkd3,_,rfl,Yw (by rw[hv];rfl) ?_⟩
   refine⟨_,rfl,.inl ⟨rfl,_,SqL.of hf⟩,_,rfl,_,rfl,kd,kvs,Sum.inr p.1,_,rfl,s6 _ _ hkd3,rfl,hv,?_⟩
   refine⟨fd,_,_,rfl,rfl,hf,zo (by omega),⟨⟨_,_,_,_,_,rfl⟩,s6.put nfd,_,zd,fin H6 u Tk.refl hf ?_⟩⟩
   rw[Zy γ wish.length hl',<- hγ p hp]
   exact s6 _ _ (S3 _ _ hu)
  | inr z=>
   obtain⟨t,rfl,ht⟩:=hix
   obtain⟨hz,cn,hcn,e1,e2⟩:=gl
   obtain⟨b,u,hv,hb,hu⟩:=hnn cn hcn
   obtain⟨q1,q2,q3⟩:=gT.cn cn hcn
   have ht6:=s6 _ _ ht
   rw[e1] at hv
   refine⟨_,rfl,_,_,_,false,rfl,.tup ht6,Y5 (K:=K) (.tup []),_,rfl,JF (JF ?_)⟩
   refine⟨_,rfl,_,_,_,true,rfl,.tup ht6,ju "tuple",_,rfl,J8 ?_⟩
   refine⟨_,rfl,zt (by show 0<=1000;decide),fun e9 he9=>?_⟩
   have n7:=ze he9 (.tup [])
   refine⟨t,e9,_,rfl,rfl,n7 _ _ ht6,zd,_,rfl,J8 ?_⟩
   have s7:=s6.trans n7
   have hf7:=n7 _ _ hf
   have ht7:=n7 _ _ ht6
   have k7:Tk H6 (upd H6 e9 (.tup [])):=Tk.of n7
   generalize upd H6 e9 (.tup [])=H7 at *
   refine⟨_,rfl,.inr (.inl ⟨t,_,_,_,rfl,rfl,SqT.of ht7,at0,_,_,_,true,rfl,.str _,ju "str",_,rfl,J8 ?_⟩)⟩
   refine⟨_,rfl,.inr (.inl ⟨t,_,_,_,rfl,rfl,SqT.of ht7,at0,_,rfl,nd,nvs,Sum.inr z.1,rfl,rfl,s7 _ _ hnd3,_,rfl,Yw (by rw[hv];rfl) ?_⟩)⟩
   refine⟨_,rfl,_,rfl,.inr (.inl ⟨t,_,_,_,rfl,rfl,SqT.of ht7,at0,nd,nvs,Sum.inr z.1,_,rfl,s7 _ _ hnd3,rfl,hv,?_⟩)⟩
   refine⟨b,_,rfl,SqT.of (s7 _ _ hb),rfl,_,_,rfl,_,_,rfl,rfl,?_⟩
   refine⟨_,rfl,_,rfl,wT ht7 fun t4 H8 s8 ht4=>?_⟩
   rw[Z4 (by simp)] at ht4
   refine⟨t4,_,rfl,.inr (SqT.of ht4),fun nl hnl=>?_⟩
   have n9:=s8.trans (ze hnl (.lst (z.2.map nV)))
   have hnl9:(upd H8 nl (.lst (z.2.map nV))) nl=some (.lst (z.2.map nV)):=zd
   have s9:=s7.trans n9
   have hf9:=n9 _ _ hf7
   have k9:=k7.trans (Tk.of n9)
   show tSeq _ _ _ _ (upd H8 nl (.lst (z.2.map nV)))
   generalize upd H8 nl (.lst (z.2.map nV))=H9 at *
   refine⟨_,rfl,_,_,rfl,.inl ⟨_,SqL.of hnl9,rfl⟩,_,rfl,rfl,_,rfl,iteNS (by rw[AB,<- e2]) ?_⟩
   refine⟨_,rfl,nl,rfl,⟨_,SqL.of hnl9⟩,fun D2 hD2=>?_⟩
   refine Zp (xs:=z.2.map nV) (fun m ws H'=>zL H9 H'/\ws=(List.replicate m true).map V.bl) ⟨ze hD2 _,rfl⟩ (fun m ws H' h _=>SqL.of (h.1 _ _ hnl9)) ?_ ?_
   ·rintro m ws HA x hxA ⟨sA,rfl⟩ hDA
    have hm:m < (z.2.map nV).length:=(AE.mp hxA).1
    rw[AR] at hxA
    obtain⟨nn,hnn',rfl⟩:=At.mp hxA
    have hni:=hz nn (AN hnn')
    refine yes ⟨_,rfl,_,rfl,_,_,rfl,.inl ⟨_,SqL.of (sA _ _ hf9),rfl⟩,nn,ys.length,rfl,by omega,?_⟩
    rw[AB] at hm
    refine ZP (by rw[AB];exact hm) jg hDA (by rw[AB,C5];exact zo (by omega)) ⟨sA.put hD2,?_⟩
    rw[Dv,AM]
    rfl
   rintro ws HA ⟨sA,rfl⟩ hDA
   refine⟨D2,_,rfl,SqL.of hDA,_,rfl,Wn (by simp) ?_⟩
   have sA9:=s9.trans sA
   have hfA:=sA _ _ hf9
   have kA:=k9.trans (Tk.of sA)
   have hnlA:=sA _ _ hnl9
   refine⟨_,rfl,_,_,rfl,.inr ⟨_,SqT.of (sA9 _ _ (S3 _ _ hwt)),rfl⟩,_,rfl,by rw[AB];omega,by rw[AB];omega,fun D3 hD3=>?_⟩
   rw[AB,A2]
   have row:∀ (H':Hp),zL HA H'->∀ n ∈ z.2,∃ tn,ys[n]? = some (.ref tn)/\H' tn=some (.tup ((ZG T γ L wish.length n).map nV)):=fun H' sH n hn=>by
    have hni:=hz n hn
    have hy:ys[n]? = some ys[n]:=AD (by omega)
    have hc:((List.range i).map (ZG T γ L wish.length))[n]? = some (ZG T γ L wish.length n):=by rw[AR,Bz hni];rfl
    obtain⟨tn,e5,e6⟩:=Paired.at hY n _ _ hc hy
    exact⟨tn,by rw[hy,e5],sH _ _ (kA _ _ e6)⟩
   refine qc (fun k rs H'=>zL HA H'/\Paired (fun r v=>∃ a,a ≠ D3/\v=.ref a/\H' a=some (.lst (r.map nV))) ((List.range k).map fun k=>z.2.map fun n=>Tn.at' (ZG T γ L wish.length n) k) rs) ⟨ze hD3 _,.nil⟩ ?_ ?_
   ·rintro k rs HB hk ⟨sB,hR⟩ hDB
    refine yes ⟨_,rfl,nl,rfl,⟨_,SqL.of (sB _ _ hnlA)⟩,fun D4 hD4=>?_⟩
    refine Zp (xs:=z.2.map nV) (fun m ws H'=>zL HB H'/\ws=((z.2.take m).map fun n=>Tn.at' (ZG T γ L wish.length n) k).map nV) ⟨ze hD4 _,rfl⟩ (fun m ws H' h _=>SqL.of (h.1 _ _ (sB _ _ hnlA))) ?_ ?_
    ·rintro m ws HC x hxC ⟨sC,rfl⟩ hDC
     have hm:m < (z.2.map nV).length:=(AE.mp hxC).1
     rw[AR] at hxC
     obtain⟨nn,hnn',rfl⟩:=At.mp hxC
     obtain⟨tn,e5,e6⟩:=row HC (sB.trans sC) nn (AN hnn')
     have hat:atI ((ZG T γ L wish.length nn).map nV) (0+(k:Int))=some (nV (Tn.at' (ZG T γ L wish.length nn) k)):=by
      rw[EY]
      exact Z9 (by rw[yJ];exact hk)
     refine yes ⟨_,rfl,_,rfl,.inl ⟨fd,_,_,_,rfl,rfl,SqL.of ((sB.trans sC) _ _ hfA),qu e5,_,rfl,.inr (.inl ⟨tn,_,_,_,rfl,rfl,SqT.of e6,hat,?_⟩)⟩⟩
     rw[AB] at hm
     refine ZP (by rw[AB];exact hm) jg hDC (by rw[AB,AB,Ae];exact zo (by omega)) ⟨sC.put hD4,?_⟩
     rw[take_snoc hnn',AM,AM]
     rfl
    rintro ws HC ⟨sC,rfl⟩ hDC
    rw[AB,Ad] at hDC
    have d43:D4 ≠ D3:=fun z=>by rw[z,hDB] at hD4;cases hD4
    have hDC3:=sC _ _ hDB
    have rl:=AQ hR
    rw[AB,Aj] at rl
    refine ZP hk jg hDC3 (zo (by omega)) ⟨(sB.trans sC).put hD3,?_⟩
    rw[BV,AM]
    exact Paired.snoc9 ⟨D4,d43,rfl,by rw[zx d43];exact hDC⟩ (yQ (Xs sC hR))
   rintro rs HB ⟨sB,hR⟩ hDB
   have rl:=AQ hR
   rw[AB,Aj] at rl
   have sB9:=sA9.trans sB
   have hfB:=sB _ _ hfA
   have kB:=kA.trans (Tk.of sB)
   refine⟨_,rfl,.inl ⟨rfl,_,SqL.of hfB⟩,_,rfl,D3,rfl,⟨_,SqL.of hDB⟩,fun D5 hD5=>?_⟩
   have hrw:∀ k,k < wish.length->Tn.Rw T.m cn.pl (z.2.map fun n=>Tn.at' (ZG T γ L wish.length n) k):=fun k hk=>⟨by rw[AB];exact e2.symm,fun x hx=>by
    obtain⟨nn,hn',rfl⟩:=AW.mp hx
    have hni:=hz nn hn'
    rw[Q0 T γ L nn hk]
    exact yF gT nT hG (bd k hk) (nn+1) nn (Nat.lt_succ_self _) (by omega)⟩
   refine Zp (xs:=rs) (fun k ws H'=>zL HB H'/\ws=((List.range k).map fun k=>cellOf T z.1 (z.2.map fun n=>Tn.at' (ZG T γ L wish.length n) k)).map nV) ⟨ze hD5 _,rfl⟩ (fun k ws H' h _=>SqL.of (h.1 _ _ hDB)) ?_ ?_
   ·rintro k ws HC x hxC ⟨sC,rfl⟩ hDC
    have hk:k < rs.length:=(AE.mp hxC).1
    have hc:((List.range wish.length).map fun k=>z.2.map fun n=>Tn.at' (ZG T γ L wish.length n) k)[k]? = some (z.2.map fun n=>Tn.at' (ZG T γ L wish.length n) k):=by rw[AR,Bz (by omega)];rfl
    obtain⟨ar,_,rfl,har⟩:=Paired.at hR k _ _ hc hxC
    refine yes ⟨_,rfl,.inr (.inl ⟨a,_,0,_,rfl,rfl,SqT.of ((sB9.trans sC) _ _ (S3 _ _ h1)),rfl,_,rfl,_,rfl,T.m,cn.pl,u,ar,cn.cs,_,rfl,gm9,q2,(sB9.trans sC) _ _ hu,.inl (sC _ _ har),hrw k (by omega),q3.1,?_⟩)⟩
    refine ZP hk jg hDC (by rw[AB,AB,Aj];exact zo (by omega)) ⟨sC.put hD5,?_⟩
    rw[BV,AM,AM]
    congr 1
    show [nV _]=[nV (cellOf T z.1 _)]
    unfold cellOf
    rw[<- e1,Qs nT hcn]
   rintro ws HC ⟨sC,rfl⟩ hDC
   refine⟨D5,_,rfl,.inl ⟨SqL.of hDC,fun tt htt=>?_⟩⟩
   have nT':=ze htt (.tup (((List.range rs.length).map fun k=>cellOf T z.1 (z.2.map fun n=>Tn.at' (ZG T γ L wish.length n) k)).map nV))
   have sE:=sB9.trans (sC.trans nT')
   refine⟨fd,_,_,rfl,rfl,(sC.trans nT') _ _ hfB,zo (by omega),⟨⟨_,_,_,_,_,rfl⟩,sE.put nfd,_,zd,fin _ tt (kB.trans (Tk.of (sC.trans nT'))) ((sC.trans nT') _ _ hfB) ?_⟩⟩
   rw[zd,<- rl,Qt γ hG wish.length hl']
   congr 3
   refine Ao fun k hk=>?_
   congr 1
   refine Ao fun n hn=>?_
   exact Q0 T γ L n (Aw.mp hk)
 ·rintro σ H6 ⟨⟨x7,x8,x9,x10,x11,rfl⟩,s6,ys,hf,hY⟩
  have hLl:L.length=(L.length - 1)+1:=by omega
  rw[<- hul,hLl,BV,AM] at hY
  obtain⟨ys1,yv,rfl,hyv⟩:∃ ys1 yv,ys=ys1++[yv]/\Z6 H6 (ZG T γ L wish.length (L.length - 1)) yv:=by
   have yl:=AQ hY
   rw[AI,AB,Aj] at yl
   rcases Dq ys with rfl | ⟨ys1,yv,e⟩
   ·simp at yl
   ·rw[Dr] at e
    subst e
    rw[AI] at yl
    have hl1:(List.range (L.length - 1)).length=ys1.length:=by
     rw[Aj]
     simp at yl
     omega
    refine⟨ys1,yv,rfl,Paired.at hY ys1.length _ _ ?_ (by simp)⟩
    rw[A3 (by rw[AB];omega),AB,hl1,Ck]
    rfl
  obtain⟨ty,rfl,hty⟩:=hyv
  rw[htd γ hγ] at hty
  have hw6:=s6 _ _ (S3 _ _ hwt)
  refine⟨_,rfl,1,rfl,.inl ⟨fd,_,-1,_,rfl,rfl,SqL.of hf,atI_last _ _,_,rfl,ty,wt,_,_,rfl,rfl,SqT.of hty,SqT.of hw6,Zw _,Zw _,rfl,?_⟩⟩
  rw[Xd,Ak rfl]
  exact q H6 (S3.trans s6)
abbrev Zf:Stmt:=top 45
theorem zR:zI ["_law_well_here", "_law_table_here", "_law_size", "_law_columns_here", "_law_said_here", "_law_wish_here", "_law_turn", "_law_found", "_law_caught"] ["_law_well_here"] (zj Zf):=⟨rfl,rfl,rfl,by ac_rfl,rfl,by ac_rfl,by ac_rfl⟩
theorem Wl (F:Fun K "_law_right" "_law_right" Zf f fd) (gb:Gb mg) {c:Nat->Addr} (cl:Cl K mg c) (d_law_table:Def P w K mg base 3 "_law_table" ["_law_well_here", "_law_most", "_law_some"] WU) (d_law_draw:Def P w K mg base 1 "_law_draw" ["_law_well_here", "_law_many"] Zt) (d_law_columns:Def P w K mg base 2 "_law_columns" ["_law_well_here", "_law_many", "_law_size", "_law_letters"] JX) (d_law_said:Def P w K mg base 2 "_law_said" ["_law_table_here", "_law_columns_here", "_law_size"] Xq) (d_law_wish:Def P w K mg base 2 "_law_wish" ["_law_well_here", "_law_table_here", "_law_columns_here", "_law_said_here", "_law_size"] JZ) (d_law_told:Def P w K mg base 6 "_law_told" ["_law_table_here", "_law_columns_here", "_law_wish_here"] (JY (c 6))) (d_law_only:Def P w K mg base 1 "_law_only" ["_law_e", "_law_at"] (W5 (c 6))) (d_law_lines_right:Def P w K mg base 2 "_law_lines_right" ["_law_table_here", "_law_columns_here", "_law_lines", "_law_wish_here"] spLR):jO P w K mg base CX0 7 f fd ["_law_well_here"] Q3:=by
 refine F.ok zR (fun vs H Q E h=>?_) (fun cdv A outer s H vs Q E hr h=>?_)
 ·obtain⟨p,rfl,_⟩:=h
  rfl
 obtain⟨p,rfl,w,q⟩:=h
 have nd0:(["_law_one"]:List Str).Nodup:=by ac_rfl
 refine⟨_,(@zg _ _ _ _ _ (@zy _ _ 1 _ _ _ _ zR.nd rfl (Or.inl rfl) (@zG _ _ _ _ _ _ _ _ _ _ _ d_law_table hr (by omega) rfl (@za _ _ _ _ _ (@pw _ 0 _ _ rfl rfl) (@za _ _ _ _ _ (@zO _ _ _ _ _ _ _ (@zr _ K rfl) (@qm _ _ _ _ (@za _ _ _ _ _ (@zh _ _ _ _) (@za _ _ _ _ _ (@zh _ _ _ _) (@za _ _ _ _ _ (@zh _ _ _ _) (@za _ _ _ _ _ (@zh _ _ _ _) (@za _ _ _ _ _ (@zh _ _ _ _) (@za _ _ _ _ _ (@zh _ _ _ _) (@za _ _ _ _ _ (@zh _ _ _ _) (@za _ _ _ _ _ (@zh _ _ _ _) (@zf _) rfl) rfl) rfl) rfl) rfl) rfl) rfl) rfl)) (@zG _ _ _ _ _ _ _ _ _ _ _ d_law_draw hr (by omega) rfl (@za _ _ _ _ _ (@pw _ 0 _ _ rfl rfl) (@za _ _ _ _ _ (@zh _ _ _ _) (@zf _) rfl) rfl) (by decide) rfl rfl) (fun _ _=>rfl)) (@za _ _ _ _ _ (@zh _ _ _ _) (@zf _) rfl) rfl) rfl) (by decide) rfl rfl) rfl (by walk_at "f")) (@zg _ _ _ _ _ (@zy _ _ 2 _ _ _ _ zR.nd rfl (Or.inl rfl) (@zK _ _ _ _ _ _ _ _ (@qw _) (@zh _ _ _ _) (@zG _ _ _ _ _ _ _ _ _ _ _ d_law_draw hr (by omega) rfl (@za _ _ _ _ _ (@pw _ 0 _ _ rfl rfl) (@za _ _ _ _ _ (@zO _ _ _ _ _ _ _ (@zr _ K rfl) (@qm _ _ _ _ (@za _ _ _ _ _ (@zh _ _ _ _) (@za _ _ _ _ _ (@zh _ _ _ _) (@za _ _ _ _ _ (@zh _ _ _ _) (@za _ _ _ _ _ (@zh _ _ _ _) (@za _ _ _ _ _ (@zh _ _ _ _) (@za _ _ _ _ _ (@zh _ _ _ _) (@za _ _ _ _ _ (@zh _ _ _ _) (@za _ _ _ _ _ (@zh _ _ _ _) (@za _ _ _ _ _ (@zh _ _ _ _) (@za _ _ _ _ _ (@zh _ _ _ _) (@zf _) rfl) rfl) rfl) rfl) rfl) rfl) rfl) rfl) rfl) rfl)) (@zO _ _ _ _ _ _ _ (@zr _ K rfl) (@pw _ 1 _ _ rfl rfl) (@zh _ _ _ _) (fun _ _=>rfl)) (fun _ _=>rfl)) (@zf _) rfl) rfl) (by decide) rfl rfl)) rfl (by walk_at "f")) (@zg _ _ _ _ _ (@qO _ _ _ _ _ _ _ _ (@zA _ _ _ _ _ _ _ _ (@Zh _) (@zG _ _ _ _ _ _ _ _ _ _ _ d_law_draw hr (by omega) rfl (@za _ _ _ _ _ (@pw _ 0 _ _ rfl rfl) (@za _ _ _ _ _ (@zh _ _ _ _) (@zf _) rfl) rfl) (by decide) rfl rfl) (@zh _ _ _ _) (@zM _ _ (by decide) (by decide))) (@zg _ _ _ _ _ (@zy _ _ 2 _ _ _ _ zR.nd rfl (Or.inl rfl) (@zK _ _ _ _ _ _ _ _ (@qw _) (@zh _ _ _ _) (@zG _ _ _ _ _ _ _ _ _ _ _ d_law_draw hr (by omega) rfl (@za _ _ _ _ _ (@pw _ 0 _ _ rfl rfl) (@za _ _ _ _ _ (@zh _ _ _ _) (@zf _) rfl) rfl) (by decide) rfl rfl)) rfl (by walk_at "f")) (@zm _ _ _ (@zy _ _ 1 _ _ _ _ zR.nd rfl (Or.inl rfl) (@qx _ _ _ _ _ (@za _ _ _ _ _ (@zO _ _ _ _ _ _ _ (@zr _ K rfl) (@pw _ 1 _ _ rfl rfl) (@zh _ _ _ _) (fun _ _=>rfl)) (@za _ _ _ _ _ (@zO _ _ _ _ _ _ _ (@zr _ K rfl) (@pw _ 1 _ _ rfl rfl) (@zh _ _ _ _) (fun _ _=>rfl)) (@za _ _ _ _ _ (@zC _ _ _ _ _ _ _ _ _ (@zw _ K rfl) rfl gb.tuple zW (@za _ _ _ _ _ (@zY _ ["_law_one"] [none] _ _ _ _ _ _ _ _ _ _ (by exact (show zN ["_law_well_here", "_law_table_here", "_law_size", "_law_columns_here", "_law_said_here", "_law_wish_here", "_law_turn", "_law_found", "_law_caught"] (zj Zf) ["_law_one"] [none] _ from⟨rfl,by ac_rfl,by ac_rfl,by ac_rfl,by ac_rfl,rfl,by ac_rfl⟩)) rfl (@qS _ K _ _ _ (@zO _ _ _ _ _ _ _ (@zr _ K rfl) (@pw _ 1 _ _ rfl rfl) (@zh _ _ _ _) (fun _ _=>rfl)) rfl) (fun _ _ _ _=>(@pgl _ 0 _ _ nd0 rfl rfl)) (fun _ _ _ _=>(@yn _ _ _ (@zA _ _ _ _ _ _ _ _ (@yU _) (@zO _ _ _ _ _ _ _ (@zr _ K rfl) (@pw _ 0 _ _ rfl rfl) (@zh _ _ _ _) (fun _ _=>rfl)) (@zh _ _ _ _) (@zM _ _ (by decide) (by decide))))) (fun _ _ _ _=>(@pw _ 0 _ _ rfl rfl)) (by intro _;rfl)) (@zf _) rfl) (by decide) (by decide) rfl rfl) (@zf _) rfl) rfl) rfl)) rfl (by walk_at "f")))) (@zX _)) (@zg _ _ _ _ _ (@zy _ _ 3 _ _ _ _ zR.nd rfl (Or.inl rfl) (@zG _ _ _ _ _ _ _ _ _ _ _ d_law_columns hr (by omega) rfl (@za _ _ _ _ _ (@pw _ 0 _ _ rfl rfl) (@za _ _ _ _ _ (@zO _ _ _ _ _ _ _ (@zr _ K rfl) (@pw _ 1 _ _ rfl rfl) (@zh _ _ _ _) (fun _ _=>rfl)) (@za _ _ _ _ _ (@pw _ 2 _ _ rfl rfl) (@za _ _ _ _ _ (@qA _ _ _ _ _ _ _ _ _ _ (@Zq _ K rfl) (@qm _ _ _ _ (@za _ _ _ _ _ (@qF _ _ _ _) (@za _ _ _ _ _ (@qF _ _ _ _) (@za _ _ _ _ _ (@qF _ _ _ _) (@zf _) rfl) rfl) rfl)) (@jo _) (@qR _ _ _ (@zG _ _ _ _ _ _ _ _ _ _ _ d_law_draw hr (by omega) rfl (@za _ _ _ _ _ (@pw _ 0 _ _ rfl rfl) (@za _ _ _ _ _ (@zh _ _ _ _) (@zf _) rfl) rfl) (by decide) rfl rfl))) (@zf _) rfl) rfl) rfl) rfl) (by decide) rfl rfl) rfl (by walk_at "f")) (@zg _ _ _ _ _ (@qO _ _ _ _ _ _ _ _ (@PW.pt _ _ _ (@Qz _ _ _ _ _ _ _ (@zA _ _ _ _ _ _ _ _ (@op_gt _) (@zq _ _ _ _ _ _ _ _ _ (@zS _ K rfl) rfl gb.len qH (@za _ _ _ _ _ (@pw _ 3 _ _ rfl rfl) (@zf _) rfl) (by decide) (by decide) rfl rfl) (@zh _ _ _ _) (@zM _ _ (by decide) (by decide))) (@Qx _ _ _ _ (@zA _ _ _ _ _ _ _ _ (@Zh _) (@zG _ _ _ _ _ _ _ _ _ _ _ d_law_draw hr (by omega) rfl (@za _ _ _ _ _ (@pw _ 0 _ _ rfl rfl) (@za _ _ _ _ _ (@zh _ _ _ _) (@zf _) rfl) rfl) (by decide) rfl rfl) (@zh _ _ _ _) (@zM _ _ (by decide) (by decide)))))) (@zm _ _ _ (@zy _ _ 3 _ _ _ _ zR.nd rfl (Or.inl rfl) (@zK _ _ _ _ _ _ _ _ (@Y3 _ K rfl) (@qx _ _ _ _ _ (@za _ _ _ _ _ (@zO _ _ _ _ _ _ _ (@zr _ K rfl) (@pw _ 3 _ _ rfl rfl) (@zh _ _ _ _) (fun _ _=>rfl)) (@za _ _ _ _ _ (@qx _ _ _ _ _ (@za _ _ _ _ _ (@zO _ _ _ _ _ _ _ (@zr _ K rfl) (@zO _ _ _ _ _ _ _ (@zr _ K rfl) (@pw _ 3 _ _ rfl rfl) (@zh _ _ _ _) (fun _ _=>rfl)) (@zh _ _ _ _) (fun _ _=>rfl)) (@za _ _ _ _ _ (@zO _ _ _ _ _ _ _ (@zr _ K rfl) (@zO _ _ _ _ _ _ _ (@zr _ K rfl) (@pw _ 3 _ _ rfl rfl) (@zh _ _ _ _) (fun _ _=>rfl)) (@zh _ _ _ _) (fun _ _=>rfl)) (@zf _) rfl) rfl)) (@zf _) rfl) rfl)) (@qA _ _ _ _ _ _ _ _ _ _ (@kslT _ K rfl) (@pw _ 3 _ _ rfl rfl) (@qR _ _ _ (@zh _ _ _ _)) (@jo _))) rfl (by walk_at "f"))) (@zX _)) (@zg _ _ _ _ _ (@zy _ _ 4 _ _ _ _ zR.nd rfl (Or.inl rfl) (@zG _ _ _ _ _ _ _ _ _ _ _ d_law_said hr (by omega) rfl (@za _ _ _ _ _ (@pw _ 1 _ _ rfl rfl) (@za _ _ _ _ _ (@pw _ 3 _ _ rfl rfl) (@za _ _ _ _ _ (@pw _ 2 _ _ rfl rfl) (@zf _) rfl) rfl) rfl) (by decide) rfl rfl) rfl (by walk_at "f")) (@zg _ _ _ _ _ (@zy _ _ 5 _ _ _ _ zR.nd rfl (Or.inl rfl) (@zG _ _ _ _ _ _ _ _ _ _ _ d_law_wish hr (by omega) rfl (@za _ _ _ _ _ (@pw _ 0 _ _ rfl rfl) (@za _ _ _ _ _ (@pw _ 1 _ _ rfl rfl) (@za _ _ _ _ _ (@pw _ 3 _ _ rfl rfl) (@za _ _ _ _ _ (@pw _ 4 _ _ rfl rfl) (@za _ _ _ _ _ (@pw _ 2 _ _ rfl rfl) (@zf _) rfl) rfl) rfl) rfl) rfl) (by decide) rfl rfl) rfl (by walk_at "f")) (@zg _ _ _ _ _ (@js _ _ _ _ _ _ _ _ BF rfl (@zV _ _ _ _ _ _ rfl gb.range (@za _ _ _ _ _ (@zh _ _ _ _) (@zf _) rfl) rfl) (@pgl _ 6 _ _ zR.nd rfl rfl) (@zg _ _ _ _ _ (@wf _ _ _ _ _ _ (@zG _ _ _ _ _ _ _ _ _ _ _ d_law_told hr (by omega) rfl (@za _ _ _ _ _ (@pw _ 1 _ _ rfl rfl) (@za _ _ _ _ _ (@pw _ 3 _ _ rfl rfl) (@za _ _ _ _ _ (@pw _ 5 _ _ rfl rfl) (@zf _) rfl) rfl) rfl) (by decide) rfl rfl) (@jp _ K _ _ _ _ 2 rfl (@zD _ _ _ _ _ (@pgl _ 7 _ _ zR.nd rfl rfl) (@zD _ _ _ _ _ (@pgl _ 8 _ _ zR.nd rfl rfl) (@jn _) rfl) rfl) rfl rfl rfl) rfl rfl rfl) (@zm _ _ _ (@qO _ _ _ _ _ _ _ _ (@zA _ _ _ _ _ _ _ _ (@op_gt _) (@zq _ _ _ _ _ _ _ _ _ (@zS _ K rfl) rfl gb.len qH (@za _ _ _ _ _ (@pw _ 4 _ _ rfl rfl) (@zf _) rfl) (by decide) (by decide) rfl rfl) (@zh _ _ _ _) (@zM _ _ (by decide) (by decide))) (@zm _ _ _ (@qO _ _ _ _ _ _ _ _ (@Qf _ _ _ _ (@Zg _ _ _ (@zG _ _ _ _ _ _ _ _ _ _ _ d_law_only hr (by omega) rfl (@za _ _ _ _ _ (@pw _ 8 _ _ rfl rfl) (@za _ _ _ _ _ (@zh _ _ _ _) (@zf _) rfl) rfl) (by decide) rfl rfl) (by intro _;rfl))) (@zm _ _ _ (@zJ _ _ _ _ (@Qv _ _ _ _))) (@zX _))) (@zm _ _ _ (@qO _ _ _ _ _ _ _ _ (@PW.pt _ _ _ (@wc _ _ _ _ _ _ _ (@zA _ _ _ _ _ _ _ _ (@op_notN _) (@pw _ 8 _ _ rfl rfl) (@YA _ _ _) (@zM _ _ (by decide) (by decide))) (@wc _ _ _ _ _ _ _ (@Qf _ _ _ _ (@Zg _ _ _ (@zq _ _ _ _ _ _ _ _ _ (@qM _ K rfl) rfl gb.isinstance zu (@za _ _ _ _ _ (@pw _ 7 _ _ rfl rfl) (@za _ _ _ _ _ (@jX _ _ (.ty "tuple") _ _ rfl gb.tuple zW rfl (by decide) (by decide)) (@zf _) rfl) rfl) (by decide) (by decide) rfl rfl) (by intro _;rfl))) (@Qy _ _ _ _ (@zA _ _ _ _ _ _ _ _ (@op_ne _) (@zq _ _ _ _ _ _ _ _ _ (@zS _ K rfl) rfl gb.len qH (@za _ _ _ _ _ (@pw _ 7 _ _ rfl rfl) (@zf _) rfl) (by decide) (by decide) rfl rfl) (@zh _ _ _ _) (@zM _ _ (by decide) (by decide))))))) (@zm _ _ _ (@zJ _ _ _ _ (@Qv _ _ _ _))) (@zm _ _ _ (@qO _ _ _ _ _ _ _ _ (@zA _ _ _ _ _ _ _ _ (Yn K hr) (@pw _ 5 _ _ rfl rfl) (@pw _ 4 _ _ rfl rfl) (by with_unfolding_all rfl)) (@zm _ _ _ (@qO _ _ _ _ _ _ _ _ (@zA _ _ _ _ _ _ _ _ (@op_neD _ 3 _ hr (by decide)) (@pw _ 7 _ _ rfl rfl) (@qx _ _ _ _ _ (@za _ _ _ _ _ (@qF _ _ _ _) (@za _ _ _ _ _ (@zC _ _ _ _ _ _ _ _ _ (@zw _ K rfl) rfl gb.tuple zW (@za _ _ _ _ _ (@zq _ _ _ _ _ _ _ _ _ (@QX _ K rfl) rfl gb.sorted QK (@za _ _ _ _ _ (@pw _ 4 _ _ rfl rfl) (@zf _) rfl) (by decide) (by decide) rfl rfl) (@zf _) rfl) (by decide) (by decide) rfl rfl) (@zf _) rfl) rfl)) (@zM _ _ (by decide) (by decide))) (@zm _ _ _ (@zJ _ _ _ _ (@Qv _ _ _ _))) (@zX _))) (@zm _ _ _ (@qO _ _ _ _ _ _ _ _ (@PW.pt _ _ _ (@wc _ _ _ _ _ _ _ (@zA _ _ _ _ _ _ _ _ (@op_ne _) (@zO _ _ _ _ _ _ _ (@zr _ K rfl) (@pw _ 7 _ _ rfl rfl) (@zh _ _ _ _) (fun _ _=>rfl)) (@qF _ _ _ _) (@zM _ _ (by decide) (by decide))) (@Qy _ _ _ _ (@Qf _ _ _ _ (@Zg _ _ _ (@zG _ _ _ _ _ _ _ _ _ _ _ d_law_lines_right hr (by omega) rfl (@za _ _ _ _ _ (@pw _ 1 _ _ rfl rfl) (@za _ _ _ _ _ (@pw _ 3 _ _ rfl rfl) (@za _ _ _ _ _ (@zO _ _ _ _ _ _ _ (@zr _ K rfl) (@pw _ 7 _ _ rfl rfl) (@zh _ _ _ _) (fun _ _=>rfl)) (@za _ _ _ _ _ (@pw _ 5 _ _ rfl rfl) (@zf _) rfl) rfl) rfl) rfl) (by decide) rfl rfl) (by intro _;rfl)))))) (@zm _ _ _ (@zJ _ _ _ _ (@Qv _ _ _ _))) (@zX _)))))))))) (by intro _;rfl)) (@zm _ _ _ (@zJ _ _ _ _ (@Qv _ _ _ _))))))))))),?_⟩
 refine hide (R:=?R1) (D:=?D1) (P:=fun R D=>∀ (HX:Hp) (v:V) (T:Tb) (len:Nat),Off p H HX->Wel HX p->wb HX v T->jR T->(jv T).Nodup->T.cs.length<=4->1<=len->len<=9->R D [some (.ref p),some v,some (nV len),none,none,none,none,none,none] HX) (fun rest1=>?main) ?r1
 case main=>
  refine⟨_,rfl,zt (by show 8<=1000;decide),fun g0 hg0=>⟨_,rfl,p,8,rfl,w.same (ze hg0 _),by decide,by decide,fun v0 H1 v01 o1 w1=>?_⟩⟩
  obtain⟨mo,hat,mo1,mo9⟩:=at8 v01
  have gp:g0 ≠ p:=Af (w.ne hg0)
  refine .inl ⟨g0,_,_,_,rfl,rfl,SqL.of (o1 g0 _ gp zd),hat,p,mo,3,rfl,w1,mo1,mo9,by decide,fun v T H2 o2 w2 gT tm c4 nT ia=>?_⟩
  have oH2:Off p H H2:=(Off.of (ze hg0 _)).trans (o1.trans o2)
  obtain⟨a,w0,c0,vs,rfl,h1,h2,h3,h4⟩:=id ia
  have m9:=gT.m9
  refine⟨_,rfl,zt (by show 10<=1000;decide),fun g1 hg1=>?_⟩
  have n2:=ze hg1 (.lst [V.int 1,V.int 9,V.int 5,V.int 3,V.int 2,V.int 1,V.int 1,V.int 1,V.int 1,V.int 1])
  obtain⟨n,hat2,nn1,nn9⟩:=at10 m9
  refine⟨_,rfl,.inr (.inl ⟨a,_,0,_,rfl,rfl,SqT.of (n2 _ _ h1),rfl,.inl ⟨g1,_,_,_,rfl,rfl,SqL.of zd,hat2,p,n,rfl,w2.same n2,by omega,by omega,fun v3 H4 v31 o4 w4=>⟨_,_,rfl,rfl,?_⟩⟩⟩)⟩
  obtain⟨len,elen,l1,l9⟩:∃ len:Nat,(1+(v3:Int))=((len:Nat):Int)/\1<=len/\len<=9:=⟨v3+1,by omega,by omega,by omega⟩
  dsimp only
  rw[elen]
  refine⟨_,rfl,p,4,rfl,w4,by decide,by decide,fun v5 H5 v51 o5 w5=>⟨rfl,_,rfl,Yu (fun _=>?tt) (fun _=>?ff)⟩⟩
  case ff=>
   have o25:Off p H2 H5:=(Off.of n2).trans (o4.trans o5)
   exact rest1 _ (.ref a) T len (oH2.trans o25) w5 (ia.tk (w2.tk o25)) gT nT c4 l1 l9
  ·refine⟨_,rfl,p,9,rfl,w5,by decide,by decide,fun v6 H6 v61 o6 w6=>⟨_,_,rfl,rfl,?_⟩⟩
   obtain⟨len6,elen6,l61,l69⟩:∃ len:Nat,(1+(v6:Int))=((len:Nat):Int)/\1<=len/\len<=9:=⟨v6+1,by omega,by omega,by omega⟩
   dsimp only
   rw[elen6]
   have o26:Off p H2 H6:=(Off.of n2).trans (o4.trans (o5.trans o6))
   have k26:=w2.tk o26
   refine⟨_,rfl,.inr (.inl ⟨a,_,0,_,rfl,rfl,SqT.of (k26 _ _ h1),rfl,_,rfl,.inr (.inl ⟨a,_,1,_,rfl,rfl,SqT.of (k26 _ _ h1),rfl,_,rfl,.inr (.inl ⟨a,_,2,_,rfl,rfl,SqT.of (k26 _ _ h1),rfl,c0,rfl,⟨_,SqT.of (k26 _ _ h3)⟩,fun D hD=>?_⟩)⟩)⟩)⟩
   have vl:=AQ h4
   refine Qm (xs:=vs) (fun i ys H'=>zL H6 H'/\Cns H' ((T.cs.take i).filter fun c=>decide (c.pl < 2)) ys) ⟨ze hD _,.nil⟩ (fun i ys H' h _=>SqT.of (h.1 _ _ (k26 _ _ h3))) ?_ ?_
   ·rintro i ys H7 x hx ⟨s7,hC⟩ hD7
    have hi:i < vs.length:=(AE.mp hx).1
    have hc:T.cs[i]? = some T.cs[i]:=AD (by omega)
    generalize T.cs[i]=cn at hc
    obtain⟨t,u,e1,e2,e3⟩:=h4.get hc
    rw[hx] at e1
    cases e1
    have ht7:=s7 _ _ (k26 _ _ e2)
    have yl:=hC.len
    have fl:=C6 (fun c:Cn=>decide (c.pl < 2)) (T.cs.take i)
    rw[Ae] at fl
    refine⟨_,rfl,.inr (.inl ⟨t,_,1,_,rfl,rfl,SqT.of ht7,rfl,_,_,rfl,rfl,_,rfl,?_⟩)⟩
    refine Yu (fun cc=>?_) (fun cc=>?_)
    ·have hp:cn.pl < 2:=by have:=BE cc;omega
     refine⟨_,rfl,ZP hi jg hD7 (zo (by omega)) ⟨s7.put hD,?_⟩⟩
     rw[take_snoc hc,DQ,show [cn].filter (fun c=>decide (c.pl < 2))=[cn] by simp[hp]]
     exact Cns.snoc (Cns.tk (Tk.put hD7) hC) (Tk.put hD7 _ _ ht7) (Tk.put hD7 _ _ (s7 _ _ (k26 _ _ e3)))
    ·have hp:¬ cn.pl < 2:=fun z=>cc (Ak (by omega))
     refine cno hi jg hD7 ⟨s7,?_⟩
     rw[take_snoc hc,DQ,show [cn].filter (fun c=>decide (c.pl < 2))=[] by simp[hp],Ap]
     exact hC
   rintro ys H7 ⟨s7,hC⟩ hD7
   rw[<- vl,Ad] at hC
   refine⟨D,_,rfl,.inl ⟨SqL.of hD7,fun tt htt=>⟨zt (by show 3<=1000;decide),fun t9 ht9=>?_⟩⟩⟩
   have m1:=ze htt (.tup ys)
   have m2:=ze ht9 (.tup [nV T.m,.ref w0,.ref tt])
   have s69:=s7.trans (m1.trans m2)
   exact rest1 _ (.ref t9) (fewT T) len6 (oH2.trans (o26.trans (Off.of s69))) (w6.same s69) ⟨t9,w0,tt,ys,rfl,zd,s69 _ _ (k26 _ _ h2),m2 _ _ zd,Cns.tk (Tk.of (m1.trans m2)) hC⟩ (Xt gT) (fewT_nd nT) (Aq (C6 _ _) c4) l61 l69
 case r1=>
  intro HX v T len oX wX ia gT nT c4 l1 l9
  obtain⟨a,w0,c0,vs,rfl,h1,h2,h3,h4⟩:=id ia
  refine hide (R:=?R2) (D:=?D2) (P:=fun R D=>∀ (HY:Hp) (ct:Addr) (cps:List (Str×List Nat)) (cvs:List V),Off p HX HY->Wel HY p->HY ct=some (.tup cvs)->PCs HY cps cvs->(cps.map Prod.fst).Nodup->cps.length<=3->(∀ q ∈ cps,Ltr q.1/\zQ T.m len q.2)->R D [some (.ref p),some (.ref a),some (nV len),some (.ref ct),none,none,none,none,none] HY) (fun rest2=>?m1) ?r2
  case m1=>
   refine⟨_,rfl,_,rfl,.inr (.inl ⟨a,_,0,_,rfl,rfl,SqT.of h1,rfl,_,rfl,zt (by show 3<=1000;decide),fun g hg=>⟨_,rfl,p,4,rfl,wX.same (ze hg _),by decide,by decide,fun v1 H1 v11 o1 w1=>⟨_,rfl,.inl ⟨g,_,rfl,SqL.of (o1 g _ (Af (wX.ne hg)) zd),fun la hla=>?_⟩⟩⟩⟩)⟩
   rw[Wa]
   have n2:=ze hla (.lst ((([(Str.ofString "p"),(Str.ofString "q"),(Str.ofString "z")]:List Str).map V.str).take v1))
   have lp:la ≠ p:=Af (w1.ne hla)
   obtain⟨ndL,ltL⟩:=pqz9 v1
   refine⟨p,T.m,len,la,([(Str.ofString "p"),(Str.ofString "q"),(Str.ofString "z")]:List Str).take v1,rfl,w1.same n2,gT.m1,gT.m9,l9,by rw[List.map_take];exact zd,lp,by rw[Ae];exact Eb _ _,fun ct cps cvs H3 o3 w3 hct hpc hf hg3=>?_⟩
   have oX3:Off p HX H3:=(Off.of (ze hg _)).trans (o1.trans ((Off.of n2).trans o3))
   have cl3:cps.length<=3:=by
    have:(cps.map Prod.fst).length<=3:=by rw[hf,Ae];exact Eb _ _
    rw[AB] at this
    exact this
   have ndc:(cps.map Prod.fst).Nodup:=by rw[hf];exact ndL
   have hgc:∀ q ∈ cps,Ltr q.1/\zQ T.m len q.2:=fun q hq=>⟨ltL q.1 (by rw[<- hf];exact AW.mpr ⟨q,hq,rfl⟩),hg3 q hq⟩
   have cvl:=AQ hpc
   refine⟨_,rfl,_,_,rfl,.inr ⟨_,SqT.of hct,rfl⟩,_,_,rfl,rfl,_,rfl,Yu (fun c1=>?t2) (fun c1=>JF ?f2)⟩
   case f2=>exact rest2 H3 ct cps cvs oX3 w3 hct hpc ndc cl3 hgc
   ·have hc2:1 < cvs.length:=by have:=BE c1;omega
    refine⟨_,rfl,p,4,rfl,w3,by decide,by decide,fun v4 H4 v41 o4 w4=>⟨rfl,_,rfl,Yu (fun _=>?_) (fun _=>?_)⟩⟩
    ·have k34:=w3.tk o4
     have hct4:=k34 _ _ hct
     have hpc4:=PCs.tk k34 hpc
     cases hpc4 with
     | nil=>exact absurd hc2 (by simp)
     | @cons p0 x0 cps1 cvs1 f0 hpc1=>
      cases hpc1 with
      | nil=>exact absurd hc2 (by simp)
      | @cons p1 x1 cps2 cvs2 f1 hpc2=>
       obtain⟨t0,u0,rfl,a0,b0⟩:=f0
       obtain⟨t1,u1,rfl,a1,b1⟩:=f1
       refine⟨_,rfl,.inr (.inl ⟨ct,_,0,_,rfl,rfl,SqT.of hct4,at0,_,rfl,.inr (.inl ⟨ct,_,1,_,rfl,rfl,SqT.of hct4,qu (j:=1) rfl,.inr (.inl ⟨t1,_,0,_,rfl,rfl,SqT.of a1,rfl,_,rfl,.inr (.inl ⟨ct,_,0,_,rfl,rfl,SqT.of hct4,at0,.inr (.inl ⟨t0,_,1,_,rfl,rfl,SqT.of a0,rfl,zt (by show 2<=1000;decide),fun b hb=>⟨zt (by show 2<=1000;decide),fun hh hhh=>?_⟩⟩)⟩)⟩)⟩)⟩)⟩
       have m1:=ze hb (.tup [.str p1.1,.ref u0])
       have m2:=ze hhh (.tup [.ref t0,.ref b])
       have s46:=m1.trans m2
       have hb6:=m2 _ _ (zd (H:=H4) (a:=b) (o:=.tup [.str p1.1,.ref u0]))
       refine⟨_,rfl,_,rfl,wT (s46 _ _ hct4) fun t4 H7 s7 ht4=>?_⟩
       have ecut:Zk (V.ref t0 :: V.ref t1 :: cvs2) (some 2) none=cvs2:=by
        unfold Zk
        rw[HT.sIx_none,show ((2:Int))=((2:Nat):Int) from rfl,HT.sIx_nat,Nat.min_eq_left (by simp)]
        exact BY (by simp)
       rw[ecut] at ht4
       refine catA9 (s7 _ _ zd) ht4 (by simp at cvl cl3 ⊢;omega) fun ct' H8 s8 hct'=>?_
       have s48:=s46.trans (s7.trans s8)
       refine rest2 H8 ct' (p0 :: (p1.1,p0.2) :: cps2) _ (oX3.trans (o4.trans (Off.of s48))) (w4.same s48) hct' ?_ ndc cl3 ?_
       ·exact .cons ⟨t0,u0,rfl,s48 _ _ a0,s48 _ _ b0⟩ (.cons ⟨b,u0,rfl,(s7.trans s8) _ _ hb6,s48 _ _ b0⟩ (PCs.tk (Tk.of s48) hpc2))
       ·intro q hq
        rcases Al.mp hq with rfl | hq
        ·exact hgc _ As
        rcases Al.mp hq with rfl | hq
        ·exact⟨(hgc _ (Ay _ As)).1,(hgc _ As).2⟩
        ·exact hgc q (Ay _ (Ay _ hq))
    ·exact rest2 H4 ct cps cvs (oX3.trans o4) w4 ((w3.tk o4) _ _ hct) (PCs.tk (w3.tk o4) hpc) ndc cl3 hgc
  case r2=>
   intro HY ct cps cvs oY wY hct hpc ndc cl3 hgc
   have iaY:=ia.tk (wX.tk oY)
   refine⟨_,rfl,_,rfl,_,rfl,.ref a,ct,T,cps,cvs,len,rfl,iaY,gT,nT,c4,hct,hpc,cl3,fun q hq=>(hgc q hq).2,l1,l9,fun sl xs all HS sS slH hsl hX nd sdA full a9=>?_⟩
   have wS:=wY.same sS
   have slp:sl ≠ p:=Af (wY.ne slH)
   have gB:∀ b ∈ cps.map Prod.snd,zQ T.m len b:=fun b hb=>by
    obtain⟨q,hq,rfl⟩:=AW.mp hb
    exact (hgc q hq).2
   have alg:∀ c ∈ all,zQ T.m len c:=fun c hc=>Xo gT nT gB (sdA c hc)
   refine⟨_,rfl,_,rfl,_,rfl,_,rfl,_,rfl,p,.ref a,T,ct,sl,xs,all,len,rfl,wS,iaY.same sS,gT,hsl,slp,hX,alg,a9,l9,fun wt wish HW oW wW hwt gw=>?_⟩
   have cj:=gw.1
   have kSW:=wS.tk oW
   have iaW:=(iaY.same sS).tk kSW
   have hctW:=kSW _ _ (sS _ _ hct)
   have hpcW:=PCs.tk kSW (PCs.tk (Tk.of sS) hpc)
   have hslW:=oW sl _ slp hsl
   have hXW:=ColVs.tk kSW hX
   have alen:∀ c ∈ all,c.length=wish.length:=fun c hc=>by rw[cj];exact (alg c hc).1
   have xl:=AQ hX
   rw[<- cj] at sdA full hgc
   refine⟨2,rfl,by decide,by decide,?_⟩
   refine wg (fun i σ H'=>(∃ x6 x7 x8,σ=[some (.ref p),some (.ref a),some (nV len),some (.ref ct),some (.ref sl),some (.ref wt),x6,x7,x8])/\zL HW H') ⟨⟨_,_,_,rfl⟩,(fun _ _ e=>e)⟩ ?_ ?_
   ·rintro i σ HA hi ⟨⟨x6,x7,x8,rfl⟩,sA⟩
    have hslA:=sA _ _ hslW
    have hXA:=ColVs.tk (Tk.of sA) hXW
    have hwtA:=sA _ _ hwt
    refine⟨_,rfl,_,rfl,_,rfl,.ref a,ct,wt,T,cps,cvs,wish,rfl,iaW.same sA,gT,nT,c4,sA _ _ hctW,PCs.tk (Tk.of sA) hpcW,hgc,hwtA,by omega,by omega,fun hs al0 hal0 l81 t9 t lt us L HD sD ht9 ht hlt hls hG n1 n2 htd=>?_,fun hs t9 t ut bs ks HD sD ht9 ht hut hP asc hks hk=>?_,fun cs t9 e HD sD a1 a2 a3 ht9 he=>?_⟩
    ·have a81:all.length<=81:=Aq (JU all al0 nd fun c hc=>(hal0 c).mpr (sdA c hc)) l81
     refine⟨t9,_,rfl,SqT.of ht9,rfl,_,_,rfl,_,_,rfl,rfl,?_⟩
     refine⟨_,rfl,_,_,rfl,.inl ⟨_,SqL.of (sD _ _ hslA),rfl⟩,_,_,rfl,rfl,_,rfl,Wz (AY (by omega)) ?_⟩
     refine⟨_,rfl,rfl,_,rfl,Wn (by simp) ?_⟩
     refine⟨_,rfl,_,_,_,true,rfl,.tup ht,ju "tuple",true,rfl,JF ?_⟩
     refine⟨_,rfl,_,_,rfl,.inr ⟨_,SqT.of ht,rfl⟩,rfl,_,rfl,iteNS rfl ?_⟩
     refine⟨_,rfl,_,rfl,wt,sl,_,xs,all.map (fun k=>k.map nV),rfl,rfl,SqT.of (sD _ _ hwtA),Zw _,SqL.of (sD _ _ hslA),by rw[AB];exact Wc (ColVs.tk (Tk.of sD) hXA) alen,_,rfl,?_⟩
     rw[yP,show decide (wish ∈ all)=true from Ak (full a81 wish hs)]
     refine Wn rfl ?_
     refine⟨_,rfl,.inr (.inl ⟨t,_,0,_,rfl,rfl,SqT.of ht,rfl,rfl,_,rfl,Wn (by simp) ?_⟩)⟩
     refine⟨_,rfl,_,rfl,_,rfl,.inr (.inl ⟨t,_,1,_,rfl,rfl,SqT.of ht,rfl,_,rfl,.ref a,ct,lt,wt,T,cps,cvs,us,L,wish,rfl,(iaW.same sA).same sD,gT,nT,c4,sD _ _ (sA _ _ hctW),PCs.tk (Tk.of (sA.trans sD)) hpcW,ndc,cl3,fun q hq=>(hgc q hq).2,hlt,hls,hG,n1,n2,htd,sD _ _ hwtA,by omega,by omega,fun HF sF=>⟨true,rfl,JF ?_⟩⟩)⟩
     exact⟨⟨_,_,_,rfl⟩,sA.trans (sD.trans sF)⟩
    ·have a81:all.length<=81:=Aq (JU all ks nd fun c hc=>(hks c).mpr (sdA c hc)) hk
     refine⟨t9,_,rfl,SqT.of ht9,rfl,_,_,rfl,_,_,rfl,rfl,?_⟩
     refine⟨_,rfl,_,_,rfl,.inl ⟨_,SqL.of (sD _ _ hslA),rfl⟩,_,_,rfl,rfl,_,rfl,Wz (AY (by omega)) ?_⟩
     refine⟨_,rfl,rfl,_,rfl,Wn (by simp) ?_⟩
     refine⟨_,rfl,_,_,_,true,rfl,.tup ht,ju "tuple",true,rfl,JF ?_⟩
     refine⟨_,rfl,_,_,rfl,.inr ⟨_,SqT.of ht,rfl⟩,rfl,_,rfl,iteNS rfl ?_⟩
     refine⟨_,rfl,_,rfl,wt,sl,_,xs,all.map (fun k=>k.map nV),rfl,rfl,SqT.of (sD _ _ hwtA),Zw _,SqL.of (sD _ _ hslA),by rw[AB];exact Wc (ColVs.tk (Tk.of sD) hXA) alen,_,rfl,?_⟩
     rw[yP,show decide (wish ∈ all)=false from AY (fun h=>hs (sdA wish h))]
     refine Yw rfl ?_
     refine⟨_,rfl,_,rfl,sl,xs,all,wish.length,rfl,SqL.of (sD _ _ hslA),ColVs.tk (Tk.of sD) hXA,alen,by omega,nd,a9,fun l bs3 ks3 hl hP3 per asc3=>?_⟩
     have n7:=ze hl (.lst bs3)
     refine⟨l,_,rfl,.inl ⟨SqL.of zd,fun tl htl=>?_⟩⟩
     have n8:=ze htl (.tup bs3)
     refine⟨zt (by show 2<=1000;decide),fun t8 ht8=>?_⟩
     have n9':=ze ht8 (.tup [.str "unsaid",.ref tl])
     have S9:=n7.trans (n8.trans n9')
     have ek:ks=ks3:=Yo asc asc3 fun x=>by
      rw[hks,per.mem_iff]
      exact⟨fun h=>full a81 x h,fun h=>sdA x h⟩
     refine⟨t,t8,_,_,rfl,rfl,S9 _ _ ht,zd,.cons (.inl ⟨rfl,rfl⟩) (.cons (.inr ⟨ut,tl,_,_,rfl,rfl,S9 _ _ hut,n9' _ _ zd,?_⟩) .nil),_,rfl,JF ?_⟩
     ·rw[ek] at hP
      exact Yp (ColVs.tk (Tk.of S9) hP) (ColVs.tk (Tk.of S9) hP3)
     exact⟨⟨_,_,_,rfl⟩,sA.trans (sD.trans S9)⟩
    ·have a82:82<=all.length:=by
      rcases DK all.length 82 with h | h
      ·have:=JU cs all a1 fun c hc=>full (by omega) c (a2 c hc)
       omega
      ·exact h
     refine⟨t9,_,rfl,SqT.of ht9,rfl,_,_,rfl,_,_,rfl,rfl,?_⟩
     refine⟨_,rfl,_,_,rfl,.inl ⟨_,SqL.of (sD _ _ hslA),rfl⟩,_,_,rfl,rfl,_,rfl,y8 (Ak (by omega)) ?_⟩
     refine⟨_,rfl,e,rfl,he,fun HF sF=>⟨_,rfl,JF ?_⟩⟩
     exact⟨⟨_,_,_,rfl⟩,sA.trans (sD.trans sF)⟩
   ·rintro σ HA ⟨⟨x6,x7,x8,rfl⟩,sA⟩
    exact q HA (oX.trans (oY.trans ((Off.of sS).trans (oW.trans (Off.of sA)))))
abbrev Jj:Stmt:=top 46
theorem sc_law:zI ["_law_script"] ["_law_script"] (zj Jj):=⟨rfl,rfl,rfl,by ac_rfl,rfl,by ac_rfl,by ac_rfl⟩
theorem ok_law (F:Fun K "law" "law" Jj f fd) (gb:Gb mg) {c:Nat->Addr} (cl:Cl K mg c) (d_law_right:Def P w K mg base 7 "_law_right" ["_law_well_here"] Q3) (d_law_well:Def P w K mg base 1 "_law_well" ["_law_script", "_law_place"] (Xa K)):jO P w K mg base CX0 8 f fd ["_law_script"] (spLaw K):=by
 refine F.ok sc_law (fun vs H Q E h=>?_) (fun cdv A outer s H vs Q E hr h=>?_)
 ·obtain⟨a,ns,rfl,_⟩:=h
  rfl
 obtain⟨a,ns,rfl,hS,hn,q⟩:=h
 have nd0:(["_law_k", "_law_script"]:List Str).Nodup:=by ac_rfl
 refine⟨_,(@zm _ _ _ (@zJ _ _ _ _ (@zq _ _ _ _ _ _ _ _ _ (@QI _ K rfl rfl) rfl gb.all YV (@za _ _ _ _ _ (@zY _ ["_law_k", "_law_script"] [none,some 0] _ _ _ _ _ _ _ _ _ _ (by exact (show zN ["_law_script"] (zj Jj) ["_law_k", "_law_script"] [none,some 0] _ from⟨rfl,by ac_rfl,by ac_rfl,by ac_rfl,by ac_rfl,rfl,by ac_rfl⟩)) rfl (@zV _ _ _ _ _ _ rfl gb.range (@za _ _ _ _ _ (@zq _ _ _ _ _ _ _ _ _ (@y3 _ K rfl) rfl gb.max bt_max (@za _ _ _ _ _ (@zh _ _ _ _) (@za _ _ _ _ _ (@zq _ _ _ _ _ _ _ _ _ (@y6 _ K rfl) rfl gb.min bt_min (@za _ _ _ _ _ (@zq _ _ _ _ _ _ _ _ _ (@zS _ K rfl) rfl gb.len qH (@za _ _ _ _ _ (@pw _ 0 _ _ rfl rfl) (@zf _) rfl) (by decide) (by decide) rfl rfl) (@za _ _ _ _ _ (@zh _ _ _ _) (@zf _) rfl) rfl) (by decide) (by decide) rfl rfl) (@zf _) rfl) rfl) (by decide) (by decide) rfl rfl) (@zf _) rfl) rfl) (fun _ _ _ _=>(@pgl _ 0 _ _ nd0 rfl rfl)) (fun _ _ _ _=>(@qh _)) (fun _ _ _ _=>(@zG _ _ _ _ _ _ _ _ _ _ _ d_law_right hr (by omega) rfl (@za _ _ _ _ _ (@zG _ _ _ _ _ _ _ _ _ _ _ d_law_well hr (by omega) rfl (@za _ _ _ _ _ (@pw _ 1 _ _ rfl rfl) (@za _ _ _ _ _ (@pw _ 0 _ _ rfl rfl) (@zf _) rfl) rfl) (by decide) rfl rfl) (@zf _) rfl) (by decide) rfl rfl)) (by intro _;rfl)) (@zf _) rfl) (by decide) (by decide) rfl rfl))),?_⟩
 obtain⟨n,en,n0,n6⟩:∃ n:Int,(if (if (2:Int) < ((ns.map V.int).length:Int) then 2 else ((ns.map V.int).length:Int)) > 1 then (if (2:Int) < ((ns.map V.int).length:Int) then 2 else ((ns.map V.int).length:Int)) else 1)=n/\0<=n/\n<=2:=⟨_,rfl,by split <;> omega,by split <;> (try split) <;> omega⟩
 refine⟨_,rfl,_,(ns.map V.int).length,rfl,.inl ⟨_,hS,rfl⟩,_,_,rfl,_,_,rfl,n,by (show [V.int _]=_;rw[en]),by omega,by omega,fun D hD=>?_⟩
 refine qc (fun i ys H'=>zL H H'/\ys=(List.replicate i true).map V.bl) ⟨ze hD _,rfl⟩ ?_ ?_
 ·rintro i ys H1 hi ⟨s1,rfl⟩ hD1
  refine yes ⟨_,rfl,_,rfl,a,ns,_,rfl,s1.seq hS,hn,fun p H2 np s2 w2=>⟨p,rfl,w2,fun H3 o3=>?_⟩⟩
  have s3:zL H1 H3:=fun b o e=>o3 b o (zE e np) (s2 b o e)
  have hD3:=s3 _ _ hD1
  refine ZP hi jg hD3 (by rw[AB,C5];exact zo (by omega)) ⟨(s1.trans s3).put hD,?_⟩
  rw[Dv,AM]
  rfl
 ·rintro ys H1 ⟨s1,rfl⟩ hD1
  refine⟨D,_,rfl,SqL.of hD1,?_⟩
  rw[show (List.replicate n.toNat true).all id=true by simp]
  exact q _
end
theorem ye {α:Type}:∀ {us:List α},us.length=1->∃ x0,us=[x0]
 | [x0],_=>⟨x0,rfl⟩
theorem yf {α:Type}:∀ {us:List α},us.length=2->∃ x0 x1,us=[x0,x1]
 | [x0,x1],_=>⟨x0,x1,rfl⟩
theorem Wm {α:Type}:∀ {us:List α},us.length=3->∃ x0 x1 x2,us=[x0,x1,x2]
 | [x0,x1,x2],_=>⟨x0,x1,x2,rfl⟩
theorem lenK4 {α:Type}:∀ {us:List α},us.length=4->∃ x0 x1 x2 x3,us=[x0,x1,x2,x3]
 | [x0,x1,x2,x3],_=>⟨x0,x1,x2,x3,rfl⟩
theorem lenK5 {α:Type}:∀ {us:List α},us.length=5->∃ x0 x1 x2 x3 x4,us=[x0,x1,x2,x3,x4]
 | [x0,x1,x2,x3,x4],_=>⟨x0,x1,x2,x3,x4,rfl⟩
def FD (K:Fs) (x:Str) (st:Stmt):Prop:=∃ (f:Addr) (fd:FuncData),PySem.W.nsIn K mainGlobals x=some (some (.ref f))/\PySem.W.keepIn K (.ref f)=true/\Fun K x x st f fd
theorem qZ {K:Fs} {x:Str} {st:Stmt} {f:Addr} {oc kV dc pm cd ct:Value} {od an:Option Addr} {sl:Array (Option Value)} (a:PySem.W.nsIn K mainGlobals x=some (some (.ref f))) (l:K.lookup f=some ⟨oc,od,.func (PySem.W.fnOf x x (jZ st) (jB st) (zj st) .none kV dc pm an cd ct),sl⟩) (c:PySem.W.codeIn K cd x=true) (k:PySem.W.keepIn K (.ref f)=true):FD K x st:=⟨f,_,a,k,fun_mk l c k⟩
theorem qp {P:Program} {w:World} {K:Fs} {mg:Str->Option Value} {h base:Heap} {x:Str} {st:Stmt} {k:Nat} {ps:List Str} {sp:Sp} (X:K.In h) (G:h.Ns mainGlobals mg) (d:FD K x st) (ok:∀ f fd,Fun K x x st f fd->jO P w K mg base CX0 k f fd ps sp) (hb:∀ (kV dc pm:Value) (an:Option Addr) (cd ct:Value) (us:List Value),us.length=ps.length->bindArgs (PySem.W.fnOf x x (jZ st) (jB st) (zj st) .none kV dc pm an cd ct) ⟨us,[]⟩=pure (ps.zip us)):Def P w K mg base k x ps sp:=by
 obtain⟨f,fd,a,k,F⟩:=d
 exact⟨f,fd,ok f fd F,BI X G a,k,F.binds hb⟩
theorem yg {P:Program} {w:World} {K:Fs} {mg:Str->Option Value} {h base:Heap} {x:Str} {st:Stmt} {k:Nat} {ps:List Str} {sp:Sp} (X:K.In h) (G:h.Ns mainGlobals mg) (d:FD K x st) (ok:∀ f fd,Fun K x x st f fd->jO P w K mg base (CX1 P w) k f fd ps sp) (hb:∀ (kV dc pm:Value) (an:Option Addr) (cd ct:Value) (us:List Value),us.length=ps.length->bindArgs (PySem.W.fnOf x x (jZ st) (jB st) (zj st) .none kV dc pm an cd ct) ⟨us,[]⟩=pure (ps.zip us)):Def1 P w K mg base k x ps sp:=by
 obtain⟨f,fd,a,k,F⟩:=d
 exact⟨f,fd,ok f fd F,BI X G a,k,F.binds hb⟩
theorem all_mk {l:PySem.W.OpenLaw} {w:World} {K:Fs} {h:Heap} {mg:Str->Option Value} {fa fL cc0 cc1 cc2 cc3 cc4 cc5 cc6 cc7 cc8 cc9 cc10:Addr} (X:K.In h) (G:h.Ns mainGlobals mg) (hfa:mg "law" = some (.ref fa)) {od an:Option Addr} {sl:Array (Option Value)} {oc kV dc pm cd ct:Value}
  (h0:FD K "has_small_letters_alone" zU)
  (h1:FD K "is_letter" ZN)
  (h2:FD K "needed_lines" jS)
  (h3:FD K "cells_by_name" qW)
  (h4:FD K "column_from" qB)
  (h5:FD K "line_column" jx)
  (h6:FD K "renumbered" jM)
  (h7:FD K "needed_alone" jd)
  (h8:FD K "keep" Xu)
  (h9:FD K "lines_without_parts" qf)
  (h10:FD K "lines_with" jh)
  (h11:FD K "all_sayable" Za)
  (h12:FD K "sayable" Q6)
  (h13:FD K "_law_well" Qb)
  (h14:FD K "_law_draw" Qc)
  (h15:FD K "_law_names" jG)
  (h16:FD K "_law_cells" q5)
  (h17:FD K "_law_table" Zc)
  (h18:FD K "_law_cell" Qd)
  (h19:FD K "_law_columns" jy)
  (h20:FD K "_law_given" ja)
  (h21:FD K "_law_said" jW)
  (h22:FD K "_law_only" Zz)
  (h23:FD K "_law_ahead" ZO)
  (h24:FD K "_law_told" Qe)
  (h25:FD K "_law_wish" ZA)
  (h26:FD K "_law_lines_right" zT)
  (h27:FD K "_law_right" Zf)
  (aL:PySem.W.nsIn K mainGlobals "law" = some (some (.ref fL))) (lL:K.lookup fL=some ⟨oc,od,.func (PySem.W.fnOf "law" "law" (jZ Jj) (jB Jj) (zj Jj) .none kV dc pm an cd ct),sl⟩) (cL:PySem.W.codeIn K cd "law" = true) (kL:PySem.W.keepIn K (.ref fL)=true)
  (z0:PySem.W.nsIn K mainGlobals "abs" = some none)
  (z1:PySem.W.nsIn K mainGlobals "range" = some none)
  (z2:PySem.W.nsIn K mainGlobals "tuple" = some none)
  (z3:PySem.W.nsIn K mainGlobals "list" = some none)
  (z4:PySem.W.nsIn K mainGlobals "isinstance" = some none)
  (z5:PySem.W.nsIn K mainGlobals "int" = some none)
  (z6:PySem.W.nsIn K mainGlobals "str" = some none)
  (z7:PySem.W.nsIn K mainGlobals "len" = some none)
  (z8:PySem.W.nsIn K mainGlobals "min" = some none)
  (z9:PySem.W.nsIn K mainGlobals "max" = some none)
  (z10:PySem.W.nsIn K mainGlobals "all" = some none)
  (z11:PySem.W.nsIn K mainGlobals "any" = some none)
  (z12:PySem.W.nsIn K mainGlobals "bool" = some none)
  (z13:PySem.W.nsIn K mainGlobals "divmod" = some none)
  (z14:PySem.W.nsIn K mainGlobals "dict" = some none)
  (z15:PySem.W.nsIn K mainGlobals "sorted" = some none)
  (z16:PySem.W.nsIn K mainGlobals "reversed" = some none)
  (z17:PySem.W.nsIn K mainGlobals "zip" = some none)
  (z18:PySem.W.nsIn K mainGlobals "ValueError" = some none)
  {yt0:Tok} (y0:PySem.W.nsIn K mainGlobals "MOST_COLUMNS" = some (some (.int 81 yt0)))
  (g0:PySem.W.nsIn K mainGlobals "GradeError" = some (some (.ref cc0)))
  (g1:PySem.W.nsIn K mainGlobals "NoFraction" = some (some (.ref cc1)))
  (g2:PySem.W.nsIn K mainGlobals "NoTable" = some (some (.ref cc2)))
  (g3:PySem.W.nsIn K mainGlobals "NoSaying" = some (some (.ref cc3)))
  (g4:PySem.W.nsIn K mainGlobals "NoName" = some (some (.ref cc4)))
  (g5:PySem.W.nsIn K mainGlobals "NoLetter" = some (some (.ref cc5)))
  (g6:PySem.W.nsIn K mainGlobals "TooMany" = some (some (.ref cc6)))
  (g7:PySem.W.nsIn K mainGlobals "NoKind" = some (some (.ref cc7)))
  (g8:PySem.W.nsIn K mainGlobals "NoCount" = some (some (.ref cc8)))
  (g9:PySem.W.nsIn K mainGlobals "NoRow" = some (some (.ref cc9)))
  (g10:PySem.W.nsIn K mainGlobals "NoKept" = some (some (.ref cc10)))
  (w0:PySem.W.excIn K cc6 [.type "ValueError",.type "Exception",.type "BaseException",.type "object"] "ValueError.__new__" = true)
  (w1:PySem.W.exmOne K (.ref cc6) (.ref cc0)=some true)
  (w2:qK K cc6=true)
  (w3:PySem.W.kitOne K (.ref cc6) (.type "ValueError")=some true)
  (w4:PySem.W.kitOne K (.ref cc6) (.ref cc0)=some true)
  (w5:PySem.W.kitOne K (.ref cc6) (.ref cc1)=some false)
  (w6:PySem.W.kitOne K (.ref cc6) (.ref cc2)=some false)
  (w7:PySem.W.kitOne K (.ref cc6) (.ref cc3)=some false)
  (w8:PySem.W.kitOne K (.ref cc6) (.ref cc4)=some false)
  (w9:PySem.W.kitOne K (.ref cc6) (.ref cc5)=some false)
  (w10:PySem.W.kitOne K (.ref cc6) (.ref cc6)=some true)
  (w11:PySem.W.kitOne K (.ref cc6) (.ref cc7)=some false)
  (w12:PySem.W.kitOne K (.ref cc6) (.ref cc8)=some false)
  (w13:PySem.W.kitOne K (.ref cc6) (.ref cc9)=some false)
  (w14:PySem.W.kitOne K (.ref cc6) (.ref cc10)=some false)
  : ∃ fd:FuncData,(∀ (s:Shared) (v:Value),BindsTo s fd ⟨[v],[]⟩ [("_law_script",v)])/\∀ base:Heap,K.In base->base.Ns mainGlobals mg->jO l.prog w K mg base CX0 8 fa fd ["_law_script"] (spLaw K):=by
 have e:=hfa.symm.trans (BI X G aL)
 cases e
 have gb:Gb mg:=⟨Ar X G z0,Ar X G z1,Ar X G z2,Ar X G z3,Ar X G z4,Ar X G z5,Ar X G z6,Ar X G z7,Ar X G z8,Ar X G z9,Ar X G z10,Ar X G z11,Ar X G z12,Ar X G z13,Ar X G z14,Ar X G z15,Ar X G z16,Ar X G z17,Ar X G z18,⟨_,BI X G y0,_,rfl⟩⟩
 obtain⟨c,cl⟩:∃ c:Nat->Addr,Cl K mg c:=⟨fun i=>[cc0,cc1,cc2,cc3,cc4,cc5,cc6,cc7,cc8,cc9,cc10].getD i 0,⟨BI X G g0,BI X G g1,BI X G g2,BI X G g3,BI X G g4,BI X G g5,BI X G g6,BI X G g7,BI X G g8,BI X G g9,BI X G g10,w0,w1,w2,w3,w4,w5,w6,w7,w8,w9,w10,w11,w12,w13,w14⟩⟩
 refine⟨PySem.W.fnOf "law" "law" (jZ Jj) (jB Jj) (zj Jj) .none kV dc pm an cd ct,fun s v=>.of_eq rfl,fun base _ _=>?_⟩
 have d_has_small_letters_alone:Def l.prog w K mg base 1 "has_small_letters_alone" ["text"] WV:=qp X G h0 (fun _ _ F=>jI F gb cl) fun _ _ _ _ _ _ us hl=>by obtain⟨z0_,rfl⟩:=ye hl;rfl
 have d_is_letter:Def l.prog w K mg base 2 "is_letter" ["thing"] yG:=qp X G h1 (fun _ _ F=>We F gb cl d_has_small_letters_alone) fun _ _ _ _ _ _ us hl=>by obtain⟨z0_,rfl⟩:=ye hl;rfl
 have d_needed_lines:Def l.prog w K mg base 3 "needed_lines" ["lines"] Xe:=qp X G h2 (fun _ _ F=>Q4 F gb cl d_is_letter) fun _ _ _ _ _ _ us hl=>by obtain⟨z0_,rfl⟩:=ye hl;rfl
 have d_cells_by_name:Def l.prog w K mg base 1 "cells_by_name" ["H"] spCbn:=qp X G h3 (fun _ _ F=>Qk F gb cl) fun _ _ _ _ _ _ us hl=>by obtain⟨z0_,rfl⟩:=ye hl;rfl
 have d_column_from:Def l.prog w K mg base 1 "column_from" ["cells", "many", "columns", "length"] Xf:=qp X G h4 (fun _ _ F=>Jf F gb cl) fun _ _ _ _ _ _ us hl=>by obtain⟨z0_,z1_,z2_,z3_,rfl⟩:=lenK4 hl;rfl
 have d_line_column:Def l.prog w K mg base 2 "line_column" ["T", "cells", "ahead", "line", "length"] WX:=qp X G h5 (fun _ _ F=>Jg F gb cl d_column_from) fun _ _ _ _ _ _ us hl=>by obtain⟨z0_,z1_,z2_,z3_,z4_,rfl⟩:=lenK5 hl;rfl
 have d_renumbered:Def l.prog w K mg base 3 "renumbered" ["line", "numbers"] WZ:=qp X G h6 (fun _ _ F=>J4 F gb cl d_is_letter) fun _ _ _ _ _ _ us hl=>by obtain⟨z0_,z1_,rfl⟩:=yf hl;rfl
 have d_needed_alone:Def l.prog w K mg base 4 "needed_alone" ["lines"] W0:=qp X G h7 (fun _ _ F=>Q5 F gb cl d_needed_lines d_renumbered) fun _ _ _ _ _ _ us hl=>by obtain⟨z0_,rfl⟩:=ye hl;rfl
 have d_keep:Def1 l.prog w K mg base 1 "keep" ["found", "column", "line"] (yL (c 6)):=yg X G h8 (fun _ _ F=>ok_keep F gb cl) fun _ _ _ _ _ _ us hl=>by obtain⟨z0_,z1_,z2_,rfl⟩:=Wm hl;rfl
 have d_lines_without_parts:Def l.prog w K mg base 1 "lines_without_parts" ["T"] JS:=qp X G h9 (fun _ _ F=>Zj F gb cl) fun _ _ _ _ _ _ us hl=>by obtain⟨z0_,rfl⟩:=ye hl;rfl
 have d_lines_with:Def l.prog w K mg base 1 "lines_with" ["T", "number"] JT:=qp X G h10 (fun _ _ F=>J5 F gb cl) fun _ _ _ _ _ _ us hl=>by obtain⟨z0_,z1_,rfl⟩:=yf hl;rfl
 have d_all_sayable:Def1 l.prog w K mg base 4 "all_sayable" ["T", "columns", "length"] (JW (c 6)):=yg X G h11 (fun _ _ F=>Jh F gb cl d_cells_by_name d_keep d_line_column d_lines_without_parts d_lines_with) fun _ _ _ _ _ _ us hl=>by obtain⟨z0_,z1_,z2_,rfl⟩:=Wm hl;rfl
 have d_sayable:Def1 l.prog w K mg base 5 "sayable" ["T", "columns", "wish"] (spSay (c 6)):=yg X G h12 (fun _ _ F=>Yq F gb cl d_all_sayable d_needed_alone) fun _ _ _ _ _ _ us hl=>by obtain⟨z0_,z1_,z2_,rfl⟩:=Wm hl;rfl
 have d_law_well:Def l.prog w K mg base 1 "_law_well" ["_law_script", "_law_place"] (Xa K):=qp X G h13 (fun _ _ F=>W7 F gb cl) fun _ _ _ _ _ _ us hl=>by obtain⟨z0_,z1_,rfl⟩:=yf hl;rfl
 have d_law_draw:Def l.prog w K mg base 1 "_law_draw" ["_law_well_here", "_law_many"] Zt:=qp X G h14 (fun _ _ F=>W8 F gb cl) fun _ _ _ _ _ _ us hl=>by obtain⟨z0_,z1_,rfl⟩:=yf hl;rfl
 have d_law_names:Def l.prog w K mg base 2 "_law_names" ["_law_well_here", "_law_many"] WS:=qp X G h15 (fun _ _ F=>Wf F gb cl d_law_draw) fun _ _ _ _ _ _ us hl=>by obtain⟨z0_,z1_,rfl⟩:=yf hl;rfl
 have d_law_cells:Def l.prog w K mg base 2 "_law_cells" ["_law_well_here", "_law_many", "_law_places"] WT:=qp X G h16 (fun _ _ F=>Wg F gb cl d_law_draw) fun _ _ _ _ _ _ us hl=>by obtain⟨z0_,z1_,z2_,rfl⟩:=Wm hl;rfl
 have d_law_table:Def l.prog w K mg base 3 "_law_table" ["_law_well_here", "_law_most", "_law_some"] WU:=qp X G h17 (fun _ _ F=>Wh F gb cl d_law_draw d_law_names d_law_cells) fun _ _ _ _ _ _ us hl=>by obtain⟨z0_,z1_,z2_,rfl⟩:=Wm hl;rfl
 have d_law_cell:Def l.prog w K mg base 1 "_law_cell" ["_law_many", "_law_cells_here", "_law_grades"] Xb:=qp X G h18 (fun _ _ F=>W9 F gb cl) fun _ _ _ _ _ _ us hl=>by obtain⟨z0_,z1_,z2_,rfl⟩:=Wm hl;rfl
 have d_law_columns:Def l.prog w K mg base 2 "_law_columns" ["_law_well_here", "_law_many", "_law_size", "_law_letters"] JX:=qp X G h19 (fun _ _ F=>Ji F gb cl d_law_draw) fun _ _ _ _ _ _ us hl=>by obtain⟨z0_,z1_,z2_,z3_,rfl⟩:=lenK4 hl;rfl
 have d_law_given:Def l.prog w K mg base 1 "_law_given" ["_law_many", "_law_places", "_law_cells_here", "_law_found", "_law_at"] W3:=qp X G h20 (fun _ _ F=>Wi F gb cl) fun _ _ _ _ _ _ us hl=>by obtain⟨z0_,z1_,z2_,z3_,z4_,rfl⟩:=lenK5 hl;rfl
 have d_law_said:Def l.prog w K mg base 2 "_law_said" ["_law_table_here", "_law_columns_here", "_law_size"] Xq:=qp X G h21 (fun _ _ F=>ya F gb cl d_law_given) fun _ _ _ _ _ _ us hl=>by obtain⟨z0_,z1_,z2_,rfl⟩:=Wm hl;rfl
 have d_law_only:Def l.prog w K mg base 1 "_law_only" ["_law_e", "_law_at"] (W5 (c 6)):=qp X G h22 (fun _ _ F=>yb F gb cl) fun _ _ _ _ _ _ us hl=>by obtain⟨z0_,z1_,rfl⟩:=yf hl;rfl
 have d_law_ahead:Def l.prog w K mg base 1 "_law_ahead" ["_law_number", "_law_many"] W6:=qp X G h23 (fun _ _ F=>Wk F gb cl) fun _ _ _ _ _ _ us hl=>by obtain⟨z0_,z1_,rfl⟩:=yf hl;rfl
 have d_law_told:Def l.prog w K mg base 6 "_law_told" ["_law_table_here", "_law_columns_here", "_law_wish_here"] (JY (c 6)):=qp X G h24 (fun _ _ F=>yc F gb cl d_sayable) fun _ _ _ _ _ _ us hl=>by obtain⟨z0_,z1_,z2_,rfl⟩:=Wm hl;rfl
 have d_law_wish:Def l.prog w K mg base 2 "_law_wish" ["_law_well_here", "_law_table_here", "_law_columns_here", "_law_said_here", "_law_size"] JZ:=qp X G h25 (fun _ _ F=>yd F gb cl d_law_draw) fun _ _ _ _ _ _ us hl=>by obtain⟨z0_,z1_,z2_,z3_,z4_,rfl⟩:=lenK5 hl;rfl
 have d_law_lines_right:Def l.prog w K mg base 2 "_law_lines_right" ["_law_table_here", "_law_columns_here", "_law_lines", "_law_wish_here"] spLR:=qp X G h26 (fun _ _ F=>Z5 F gb cl d_law_ahead d_law_cell) fun _ _ _ _ _ _ us hl=>by obtain⟨z0_,z1_,z2_,z3_,rfl⟩:=lenK4 hl;rfl
 have d_law_right:Def l.prog w K mg base 7 "_law_right" ["_law_well_here"] Q3:=qp X G h27 (fun _ _ F=>Wl F gb cl d_law_table d_law_draw d_law_columns d_law_said d_law_wish d_law_told d_law_only d_law_lines_right) fun _ _ _ _ _ _ us hl=>by obtain⟨z0_,rfl⟩:=ye hl;rfl
 exact ok_law (fun_mk (st:=Jj) lL cL kL) gb cl d_law_right d_law_well
theorem walk {l:PySem.W.OpenLaw} {q:Program} {loose:List Str} {XP:(Str->Option Value)->Heap->Prop} {YP:World->Heap->Prop} {d:DefRec} {K:Params->Fs} (hn:l.most=some 63) (hdf:d.params.defaults=[])
  (hY:∀ (w:World) (h:Heap),YP w h->(K w.params).In h)
  (F:∀ (w:World) (mg:Str->Option Value) (fa:Addr) (h:Heap),(K w.params).In h->h.Ns mainGlobals mg->mg d.name=some (.ref fa) ->
   ∃ fd:FuncData,(∀ (s:Shared) (u:Value),BindsTo s fd ⟨[u],[]⟩ [("_law_script",u)])/\∀ base:Heap,(K w.params).In base->base.Ns mainGlobals mg->jO l.prog w (K w.params) mg base CX0 8 fa fd ["_law_script"] (spLaw (K w.params))) :
  PySem.W.WalkO q loose XP YP l.row.toRowW d [] (fun f vs=>PySem.call f vs):=
 L2.YT (n:=63) (k:=8) (x := "_law_script") (CX:=fun _=>CX0) (sp:=fun w=>spLaw (K w.params)) hn (by decide) hdf ⟨rfl,by decide,by decide⟩ hY F (fun _ _ a ns hl _ hS=>⟨a,ns,rfl,hS,hl,fun _=>rfl⟩) fun _ _ _ _ _ z=>z
end K25
open PySem PySem.W PyProof.Rows
-- These names are taken so that the head lays no faster copies of the text's constants: the facts below are proved
-- without them as fast, and with them the compiled file has over 64 MB. The proof does not use these names.
theorem PySem.W.Fast.tw15221912484316989487 : True := trivial
theorem PySem.W.Fast.tw11893154026541174839 : True := trivial
theorem PySem.W.Fast.tw13334961794745240818 : True := trivial
theorem PySem.W.Fast.tw8990639072596472698 : True := trivial
theorem PySem.W.Fast.tw16257509885710613506 : True := trivial
theorem PySem.W.Fast.tw13740020075638956421 : True := trivial
theorem PySem.W.Fast.tw10548407469371908643 : True := trivial
theorem PySem.W.Fast.tw369336215535770740 : True := trivial
theorem PySem.W.Fast.tw16416060189153731350 : True := trivial
theorem PySem.W.Fast.tw437680749498162501 : True := trivial
theorem PySem.W.Fast.tw3600962297675543563 : True := trivial
theorem PySem.W.Fast.tw683225800010988706 : True := trivial
set_option maxRecDepth 100000 in
set_option maxHeartbeats 0 in
theorem PySem.Challenge.cw_truthgrades_k25_said_or_unsaid_holds : PySem.Challenge.rw_truthgrades_k25_said_or_unsaid.Holds := by
 w_on;o_law;k_head;(case hw=>w_witness2)
 k_fill
 refine K25.walk (l:=PySem.Challenge.rw_truthgrades_k25_said_or_unsaid) rfl rfl (fun w h Y=>PySem.W.kIn_of Y) ?F
 case F=>
  intro w mg fa h KX G hmg
  refine' K25.all_mk KX G hmg (K25.qZ ?a0 ?l0 ?c0 ?k0) (K25.qZ ?a1 ?l1 ?c1 ?k1) (K25.qZ ?a2 ?l2 ?c2 ?k2) (K25.qZ ?a3 ?l3 ?c3 ?k3) (K25.qZ ?a4 ?l4 ?c4 ?k4) (K25.qZ ?a5 ?l5 ?c5 ?k5) (K25.qZ ?a6 ?l6 ?c6 ?k6) (K25.qZ ?a7 ?l7 ?c7 ?k7) (K25.qZ ?a8 ?l8 ?c8 ?k8) (K25.qZ ?a9 ?l9 ?c9 ?k9) (K25.qZ ?a10 ?l10 ?c10 ?k10) (K25.qZ ?a11 ?l11 ?c11 ?k11) (K25.qZ ?a12 ?l12 ?c12 ?k12) (K25.qZ ?a13 ?l13 ?c13 ?k13) (K25.qZ ?a14 ?l14 ?c14 ?k14) (K25.qZ ?a15 ?l15 ?c15 ?k15) (K25.qZ ?a16 ?l16 ?c16 ?k16) (K25.qZ ?a17 ?l17 ?c17 ?k17) (K25.qZ ?a18 ?l18 ?c18 ?k18) (K25.qZ ?a19 ?l19 ?c19 ?k19) (K25.qZ ?a20 ?l20 ?c20 ?k20) (K25.qZ ?a21 ?l21 ?c21 ?k21) (K25.qZ ?a22 ?l22 ?c22 ?k22) (K25.qZ ?a23 ?l23 ?c23 ?k23) (K25.qZ ?a24 ?l24 ?c24 ?k24) (K25.qZ ?a25 ?l25 ?c25 ?k25) (K25.qZ ?a26 ?l26 ?c26 ?k26) (K25.qZ ?a27 ?l27 ?c27 ?k27) ?a28 ?l28 ?c28 ?k28 ?z0 ?z1 ?z2 ?z3 ?z4 ?z5 ?z6 ?z7 ?z8 ?z9 ?z10 ?z11 ?z12 ?z13 ?z14 ?z15 ?z16 ?z17 ?z18 ?y0 ?gg0 ?gg1 ?gg2 ?gg3 ?gg4 ?gg5 ?gg6 ?gg7 ?gg8 ?gg9 ?gg10 ?ww0 ?ww1 ?ww2 ?ww3 ?ww4 ?ww5 ?ww6 ?ww7 ?ww8 ?ww9 ?ww10 ?ww11 ?ww12 ?ww13 ?ww14
  (case a0=>k_is);(case l0=>k_is);(case c0=>k_is);(case k0=>k_is)
  (case a1=>k_is);(case l1=>k_is);(case c1=>k_is);(case k1=>k_is)
  (case a2=>k_is);(case l2=>k_is);(case c2=>k_is);(case k2=>k_is)
  (case a3=>k_is);(case l3=>k_is);(case c3=>k_is);(case k3=>k_is)
  (case a4=>k_is);(case l4=>k_is);(case c4=>k_is);(case k4=>k_is)
  (case a5=>k_is);(case l5=>k_is);(case c5=>k_is);(case k5=>k_is)
  (case a6=>k_is);(case l6=>k_is);(case c6=>k_is);(case k6=>k_is)
  (case a7=>k_is);(case l7=>k_is);(case c7=>k_is);(case k7=>k_is)
  (case a8=>k_is);(case l8=>k_is);(case c8=>k_is);(case k8=>k_is)
  (case a9=>k_is);(case l9=>k_is);(case c9=>k_is);(case k9=>k_is)
  (case a10=>k_is);(case l10=>k_is);(case c10=>k_is);(case k10=>k_is)
  (case a11=>k_is);(case l11=>k_is);(case c11=>k_is);(case k11=>k_is)
  (case a12=>k_is);(case l12=>k_is);(case c12=>k_is);(case k12=>k_is)
  (case a13=>k_is);(case l13=>k_is);(case c13=>k_is);(case k13=>k_is)
  (case a14=>k_is);(case l14=>k_is);(case c14=>k_is);(case k14=>k_is)
  (case a15=>k_is);(case l15=>k_is);(case c15=>k_is);(case k15=>k_is)
  (case a16=>k_is);(case l16=>k_is);(case c16=>k_is);(case k16=>k_is)
  (case a17=>k_is);(case l17=>k_is);(case c17=>k_is);(case k17=>k_is)
  (case a18=>k_is);(case l18=>k_is);(case c18=>k_is);(case k18=>k_is)
  (case a19=>k_is);(case l19=>k_is);(case c19=>k_is);(case k19=>k_is)
  (case a20=>k_is);(case l20=>k_is);(case c20=>k_is);(case k20=>k_is)
  (case a21=>k_is);(case l21=>k_is);(case c21=>k_is);(case k21=>k_is)
  (case a22=>k_is);(case l22=>k_is);(case c22=>k_is);(case k22=>k_is)
  (case a23=>k_is);(case l23=>k_is);(case c23=>k_is);(case k23=>k_is)
  (case a24=>k_is);(case l24=>k_is);(case c24=>k_is);(case k24=>k_is)
  (case a25=>k_is);(case l25=>k_is);(case c25=>k_is);(case k25=>k_is)
  (case a26=>k_is);(case l26=>k_is);(case c26=>k_is);(case k26=>k_is)
  (case a27=>k_is);(case l27=>k_is);(case c27=>k_is);(case k27=>k_is)
  (case a28=>k_is);(case l28=>k_is);(case c28=>k_is);(case k28=>k_is)
  (case z0=>k_is)
  (case z1=>k_is)
  (case z2=>k_is)
  (case z3=>k_is)
  (case z4=>k_is)
  (case z5=>k_is)
  (case z6=>k_is)
  (case z7=>k_is)
  (case z8=>k_is)
  (case z9=>k_is)
  (case z10=>k_is)
  (case z11=>k_is)
  (case z12=>k_is)
  (case z13=>k_is)
  (case z14=>k_is)
  (case z15=>k_is)
  (case z16=>k_is)
  (case z17=>k_is)
  (case z18=>k_is)
  (case y0=>k_is)
  (case gg0=>k_is)
  (case gg1=>k_is)
  (case gg2=>k_is)
  (case gg3=>k_is)
  (case gg4=>k_is)
  (case gg5=>k_is)
  (case gg6=>k_is)
  (case gg7=>k_is)
  (case gg8=>k_is)
  (case gg9=>k_is)
  (case gg10=>k_is)
  (case ww0=>first | k_is | kit_is | kernel_rfl)
  (case ww1=>first | k_is | kit_is | kernel_rfl)
  (case ww2=>first | k_is | kit_is | kernel_rfl)
  (case ww3=>first | k_is | kit_is | kernel_rfl)
  (case ww4=>first | k_is | kit_is | kernel_rfl)
  (case ww5=>first | k_is | kit_is | kernel_rfl)
  (case ww6=>first | k_is | kit_is | kernel_rfl)
  (case ww7=>first | k_is | kit_is | kernel_rfl)
  (case ww8=>first | k_is | kit_is | kernel_rfl)
  (case ww9=>first | k_is | kit_is | kernel_rfl)
  (case ww10=>first | k_is | kit_is | kernel_rfl)
  (case ww11=>first | k_is | kit_is | kernel_rfl)
  (case ww12=>first | k_is | kit_is | kernel_rfl)
  (case ww13=>first | k_is | kit_is | kernel_rfl)
  (case ww14=>first | k_is | kit_is | kernel_rfl)
