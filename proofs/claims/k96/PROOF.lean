import PyProof.Rows.All
import Wide.All
import OpenK.AllK
import Wide.FinOn
import Lean
import PyProof.EqAt
import PyProof.EqKinds
import PyProof.TupleCall
import PySem.Challenge.RW_truthgrades_k96_whole_shrunk_tables_say
set_option bootstrap.genMatcherCode false
set_option genSizeOfSpec false
local macro_rules | `(tactic| omega) => `(tactic| lia)
set_option maxHeartbeats 4000000
set_option maxRecDepth 100000
set_option linter.all false
set_option Elab.async false
abbrev AA:=@PySem.wpAny_bind
abbrev AB:=@List.length_map
abbrev AC:=@List.getElem?_eq_some_iff
abbrev AD:=@PySem.wpAny_pure
abbrev AE:=@List.mem_singleton
abbrev AF:=@PySem.Heap.get?_push_of_some
abbrev AG:=@List.getElem?_eq_getElem
abbrev AH:=@List.length_append
abbrev AI:=@List.mem_of_getElem?
abbrev AJ:=@List.getElem?_map
abbrev AK:=@Nat.le_refl
abbrev AL:=@List.map_append
abbrev AM:=@List.mem_map
abbrev AN:=@PySem.Heap.lt_size
abbrev AO:=@PySem.Heap.get?_push_size
abbrev AQ:=@List.mem_append
abbrev AR:=@Nat.ne_of_lt
abbrev AS:=@Bool.false_ne_true
abbrev AU:=@PySem.PassesOwn.never
abbrev AV:=@List.mem_cons
abbrev AW:=@List.mem_cons_self
abbrev AX:=@Option.map_eq_some_iff
abbrev AY:=@List.mem_cons_of_mem
abbrev AZ:=@List.length_range
abbrev Aa:=@List.mem_append_right
abbrev Ab:=@Nat.le_trans
abbrev Ac:=@PySem.F.plainAttrs_list
abbrev Ad:=@Option.some.inj
abbrev Ae:=@List.take_length
abbrev Af:=@List.mem_range
abbrev Ag:=@List.map_cons
abbrev Ah:=@List.mem_append_left
abbrev Ai:=@decide_eq_true
abbrev Aj:=@PySem.Heap.get?_update_self
abbrev Ak:=@of_decide_eq_true
abbrev Al:=@PySem.Paired.length
abbrev Am:=@Nat.lt_of_lt_of_le
abbrev An:=@List.length_take
abbrev Ao:=@List.getD_eq_getElem?_getD
abbrev Ap:=@PySem.wpAny_newObj_type
abbrev Aq:=@List.length_cons
abbrev Ar:=@PySem.F.type_list_append
abbrev As:=@PySem.F.slot_list_append
abbrev Au:=@Nat.lt_succ_of_lt
abbrev Av:=@Array.length_toList
abbrev Aw:=@decide_eq_false
abbrev Ax:=@PySem.Around.under_plainId
abbrev Ay:=@PySem.wpAny_call_entry
abbrev Az:=@PySem.Obj.data_mapFields
abbrev A0:=@List.all_eq_true
abbrev A1:=@PySem.wpAny_setState_of
abbrev A2:=@List.map_map
abbrev A3:=@List.getElem?_range
abbrev A4:=@Int.toNat_natCast
abbrev A5:=@PySem.Heap.SameBut.update
abbrev A6:=@Nat.lt_irrefl
abbrev A7:=@PySem.W.mg_none_of
abbrev A8:=@PySem.F.called_set
abbrev A9:=@Nat.zero_le
abbrev BA:=@PySem.codeAny_builtin
abbrev BB:=@List.getElem?_eq_none
abbrev BC:=@List.size_toArray
abbrev BD:=@Ne.symm
abbrev BE:=@PySem.wpAny_ite_split
abbrev BF:=@Nat.ne_of_gt
abbrev BG:=@List.flatMap_append
abbrev BH:=@PyProof.Rows.callWith_type1
abbrev BI:=@PySem.Heap.get?_update_other
abbrev BJ:=@PySem.wpAny_holding
abbrev BK:=@PySem.plainId_quiet
abbrev BL:=@PyProof.Rows.F.plain_set_update_loop
abbrev BM:=@Nat.lt_succ_self
abbrev BN:=@List.mem_flatMap
abbrev BO:=@PySem.wpAny_of_eq
abbrev BP:=@PySem.wpAny_setField
abbrev BQ:=@congrArg
abbrev BR:=@List.flatMap_cons
abbrev BS:=@PySem.Obj.isFreed_of_fields
abbrev BU:=@PyProof.Rows.slot_tuple_getitem
abbrev BV:=@Nat.mul_le_mul_right
abbrev BW:=@List.append_nil
abbrev BX:=@Bool.eq_iff_iff
abbrev BY:=@List.lookup_cons
abbrev BZ:=@PySem.isSubtype_type
abbrev Ba:=@PySem.mem_of_lookup
abbrev Bb:=@PySem.wpAny_isInstance
abbrev Bc:=@List.mem_iff_getElem?
abbrev Bd:=@PySem.wpAny_rule
abbrev Be:=@PySem.W.kia_one
abbrev Bf:=@List.nodup_cons
abbrev Bg:=@Bool.and_eq_true
abbrev Bh:=@PySem.wpAny_askSetting
abbrev Bi:=@Array.getElem?_eq_none
abbrev Bj:=@List.range_succ
abbrev Bk:=@PySem.wpAny_attempt
abbrev Bl:=@Array.getElem?_eq_getElem
abbrev Bm:=@PySem.wpAny_typeOf
abbrev Bn:=@PySem.wpAny_pyNext_list_item
abbrev Bo:=@PySem.wpAny_pyIter_list
abbrev Bp:=@PySem.Heap.size_push
abbrev Bq:=@PySem.wpAny_field
abbrev Br:=@Nat.le_of_lt
abbrev Bs:=@PySem.wpAny_pyNext_list_end
abbrev Bt:=@PySem.AutoSeq1.wpAny_loadPart'
abbrev Bu:=@PyProof.Rows.F.entry_set_update_loop
abbrev Bv:=@Nat.succ_mul
abbrev Bw:=@List.pairwise_lt_range
abbrev Bx:=@Int.zero_add
abbrev By:=@List.any_cons
abbrev Bz:=@List.length_drop
abbrev B0:=@PySem.F.slot_set_iter
abbrev B1:=@List.take_append_drop
abbrev B2:=@Array.getElem?_toList
abbrev B3:=@List.drop_eq_getElem_cons
abbrev B4:=@List.mem_filter
abbrev B5:=@List.foldl_cons
abbrev B6:=@PySem.F.slot_tuple_iterator_next
abbrev B7:=@Nat.le_succ_of_le
abbrev B8:=@Nat.le_succ
abbrev B9:=@List.pairwise_append
abbrev CA:=@List.mem_of_mem_take
abbrev CB:=@List.ext_getElem?
abbrev CC:=@List.append_assoc
abbrev CD:=@PySem.builtinLookup_eq_fast
abbrev CF:=@PySem.F.type_list_extend
abbrev CG:=@PySem.F.slot_list_extend
abbrev CH:=@List.all_cons
abbrev CI:=@List.map_congr_left
abbrev CJ:=@PySem.wpAny_truthy_bool
abbrev CK:=@PySem.fits_of_scanBound
abbrev CL:=@PySem.codeAny_mono
abbrev CM:=@beq_self_eq_true
abbrev CN:=@PySem.Obj.cls_mapFields
abbrev CO:=@List.length_eq_zero_iff
abbrev CP:=@List.filter_cons
abbrev CQ:=@Nat.pow_succ
abbrev CS:=@PySem.wpAny_seqItems
abbrev CT:=@Nat.not_lt_zero
abbrev CU:=@List.length_filter_le
abbrev CV:=@List.concat_eq_append
abbrev CW:=@List.pairwise_map
abbrev CY:=@PySem.wpAny_updateSeq
abbrev CZ:=@PySem.wpAny_specialOf
abbrev Ca:=@PySem.wpAny_passesOwn
abbrev Cb:=@Nat.pow_le_pow_right
abbrev Cc:=@Nat.mod_lt
abbrev Cd:=@List.Pairwise.filter
abbrev Ce:=@Array.getElem?_eq_some_iff
abbrev Cf:=@Nat.mul_comm
abbrev Cg:=@List.map_nil
abbrev Ci:=@List.getElem_mem
abbrev Cj:=@List.any_eq_true
abbrev Ck:=@PySem.wpAny_pyIter_slot
abbrev Cm:=@PySem.F.plain_extend_loop
abbrev Co:=@List.pairwise_iff_getElem
abbrev Cp:=@List.length_reverse
abbrev Cq:=@List.filterMap_cons
abbrev Cr:=@PySem.call_meets
abbrev Ct:=@PySem.F.args_tuple_add_2
abbrev Cu:=@List.sum_append
abbrev Cv:=@List.pairwise_cons
abbrev Cw:=@Sum.inr.inj
abbrev Cy:=@PySem.F.entry_tuple_add
abbrev Cz:=@Nat.pow_one
abbrev C0:=@List.pairwise_singleton
abbrev C1:=@PySem.F.slot_tuple_add
abbrev C2:=@PySem.F.plain_sum_loop
abbrev C3:=@List.take_of_length_le
abbrev C4:=@List.flatMap_singleton
abbrev C5:=@PySem.typeLookup_type
abbrev C6:=@PySem.wpAny_mono
abbrev C7:=@PySem.tupleKind_room_in1
abbrev C8:=@PySem.wpAny_getItem_str_slice
abbrev C9:=@List.eq_nil_or_concat
abbrev DA:=@PySem.F.slot_list_getattribute
abbrev DC:=@Nat.succ_le_succ
abbrev DD:=@List.map_take
abbrev DE:=@List.map_drop
abbrev DF:=@PySem.wpAny_fieldsOf
abbrev DG:=@List.of_mem_zip
abbrev DH:=@Int.natCast_mul
abbrev DI:=@Nat.pow_le_pow_left
abbrev DJ:=@Nat.lt_trans
abbrev DK:=@List.all_map
abbrev DL:=@PySem.Txt.slice_le
abbrev DM:=@List.zip_cons_cons
abbrev DN:=@List.perm_ext_iff_of_nodup
abbrev DO:=@List.filter_append
abbrev DP:=@List.drop_zero
abbrev DQ:=@PySem.Heap.get?_none_of_le
abbrev DR:=@Classical.byContradiction
abbrev DS:=@List.take_add_one
abbrev DT:=@Bool.eq_false_iff
abbrev DU:=@List.length_erase_of_mem
abbrev DV:=@PySem.wpAny_tryCatch
abbrev DW:=@PySem.wpAny_pyIter_tuple
abbrev DX:=@PySem.F.args_set_iter_1
abbrev DY:=@Classical.axiomOfChoice
abbrev DZ:=@Nat.lt_or_ge
abbrev Da:=@List.range_succ_eq_map
abbrev Dc:=@List.length_pos_of_mem
abbrev Dd:=@List.drop_eq_nil_of_le
abbrev De:=@PySem.wpAny_storeSet_of
abbrev Df:=@PySem.wpAny_pyIter_enum
abbrev Dh:=@PySem.sizeLine_eq
abbrev Di:=@Option.map_some
abbrev Dj:=@List.nil_append
abbrev Dk:=@Int.natCast_add
abbrev Dm:=@PySem.wpAny_handled
abbrev Dn:=@PySem.noFill_tuple_add
abbrev Do:=@Nat.mul_le_mul
abbrev Dp:=@List.mem_of_mem_drop
abbrev Dq:=@PySem.F.slot_tuple_mul
abbrev Dr:=@PySem.wpAny_execs_nil
abbrev Ds:=@PySem.post_val_or_str
abbrev Dt:=@List.cons.inj
abbrev Du:=@PySem.F.slot_int_rmul
abbrev Dv:=@PySem.wpAny_notOrdered_dict
abbrev Dw:=@PySem.F.args_tuple_iterator_next_1
abbrev Dx:=@Nat.lt_of_le_of_lt
abbrev Dy:=@List.mem_filterMap
abbrev Dz:=@Int.emod_lt_of_pos
abbrev D0:=@PySem.F.entry_tuple_iterator_next
abbrev D4:=@List.findIdx?_eq_some_iff_getElem
abbrev D5:=@PySem.wpAny_throw
abbrev D6:=@PySem.wpAny_runValue
abbrev D7:=@PySem.isSubtype_stop
abbrev D8:=@Option.isSome_map
abbrev D9:=@Nat.add_zero
abbrev EA:=@List.nodup_append
abbrev EB:=@List.foldl_append
abbrev EC:=@Bool.not_eq_true'
abbrev ED:=@Array.toList_push
abbrev EE:=@PySem.putSet_of
abbrev EF:=@List.eraseIdx_eq_take_drop_succ
abbrev EG:=@Nat.succ_ne_self
abbrev EH:=@Nat.mod_eq_of_lt
abbrev EI:=@Nat.div_eq_of_lt
abbrev EJ:=@List.perm_middle
abbrev EK:=@Int.natCast_emod
abbrev EL:=@Int.natCast_ediv
abbrev EM:=@PySem.seq_tuple_add
abbrev EN:=@Sum.inl.inj
abbrev EO:=@Nat.pow_two
abbrev ER:=@Nat.add_mul
abbrev ES:=@PySem.wpAny_load
abbrev ET:=@PySem.wpAny_Call_Name_kw
abbrev EU:=@PySem.typeIs_int
abbrev EV:=@Nat.mul_add_mod
abbrev EW:=@Nat.mul_add_div
abbrev EX:=@Nat.le_antisymm
abbrev EY:=@Int.emod_nonneg
abbrev EZ:=@List.idxOf_lt_length_of_mem
abbrev Ea:=@PySem.wpAny_setEpoch_of
abbrev Eb:=@PySem.concat_meets
abbrev Ec:=@PySem.F.sub_list_frozenset
abbrev Ed:=@PySem.F.slot_tuple_getitem
abbrev Ee:=@PySem.F.kt_typeCall_dict_1
abbrev Ef:=@PySem.F.args_object_init_2
abbrev Eg:=@List.getElem?_append_right
abbrev Eh:=@Int.fdiv_eq_ediv_of_nonneg
namespace L2
open PySem PySem.Spec PyProof.Rows
abbrev Key:=Sum Int Str
def Y4:Key->Value->Bool
 | .inl k,v=>Value.isInt k v
 | .inr x,v=>Value.isStrOf x v
def keyH (w:World):Key->Int
 | .inl k=>hashInt k
 | .inr x=>hashStr w x
theorem qv:∀ {k:Key} {v:Value},Y4 k v=true->(∃ i t,k=Sum.inl i/\v=Value.int i t)\/(∃ x t,k=Sum.inr x/\v=Value.str x t)
 | .inl i,v,h=>by
  obtain⟨t,e⟩:=Value.isInt_shape (k:=i) (v:=v) h
  exact .inl ⟨i,t,rfl,e⟩
 | .inr x,v,h=>by
  obtain⟨t,e⟩:=Value.isStrOf_shape (x:=x) (v:=v) h
  exact .inr ⟨x,t,rfl,e⟩
theorem xV (i:Int) (t:Tok):Y4 (.inl i) (.int i t)=true:=by simp[Y4,Value.isInt]
theorem xW (x:Str) (t:Tok):Y4 (.inr x) (.str x t)=true:=by simp[Y4,Value.isStrOf]
theorem key_ll (a b:Int):decide ((Sum.inl a:Key)=Sum.inl b)=(a == b):=by
 by_cases e:a=b
 ·subst e;simp
 ·have h:¬ (Sum.inl a:Key)=Sum.inl b:=fun q=>e (EN q)
  rw[Aw h]
  exact (beq_eq_false_iff_ne.mpr e).symm
theorem key_rr (a b:Str):decide ((Sum.inr a:Key)=Sum.inr b)=decide (a=b):=by
 by_cases e:a=b
 ·subst e;simp
 ·have h:¬ (Sum.inr a:Key)=Sum.inr b:=fun q=>e (Cw q)
  rw[Aw h,Aw e]
theorem key_lr (a:Int) (b:Str):decide ((Sum.inl a:Key)=Sum.inr b)=false:=Aw (fun q=>nomatch q)
theorem key_rl (a:Str) (b:Int):decide ((Sum.inr a:Key)=Sum.inl b)=false:=Aw (fun q=>nomatch q)
def zU (prog:Program) (w:World):PySem.KeyKind prog w Key where
 is:=Y4
 hash:=keyH w
 inj:=fun v a b ha hb=>by
  rcases qv ha with ⟨i,t,rfl,rfl⟩ | ⟨x,t,rfl,rfl⟩
  ·rcases qv hb with ⟨j,u,rfl,e⟩ | ⟨y,u,rfl,e⟩
   ·injection e with e1 _;rw[e1]
   ·exact nomatch e
  ·rcases qv hb with ⟨j,u,rfl,e⟩ | ⟨y,u,rfl,e⟩
   ·exact nomatch e
   ·injection e with e1 _;rw[e1]
 byValue:=fun k v h=>by
  rcases qv h with ⟨i,t,rfl,rfl⟩ | ⟨x,t,rfl,rfl⟩ <;> rfl
 pyHash:=fun hv h=>by
  rcases qv hv with ⟨i,t,rfl,rfl⟩ | ⟨x,t,rfl,rfl⟩
  ·exact wpAny_pyHash_int h
  ·exact wpAny_pyHash_str h
 eqBool:=fun hu hv h=>by
  rcases qv hu with ⟨i,t,rfl,rfl⟩ | ⟨x,t,rfl,rfl⟩
  ·rcases qv hv with ⟨j,u,rfl,rfl⟩ | ⟨y,u,rfl,rfl⟩
   ·rw[key_ll] at h;exact wpAny_eqBool_int h
   ·rw[key_lr] at h;exact SeqAt.EqAt.int_str i t y u _ _ _ _ h
  ·rcases qv hv with ⟨j,u,rfl,rfl⟩ | ⟨y,u,rfl,rfl⟩
   ·rw[key_rl] at h;exact SeqAt.EqAt.str_int x t j u _ _ _ _ h
   ·rw[key_rr] at h;exact wpAny_eqBool_str h
 «strs»:=fun k x t v h=>by
  rcases qv h with ⟨i,u,rfl,e⟩ | ⟨y,u,rfl,e⟩
  ·exact nomatch e
  ·injection e with e1 _
   subst e1
   cases v <;> rfl
theorem yM (prog:Program) (w:World) (i:Int) (t:Tok):(zU prog w).is (.inl i) (.int i t)=true:=xV i t
theorem yN (prog:Program) (w:World) (x:Str) (t:Tok):(zU prog w).is (.inr x) (.str x t)=true:=xW x t
inductive V where
 | non | bl (b:Bool) | int (i:Int) | str (x:Str) | byt (b:Array UInt8) | flt (b:UInt64) | ref (a:Addr) | ty (n:String)
 deriving DecidableEq
def RelV:V->Value->Prop
 | .non,u=>u=Value.none
 | .bl b,u=>u=Value.bool b
 | .int i,u=>∃ t,u=Value.int i t
 | .str x,u=>∃ t,u=Value.str x t
 | .byt b,u=>∃ t,u=Value.bytes b t
 | .flt b,u=>∃ t,u=Value.float b t
 | .ref a,u=>u=Value.ref a
 | .ty n,u=>u=Value.type n
abbrev qA:List V->List Value->Prop:=Paired RelV
theorem qA.length {xs:List V} {us:List Value} (r:qA xs us):xs.length=us.length:=Al r
theorem qA.get:∀ {xs:List V} {us:List Value} {i:Nat} {x:V},qA xs us->xs[i]? = some x->∃ u,us[i]? = some u/\RelV x u
 | _,_,_,_,.nil,e=>by simp at e
 | _,_,0,_,.cons r _,e=>by simp at e;subst e;exact⟨_,rfl,r⟩
 | _,_,i+1,x,.cons _ t,e=>by
  obtain⟨u,h1,h2⟩:=qA.get (i:=i) (x:=x) t (by simpa using e)
  exact⟨u,by simpa using h1,h2⟩
theorem qA.append:∀ {xs ys:List V} {us ws:List Value},qA xs us->qA ys ws->qA (xs++ys) (us++ws)
 | _,_,_,_,.nil,s=>s
 | _,_,_,_,.cons r t,s=>.cons r (qA.append t s)
theorem qA.take:∀ {xs:List V} {us:List Value} (n:Nat),qA xs us->qA (xs.take n) (us.take n)
 | _,_,0,_=>.nil
 | _,_,_+1,.nil=>.nil
 | _,_,n+1,.cons r t=>.cons r (qA.take n t)
theorem qA.drop:∀ {xs:List V} {us:List Value} (n:Nat),qA xs us->qA (xs.drop n) (us.drop n)
 | _,_,0,r=>r
 | _,_,_+1,.nil=>.nil
 | _,_,n+1,.cons _ t=>qA.drop n t
def xS:Option V->Option Value->Prop
 | some v,some u=>RelV v u
 | none,none=>True
 | _,_=>False
def KV {κ:Type}:List (κ×V)->List (κ×Value)->Prop:=Paired fun (p:κ×V) (q:κ×Value)=>p.1=q.1/\RelV p.2 q.2
def kV:Key->V
 | .inl i=>.int i
 | .inr x=>.str x
def Ys (h:Heap) (a:Addr) (items:Array Value):Prop:=∃ o,h.get? a=some o/\o.cls=.type "tuple" /\ (∃ n,o.data=.seq items n)/\o.dict=none
theorem Ys.lt {h:Heap} {a:Addr} {items:Array Value} (x:Ys h a items):a < h.objs.size:=let ⟨_,e,_⟩:=x;AN e
theorem Ys.isTup {h:Heap} {a:Addr} {items:Array Value} (x:Ys h a items):IsTup h a items:=let ⟨o,e,c,n,_⟩:=x;⟨o,e,c,n⟩
theorem Ys.new (h:Heap) (items:Array Value):Ys (h.push { cls:=.type "tuple",data:=.seq items }) h.objs.size items:=⟨_,AO _ rfl,rfl,⟨_,rfl⟩,rfl⟩
inductive HO where
 /-- a list -/
 | lst (xs:List V)
 /-- a tuple (never changes) -/
 | tup (xs:List V)
 /-- a dict whose keys are ints and texts;one whose keys are tuples of ints and texts (the empty one is both) -/
 | dK (kvs:List (Key×V)) | dT (kvs:List (List Key×V))
 /-- a set of ints: its members,its size -/
 | set (S:Int->Bool) (n:Nat)
 /-- an instance of the class at C,its dict at dx,its attributes -/
 | ins (C dx:Addr) (fs:List (Str×V))
 /-- the dict of the instance at x -/
 | own (x:Addr)
 /-- the dict of an exception -/
 | xd (fs:List (Str×V))
 /-- a bound method,f of x -/
 | met (f x:Addr)
 /-- a range object lo,lo+1,.. below hi -/
 | rng (lo hi:Int)
 /-- a thing that is known to the object (the script;a dict while a loop walks it): read,never written while it is so -/
 | frz (o:Obj) (u:HO)
 /-- a code object's table -/
 | tbl (ps:Array Value)
 /-- any other thing,by what is true of its one object (a def of one's own: SetO a S n:=HO.ext fun h=>..) -/
 | ext (φ:Heap->Prop)
abbrev Hp:=Addr->Option HO
def upd (H:Hp) (a:Addr) (o:HO):Hp:=fun b=>if b=a then some o else H b
theorem ze {H:Hp} {a:Addr} {o:HO}:upd H a o a=some o:=by unfold upd;rw[if_pos rfl]
theorem zI {H:Hp} {a b:Addr} {o:HO} (h:b ≠ a):upd H a o b=H b:=by unfold upd;rw[if_neg h]
theorem xX {H:Hp} {a:Addr} {o u:HO}:upd (upd H a o) a u=upd H a u:=by
 funext b;unfold upd;split <;> rfl
theorem Y5 {H:Hp} {a b:Addr} {o u:HO} (h:H a=some o) (h':H b=some u) (d:o ≠ u):a ≠ b:=by
 intro e;subst e;rw[h] at h';exact d (Ad h')
theorem zH {H:Hp} {a b:Addr} {o:HO} (h:H a=some o) (h':H b=none):a ≠ b:=by
 intro e;subst e;rw[h] at h';cases h'
section
variable (P : Program) (w : World)
def qI (H:Hp) (h:Heap) (a:Addr):HO->Prop
 | .lst xs=>xs.length<=sizeLine/\∃ (its:List Value) (n:Nat),qA xs its/\h.get? a=some { cls:=.type "list",data:=.seq its.toArray n }
 | .tup xs=>xs.length<=sizeLine/\∃ its:List Value,qA xs its/\Ys h a its.toArray
 | .dK kvs=>kvs.length<=sizeLine/\(a == sysModules)=false/\∃ vs,KV kvs vs/\h.DictOf (zU P w) a vs
 | .dT kvs=>kvs.length<=sizeLine/\(a == sysModules)=false/\∃ xs:List (List Key×Addr×Value),
   Paired (fun (p:List Key×V) (q:List Key×Addr×Value)=>p.1=q.1/\H q.2.1=some (.tup (p.1.map kV))/\RelV p.2 q.2.2) kvs xs /\
   ∃ o es ep,h.get? a=some o/\o.ExactDict/\o.data=.dict es ep/\es.toList=xs.map (entryOfKey (tupleKind (zU P w)))/\(xs.map (·.1)).Nodup
 | .set S n=>h.SetOf (intKind P w) a S n
 | .ins C dx fs=>H dx=some (.own a)/\fs.length<=1000/\dx ≠ a/\h.get? a=some (PySem.W.instObj C dx) /\
   ∃ mA,h.Ns1 dx mA/\(∀ f,xS (fs.lookup f) (mA f))/\PySem.Within mA (fs.map (·.1))
 | .own _=>∃ o,h.get? a=some o
 | .xd fs=>∃ mA,h.Ns1 a mA/\∀ f,xS (fs.lookup f) (mA f)
 | .rng lo hi=>∃ t u v,h.get? a=some { cls:=.type "range",data:=.fields #[.int lo t,.int hi u,.int 1 v] }
 | .frz o u=>h.get? a=some o/\qI H h a u
 | .tbl ps=>h.get? a=some { cls:=.none,data:=.fields ps }
 | .met f x=>h.get? a=some (PySem.W.methodObj (.ref f) (.ref x))
 | .ext φ=>φ h/\(∃ o,h.get? a=some o)/\∀ h1 h2:Heap,φ h1->(∀ o,h1.get? a=some o->h2.get? a=some o)->φ h2
def HOk (H:Hp) (h:Heap):Prop:=∀ a o,H a=some o->qI P w H h a o
end
section
variable {P : Program} {w : World} {H H' : Hp} {h h' : Heap} {a : Addr} {o : HO}
theorem qI.lt (x:qI P w H h a o):a < h.objs.size:=by
 cases o with
 | lst xs=>obtain⟨_,_,_,_,e⟩:=x;exact AN e
 | tup xs=>obtain⟨_,_,_,p⟩:=x;exact p.lt
 | dK kvs=>obtain⟨_,_,_,_,o,_,_,e,_⟩:=x;exact AN e
 | dT kvs=>obtain⟨_,_,_,_,o,_,_,e,_⟩:=x;exact AN e
 | set S n=>obtain⟨o,_,_,_,e,_⟩:=x;exact AN e
 | ins C dx fs=>obtain⟨_,_,_,e,_⟩:=x;exact AN e
 | own y=>obtain⟨_,e⟩:=x;exact AN e
 | xd fs=>obtain⟨_,⟨_,_,_,e,_⟩,_⟩:=x;exact AN e
 | rng lo hi=>obtain⟨_,_,_,e⟩:=x;exact AN e
 | frz ob u=>obtain⟨e,_⟩:=x;exact AN e
 | tbl ps=>exact AN (show h.get? a=some _ from x)
 | met f y=>exact AN (show h.get? a=some _ from x)
 | ext φ=>obtain⟨_,⟨_,e⟩,_⟩:=x;exact AN e
theorem Paired.mapP {α β:Type} {F G:α->β->Prop}:∀ {l₁:List α} {l₂:List β},Paired F l₁ l₂->(∀ a b,F a b->G a b)->Paired G l₁ l₂
 | _,_,.nil,_=>.nil
 | _,_,.cons r t,f=>.cons (f _ _ r) (Paired.mapP t f)
theorem Paired.imp' {α β:Type} {F G:α->β->Prop} (f:∀ a b,F a b->G a b) {l₁:List α} {l₂:List β} (r:Paired F l₁ l₂):Paired G l₁ l₂:=Paired.mapP r f
theorem qI.stay (x:qI P w H h a o) (k:∀ b u,(b=a\/H b=some (.own a))->h.get? b=some u->h'.get? b=some u)
  (ho:∀ b,H b=some (.own a)->H' b=some (.own a)) (ht:∀ b xs,H b=some (.tup xs)->H' b=some (.tup xs)):qI P w H' h' a o:=by
 induction o with
 | lst xs=>obtain⟨z,its,n,r,e⟩:=x;exact⟨z,its,n,r,k _ _ (.inl rfl) e⟩
 | tup xs=>obtain⟨z,its,r,ob,e,c⟩:=x;exact⟨z,its,r,ob,k _ _ (.inl rfl) e,c⟩
 | dK kvs=>obtain⟨z,y,vs,r,ob,es,ep,e,c⟩:=x;exact⟨z,y,vs,r,ob,es,ep,k _ _ (.inl rfl) e,c⟩
 | dT kvs=>
  obtain⟨z,y,xs,r,ob,es,ep,e,c⟩:=x
  exact⟨z,y,xs,Paired.mapP r fun p q z=>⟨z.1,ht _ _ z.2.1,z.2.2⟩,ob,es,ep,k _ _ (.inl rfl) e,c⟩
 | set S n=>obtain⟨ob,es,ep,t,e,c⟩:=x;exact⟨ob,es,ep,t,k _ _ (.inl rfl) e,c⟩
 | ins C dx fs=>
  obtain⟨d,z,ne,e,mA,⟨od,es,ep,e2,c⟩,r⟩:=x
  exact⟨ho _ d,z,ne,k _ _ (.inl rfl) e,mA,⟨od,es,ep,k _ _ (.inr d) e2,c⟩,r⟩
 | own y=>obtain⟨ob,e⟩:=x;exact⟨ob,k _ _ (.inl rfl) e⟩
 | xd fs=>obtain⟨mA,⟨od,es,ep,e,c⟩,r⟩:=x;exact⟨mA,⟨od,es,ep,k _ _ (.inl rfl) e,c⟩,r⟩
 | rng lo hi=>obtain⟨t,u,v,e⟩:=x;exact⟨t,u,v,k _ _ (.inl rfl) e⟩
 | frz ob u ih=>obtain⟨e,q⟩:=x;exact⟨k _ _ (.inl rfl) e,ih q⟩
 | tbl ps=>
  have e:h.get? a=some { cls:=.none,data:=.fields ps }:=x
  show h'.get? a=some { cls:=.none,data:=.fields ps }
  exact k a _ (.inl rfl) e
 | met f y=>
  have e:h.get? a=some (PySem.W.methodObj (.ref f) (.ref y)):=x
  show h'.get? a=some (PySem.W.methodObj (.ref f) (.ref y))
  exact k a _ (.inl rfl) e
 | ext φ=>obtain⟨p,⟨o,e⟩,st⟩:=x;exact⟨st _ _ p fun o q=>k _ _ (.inl rfl) q,⟨o,k _ _ (.inl rfl) e⟩,st⟩
theorem HOk.lt (x:HOk P w H h) (e:H a=some o):a < h.objs.size:=(x a o e).lt
theorem HOk.fresh (x:HOk P w H h) (e:h.objs.size<=a):H a=none:=by
 cases q:H a with
 | none=>rfl
 | some u=>exact absurd (Am (x.lt q) e) (A6 _)
theorem HOk.kept (x:HOk P w H h) (k:∀ b u,h.get? b=some u->h'.get? b=some u):HOk P w H h':=fun a o e=>
 (x a o e).stay (fun b u _ q=>k b u q) (fun _ q=>q) fun _ _ q=>q
theorem HOk.laid (x:HOk P w H h) (k:∀ b u,h.get? b=some u->h'.get? b=some u) (hp:h.objs.size<=a) (new:qI P w (upd H a o) h' a o):HOk P w (upd H a o) h':=fun b u e=>by
 have hn:=x.fresh hp
 by_cases hb:b=a
 ·subst hb;rw[ze] at e;cases e;exact new
 ·rw[zI hb] at e
  exact (x b u e).stay (fun c v _ q=>k c v q) (fun c q=>by rw[zI (zH q hn)];exact q) fun c xs q=>by rw[zI (zH q hn)];exact q
end
def Rd (H:Hp) (a:Addr) (u:HO):Prop:=H a=some u\/∃ o,H a=some (.frz o u)
theorem Rd.ok {P:Program} {w:World} {H:Hp} {h:Heap} {a:Addr} {u:HO} (r:Rd H a u) (x:HOk P w H h):qI P w H h a u:=by
 rcases r with r | ⟨o,r⟩
 ·exact x a u r
 ·obtain⟨_,q⟩:=x a _ r
  exact q
def Mut:Option HO->Prop
 | some (.lst _)=>True
 | some (.dK _)=>True
 | some (.dT _)=>True
 | some (.set _ _)=>True
 | some (.ins _ _ _)=>True
 | some (.ext _)=>True
 | _=>False
section
variable {P : Program} {w : World} {H : Hp} {h h' : Heap} {x e : Addr} {o' : HO}
theorem HOk.write (ok:HOk P w H h) (mu:Mut (H x)) (he:e=x\/H e=some (.own x)) (k:∀ b u,b ≠ e->h.get? b=some u->h'.get? b=some u) (heo:∃ u,h'.get? e=some u)
  (new:qI P w (upd H x o') h' x o'):HOk P w (upd H x o') h':=fun b u q=>by
 have nown:∀ c y,H c=some (.own y)->c ≠ x:=fun c y r z=>by subst z;rw[r] at mu;exact mu
 have ntup:∀ c xs,H c=some (.tup xs)->c ≠ x:=fun c xs r z=>by subst z;rw[r] at mu;exact mu
 by_cases hb:b=x
 ·subst hb;rw[ze] at q;cases q;exact new
 ·rw[zI hb] at q
  by_cases hbe:b=e
  ·have q':H b=some (.own x):=by
    rcases he with z | z
    ·exact absurd (hbe.trans z) hb
    ·rw[hbe];exact z
   rw[q] at q';cases q'
   obtain⟨v,hv⟩:=heo
   exact⟨v,by rw[hbe];exact hv⟩
  ·refine (ok b u q).stay (fun c v hc r=>k c v ?_ r) (fun c r=>by rw[zI (nown c b r)];exact r) fun c xs r=>by rw[zI (ntup c xs r)];exact r
   rcases hc with rfl | hc
   ·exact hbe
   ·rintro rfl
    rcases he with z | z
    ·exact nown c b hc z
    ·rw[hc] at z;cases z;exact hb rfl
end
structure Un (fs ex:List Addr) (H H':Hp) (h h':Heap):Prop where
 keep:∀ b o,h.get? b=some o->H b=none->b ∉ fs->b ∉ ex->h'.get? b=some o
 slot:∀ b o,h.get? b=some o->H b=none->b ∈ fs->b ∉ ex->∃ sl,h'.get? b=some { o with slots:=sl }
 free:∀ b o,h.get? b=some o->H b=none->b ∉ ex->H' b=none
 there:∀ b o,h.get? b=some o->b ∉ ex->∃ o',h'.get? b=some o'
 tups:∀ b xs,H b=some (.tup xs)->H' b=some (.tup xs)
 frzs:∀ b o u,H b=some (.frz o u)->H' b=some (.frz o u)
 tbls:∀ b ps,H b=some (.tbl ps)->∃ more,H' b=some (.tbl (ps++more))
section
variable {fs fs' ex ex' : List Addr} {H H1 H2 : Hp} {h h1 h2 h' : Heap} {a x e : Addr} {o : HO}
theorem Un.any (u:Un fs ex H H1 h h1) {b:Addr} {ob:Obj} (q:h.get? b=some ob) (n:H b=none) (hx:b ∉ ex):∃ sl,h1.get? b=some { ob with slots:=sl }:=by
 by_cases hb:b ∈ fs
 ·exact u.slot b ob q n hb hx
 ·exact⟨ob.slots,u.keep b ob q n hb hx⟩
theorem Un.kept (k:∀ b u,h.get? b=some u->h'.get? b=some u):Un fs ex H H h h':=
 ⟨fun b ob q _ _ _=>k b ob q,fun b ob q _ _ _=>⟨ob.slots,k b ob q⟩,fun _ _ _ n _=>n,fun b ob q _=>⟨ob,k b ob q⟩,fun _ _ q=>q,fun _ _ _ q=>q,fun _ ps q=>⟨#[],by rw[q];simp⟩⟩
theorem Un.refl:Un fs ex H H h h:=Un.kept fun _ _ q=>q
theorem Un.laid (k:∀ b u,h.get? b=some u->h'.get? b=some u) (hp:h.objs.size<=a) (hn:H a=none):Un fs ex H (upd H a o) h h' where
 keep:=fun b u q _ _ _=>k b u q
 slot:=fun b u q _ _ _=>⟨u.slots,k b u q⟩
 free:=fun b u q n _=>by rw[zI (AR (Am (AN q) hp))];exact n
 there:=fun b u q _=>⟨u,k b u q⟩
 tups:=fun b xs q=>by rw[zI (zH q hn)];exact q
 frzs:=fun b u xs q=>by rw[zI (zH q hn)];exact q
 tbls:=fun b ps q=>⟨#[],by rw[zI (zH q hn),q];simp⟩
theorem Un.write (mu:Mut (H x)) (he:e=x\/H e=some (.own x)) (k:∀ b u,b ≠ e->h.get? b=some u->h'.get? b=some u) (heo:∃ u,h'.get? e=some u):Un fs ex H (upd H x o) h h':=by
 have hx:∀ b,H b=none->b ≠ x:=fun b n z=>by subst z;rw[n] at mu;exact mu
 have hb:∀ b,H b=none->b ≠ e:=fun b n z=>by
  subst z
  rcases he with r | r
  ·exact hx b n r
  ·rw[n] at r;cases r
 have hm:∀ b u,H b=some u->¬ Mut (some u)->b ≠ x:=fun b u q nm z=>by subst z;rw[q] at mu;exact nm mu
 refine⟨fun b u q n _ _=>k b u (hb b n) q,fun b u q n _ _=>⟨u.slots,k b u (hb b n) q⟩,fun b u q n _=>by rw[zI (hx b n)];exact n,fun b u q _=>?_,
  fun b xs q=>by rw[zI (hm b _ q fun z=>z)];exact q,fun b u xs q=>by rw[zI (hm b _ q fun z=>z)];exact q,fun b ps q=>⟨#[],by rw[zI (hm b _ q fun z=>z),q];simp⟩⟩
 by_cases hbe:b=e
 ·subst hbe;exact heo
 ·exact⟨u,k b u hbe q⟩
end
def trk (h:Heap) (H:Hp):List Addr:=(List.range h.objs.size).filter fun a=>(H a).isSome
def hidT (h:Heap) (H:Hp):Heap:=PySem.W.hideAll h (trk h H)
theorem xY (h:Heap) (H:Hp):(hidT h H).objs.size=h.objs.size:=PySem.W.hideAll_size _ _
theorem hidT_get {h:Heap} {H:Hp} {b:Addr} {o:Obj} (e:h.get? b=some o) (n:H b=none):(hidT h H).get? b=some o:=
 PySem.W.hideAll_get _ e fun hm=>by
  have q:(H b).isSome=true:=(B4.mp hm).2
  rw[n] at q;simp at q
theorem of_hidT {h:Heap} {H:Hp} {b:Addr} {o:Obj} (e:(hidT h H).get? b=some o):h.get? b=some o/\H b=none:=by
 have e':h.get? b=some o:=PySem.W.of_hideAll (trk h H) e
 refine⟨e',?_⟩
 cases q:H b with
 | none=>rfl
 | some x=>
  have hm:b ∈ trk h H:=B4.mpr ⟨Af.mpr (AN e'),by simp[q]⟩
  have z:(hidT h H).get? b=none:=PySem.W.hideAll_none (trk h H) hm
  rw[z] at e;cases e
structure Mod (K:PySem.W.Frag) (mg:Str->Option Value) (base:Heap):Prop where
 kin:K.In base
 glob:base.Ns mainGlobals mg
 blt:∃ mb,base.Ns builtinsNs mb/\∀ x:Str,x ≠ "__name__" -> mb x=bootBuiltins x
 nolimit:base.NoLimit
structure Cx where
 prog:Program
 w:World
 K:PySem.W.Frag
 mg:Str->Option Value
 base:Heap
 A:Around
 N:List Str
 s₀:Shared
 H₀:Hp
 env:Env
 outer:List Env
 stack:List Env
 ex:List Addr
 fn:Str->Bool
 calm:Bool
 pn:List (Addr×Obj)
 xe:Value->Shared->Prop
def frs (l:List Env):List Addr:=l.filterMap (·.frame)
abbrev Cx.fs (X:Cx):List Addr:=frs X.outer
def Vis (sc:Scope) (x:Str):Prop:=sc.names.lookup x=some .local\/sc.names.lookup x=some .cell\/sc.names.lookup x=some .free
def Loc (sc:Scope) (x:Str):Prop:=sc.names.lookup x=some .local\/sc.names.lookup x=some .cell
def Look (env:Env) (h:Heap) (m:Str->Option Value) (x:Str) (u:Value):Prop:=
 (env.kindOf x=some .local/\m x=some u)\/((env.kindOf x=some .cell\/env.kindOf x=some .free)/\∃ c,env.cells.lookup x=some c/\h.IsCell c (some u))
structure Cx.Ok (X:Cx):Prop where
 mod:Mod X.K X.mg X.base
 kind:X.env.scope.kind=.function
 glob:X.env.globals=mainGlobals
 blt:X.env.builtins=builtinsNs
 above:X.s₀.heap.objs.size<=X.env.locals
 inj:∀ x y c,X.env.cells.lookup x=some c->X.env.cells.lookup y=some c->x=y
 has:∀ x,(X.env.kindOf x=some .cell\/X.env.kindOf x=some .free)->∃ c,X.env.cells.lookup x=some c
 cab:∀ x c,X.fn x=true->X.env.cells.lookup x=some c->X.s₀.heap.objs.size<=c
 hd:X.calm=true->X.A.handled=none
 frames:X.A.frames=some X.stack
 stk:X.stack=X.outer\/(X.stack=X.env :: X.outer/\X.env.frame=some X.env.locals)
 exf:∀ b ∈ X.ex,b ≠ X.env.locals/\∀ x c,X.env.cells.lookup x=some c->c ≠ b
 bs:∀ b o,X.base.get? b=some o->X.s₀.heap.get? b=some o/\X.H₀ b=none
 bsz:X.base.objs.size<=X.s₀.heap.objs.size
 noex:∀ b o,X.base.get? b=some o->b ∉ X.ex
 exfs:∀ b ∈ X.ex,b ∉ X.fs
 funs:X.s₀.heap.FunFrames X.base X.outer
 frf:∀ b ∈ X.fs,X.H₀ b=none
structure Inv (X:Cx) (pins:List (Addr×Obj)) (σ:List (Option V)) (H:Hp) (s:Shared):Prop where
 ok:X.Ok
 os:s.os=X.s₀.os
 bare:AllBare s.gens
 base:Un X.fs X.ex X.H₀ H X.s₀.heap s.heap
 loc:∃ m,s.heap.Ns X.env.locals m/\∀ (i:Nat) (x:Str) (v:V),X.N[i]? = some x->σ[i]? = some (some v)->Vis X.env.scope x->∃ u,RelV v u/\Look X.env s.heap m x u
 cell:∀ x c,X.env.cells.lookup x=some c->∃ v,s.heap.IsCell c v
 free:H X.env.locals=none
 freeC:∀ x c,X.env.cells.lookup x=some c->H c=none
 pin:∀ p ∈ X.pn++pins,s.heap.get? p.1=some p.2/\H p.1=none/\p.1 ≠ X.env.locals/\p.1 ∉ X.fs/\∀ v,p.2.data ≠ .cell v
 hok:HOk X.prog X.w H s.heap
 len:σ.length=X.N.length
section
variable {X : Cx} {pins : List (Addr × Obj)} {σ : List (Option V)} {H H' : Hp} {s : Shared} {h' : Heap}
theorem Cx.Ok.nofr (ok:X.Ok) {b:Addr} {o:Obj} (e:X.base.get? b=some o):b ∉ X.fs:=fun hb=>by
 have:=(ok.funs.mem hb).1
 rw[e] at this;cases this
theorem Inv.bs (I:Inv X pins σ H s):∀ b o,X.base.get? b=some o->s.heap.get? b=some o/\H b=none:=fun b o e=>
 ⟨I.base.keep b o (I.ok.bs b o e).1 (I.ok.bs b o e).2 (I.ok.nofr e) (I.ok.noex b o e),I.base.free b o (I.ok.bs b o e).1 (I.ok.bs b o e).2 (I.ok.noex b o e)⟩
theorem Inv.bk (I:Inv X pins σ H s):∀ b o,X.base.get? b=some o->s.heap.get? b=some o:=fun b o e=>(I.bs b o e).1
theorem Inv.mod (I:Inv X pins σ H s):Mod X.K X.mg X.base:=I.ok.mod
theorem Inv.kIn (I:Inv X pins σ H s):X.K.In s.heap:=I.ok.mod.kin.keeps I.bk
theorem Inv.lt (I:Inv X pins σ H s):X.env.locals < s.heap.objs.size:=let ⟨_,hn,_⟩:=I.loc;hn.lt
theorem Inv.sz (I:Inv X pins σ H s):X.s₀.heap.objs.size<=s.heap.objs.size:=Ab I.ok.above (Br I.lt)
theorem Inv.nofs (I:Inv X pins σ H s) {a:Addr} (h:s.heap.objs.size<=a):a ∉ X.fs:=fun hb=>by
 obtain⟨_,o,ho,_⟩:=I.ok.funs.mem hb
 exact absurd (Am (AN ho) (Ab I.sz h)) (A6 _)
theorem Inv.cne (I:Inv X pins σ H s):∀ x c,X.env.cells.lookup x=some c->c ≠ X.env.locals:=fun x c e z=>by
 obtain⟨v,o,ho,hd⟩:=I.cell x c e
 obtain⟨m,⟨o',es,ep,ho',hd',_⟩,_⟩:=I.loc
 rw[z,ho'] at ho;cases ho;rw[hd'] at hd;cases hd
theorem Inv.funs (I:Inv X pins σ H s):s.heap.FunFrames X.base X.outer:=by
 have all:∀ (l:List Env),(∀ b ∈ frs l,b ∈ X.fs)->X.s₀.heap.FunFrames X.base l->s.heap.FunFrames X.base l:=by
  intro l
  induction l with
  | nil=>intro _ _;trivial
  | cons env r ih=>
   intro hs hl
   obtain⟨hk,⟨L,o,hf,hn,ho,hd⟩,hr⟩:=hl
   have hL:L ∈ X.fs:=hs L (by unfold frs;rw[List.filterMap_cons,hf];exact AW)
   obtain⟨sl,e⟩:=I.base.slot L o ho (I.ok.frf L hL) hL fun z=>I.ok.exfs L z hL
   exact⟨hk,⟨L,_,hf,hn,e,hd⟩,ih (fun b hb=>hs b (by unfold frs;rw[List.filterMap_cons,hf];exact AY _ hb)) hr⟩
 exact all X.outer (fun _ hb=>hb) I.ok.funs
theorem Inv.stack (I:Inv X pins σ H s):s.heap.FunFrames X.base X.stack:=by
 rcases I.ok.stk with e | ⟨e,hf⟩
 ·rw[e];exact I.funs
 ·rw[e]
  obtain⟨m,hn,_⟩:=I.loc
  refine .cons (by rw[I.ok.kind];decide) hf hn ?_ I.funs
  exact DQ (Ab I.ok.bsz I.ok.above)
theorem Inv.stkSub (I:Inv X pins σ H s):∀ b ∈ frs X.stack,b ∈ X.env.locals :: X.fs:=fun b hb=>by
 rcases I.ok.stk with e | ⟨e,hf⟩
 ·rw[e] at hb;exact AY _ hb
 ·rw[e] at hb
  unfold frs at hb
  rw[Cq,hf] at hb
  exact hb
theorem Inv.stkFree (I:Inv X pins σ H s):∀ b ∈ frs X.stack,H b=none:=fun b hb=>by
 rcases AV.mp (I.stkSub b hb) with e | hb
 ·rw[e];exact I.free
 ·obtain⟨_,o,ho,_⟩:=I.ok.funs.mem hb
  exact I.base.free b o ho (I.ok.frf b hb) fun z=>I.ok.exfs b z hb
theorem Inv.step {g':Array GenState} {t':Nat} {d':Drawn} {ch:List Addr} (I:Inv X pins σ H s)
  (hch:∀ b ∈ ch,(b ∈ X.ex\/X.s₀.heap.objs.size<=b)/\b ≠ X.env.locals/\(∀ x c,X.env.cells.lookup x=some c->c ≠ b)/\∀ p ∈ X.pn++pins,p.1 ≠ b)
  (keep:∀ b o,b ≠ X.env.locals->b ∉ X.fs->b ∉ ch->s.heap.get? b=some o->H b=none->h'.get? b=some o)
  (slot:∀ b o,b ≠ X.env.locals->b ∈ X.fs->b ∉ ch->s.heap.get? b=some o->H b=none->∃ sl,h'.get? b=some { o with slots:=sl }) (free:∀ b o,b ∉ ch->s.heap.get? b=some o->H b=none->H' b=none)
  (there:∀ b o,b ∉ ch->s.heap.get? b=some o->∃ o',h'.get? b=some o')
  (tups:∀ b xs,H b=some (.tup xs)->H' b=some (.tup xs)) (frzs:∀ b o u,H b=some (.frz o u)->H' b=some (.frz o u)) (tbls:∀ b ps,H b=some (.tbl ps)->∃ more,H' b=some (.tbl (ps++more)))
  (ns:∀ m,s.heap.Ns X.env.locals m->h'.Ns X.env.locals m) (hok:HOk X.prog X.w H' h') (hg:AllBare g') :
  Inv X pins σ H' { s with heap:=h',gens:=g',drawn:=d',toks:=t' }:=by
 have neL:∀ b o,X.s₀.heap.get? b=some o->b ≠ X.env.locals:=fun b o e=>AR (Am (AN e) I.ok.above)
 have neC:∀ b o,X.s₀.heap.get? b=some o->b ∉ X.ex->b ∉ ch:=fun b o e hx hb=>by
  rcases (hch b hb).1 with z | z
  ·exact hx z
  ·exact absurd (Am (AN e) z) (A6 _)
 have cellK:∀ x c,X.env.cells.lookup x=some c->∀ v,s.heap.IsCell c v->h'.IsCell c v:=fun x c e v ⟨o,ho,hd⟩=>by
  have nch:c ∉ ch:=fun z=>(hch c z).2.2.1 x c e rfl
  by_cases hc:c ∈ X.fs
  ·obtain⟨sl,q⟩:=slot c o (I.cne x c e) hc nch ho (I.freeC x c e)
   exact⟨_,q,hd⟩
  ·exact⟨o,keep c o (I.cne x c e) hc nch ho (I.freeC x c e),hd⟩
 refine⟨I.ok,I.os,hg,⟨fun b o e n hb hx=>?_,fun b o e n hb hx=>?_,fun b o e n hx=>?_,fun b o e hx=>?_,fun b xs e=>tups b xs (I.base.tups b xs e),fun b o xs e=>frzs b o xs (I.base.frzs b o xs e),fun b ps e=>?_⟩,?_,fun x c e=>?_,?_,fun x c e=>?_,fun p hp=>?_,hok,I.len⟩
 ·exact keep b o (neL b o e) hb (neC b o e hx) (I.base.keep b o e n hb hx) (I.base.free b o e n hx)
 ·obtain⟨sl,e1⟩:=I.base.slot b o e n hb hx
  obtain⟨sl',e2⟩:=slot b _ (neL b o e) hb (neC b o e hx) e1 (I.base.free b o e n hx)
  exact⟨sl',e2⟩
 ·obtain⟨o',e1⟩:=I.base.there b o e hx
  exact free b o' (neC b o e hx) e1 (I.base.free b o e n hx)
 ·obtain⟨o',e1⟩:=I.base.there b o e hx
  exact there b o' (neC b o e hx) e1
 ·obtain⟨m1,e1⟩:=I.base.tbls b ps e
  obtain⟨m2,e2⟩:=tbls b _ e1
  exact⟨m1++m2,by rw[e2,Array.append_assoc]⟩
 ·obtain⟨m,hn,hl⟩:=I.loc
  refine⟨m,ns m hn,fun i x v e1 e2 e3=>?_⟩
  obtain⟨u,r,l⟩:=hl i x v e1 e2 e3
  refine⟨u,r,?_⟩
  rcases l with l | ⟨k,c,e,z⟩
  ·exact .inl l
  ·exact .inr ⟨k,c,e,cellK x c e _ z⟩
 ·obtain⟨v,z⟩:=I.cell x c e
  exact⟨v,cellK x c e v z⟩
 ·obtain⟨m,⟨o,_,_,ho,_⟩,_⟩:=I.loc
  exact free _ o (fun z=>(hch _ z).2.1 rfl) ho I.free
 ·obtain⟨v,o,ho,hd⟩:=I.cell x c e
  exact free c o (fun z=>(hch c z).2.2.1 x c e rfl) ho (I.freeC x c e)
 ·obtain⟨e,n,ne,nf,d⟩:=I.pin p hp
  have nch:p.1 ∉ ch:=fun z=>(hch p.1 z).2.2.2 p hp rfl
  exact⟨keep p.1 p.2 ne nf nch e n,free p.1 p.2 nch e n,ne,nf,d⟩
theorem Inv.un {t':Nat} (I:Inv X pins σ H s) (u:Un X.fs [] H H' s.heap h') (hok:HOk X.prog X.w H' h'):Inv X pins σ H' { s with heap:=h',toks:=t' }:=by
 obtain⟨m,⟨o,es,ep,ho,r⟩,_⟩:=id I.loc
 obtain⟨sl,hL⟩:=u.any ho I.free (by simp)
 exact I.step (g':=s.gens) (d':=s.drawn) (ch:=[]) (fun _ z=>nomatch z) (fun b o _ hb _ e n=>u.keep b o e n hb (by simp)) (fun b o _ hb _ e n=>u.slot b o e n hb (by simp)) (fun b o _ e n=>u.free b o e n (by simp)) (fun b o _ e=>u.there b o e (by simp)) u.tups u.frzs u.tbls (fun m' hm=>by
  obtain⟨o',es',ep',ho',r'⟩:=hm
  rw[ho] at ho';cases ho'
  exact⟨_,es',ep',hL,r'⟩) hok I.bare
theorem Inv.call {g':Array GenState} {t':Nat} {d':Drawn} {ch:List Addr} (I:Inv X pins σ H s) (u:Un (frs X.stack) ch H H' s.heap h') (hok:HOk X.prog X.w H' h') (hg:AllBare g')
  (hch:∀ b ∈ ch,(b ∈ X.ex\/X.s₀.heap.objs.size<=b)/\b ≠ X.env.locals/\(∀ x c,X.env.cells.lookup x=some c->c ≠ b)/\∀ p ∈ X.pn++pins,p.1 ≠ b) :
  Inv X pins σ H' { s with heap:=h',gens:=g',drawn:=d',toks:=t' }:=by
 obtain⟨m,⟨o,es,ep,ho,r⟩,_⟩:=id I.loc
 obtain⟨sl,hL⟩:=u.any ho I.free fun z=>(hch _ z).2.1 rfl
 exact I.step (ch:=ch) hch (fun b o hL hb hc e n=>u.keep b o e n (fun z=>(AV.mp (I.stkSub b z)).elim hL hb) hc) (fun b o _ _ hc e n=>u.any e n hc) (fun b o hc e n=>u.free b o e n hc) (fun b o hc e=>u.there b o e hc) u.tups u.frzs u.tbls (fun m' hm=>by
  obtain⟨o',es',ep',ho',r'⟩:=hm
  rw[ho] at ho';cases ho'
  exact⟨_,es',ep',hL,r'⟩) hok hg
theorem Inv.turned {t':Nat} {it:Addr} (I:Inv X pins σ H s) (k:∀ b o,b ≠ it->s.heap.get? b=some o->h'.get? b=some o) (hn:H it=none) (hL:it ≠ X.env.locals)
  (h1:it ∈ X.ex\/X.s₀.heap.objs.size<=it) (h2:∀ x c,X.env.cells.lookup x=some c->c ≠ it) (h3:∀ p ∈ X.pn++pins,p.1 ≠ it):Inv X pins σ H { s with heap:=h',toks:=t' }:=by
 have nit:∀ b u,H b=some u->b ≠ it:=fun b u e z=>by rw[z,hn] at e;cases e
 refine I.step (g':=s.gens) (d':=s.drawn) (ch:=[it]) (fun b hb=>?_) (fun b o _ _ hc e _=>k b o (fun z=>hc (by simp[z])) e) (fun b o _ _ hc e _=>⟨o.slots,k b o (fun z=>hc (by simp[z])) e⟩) (fun _ _ _ _ n=>n)
  (fun b o hc e=>⟨o,k b o (fun z=>hc (by simp[z])) e⟩) (fun _ _ e=>e) (fun _ _ _ e=>e) (fun b ps e=>⟨#[],by rw[e];simp⟩) (fun m hm=>?_) (fun b u e=>?_) I.bare
 ·have e:b=it:=by simpa using hb
  subst e
  exact⟨h1,hL,h2,h3⟩
 ·obtain⟨o,es,ep,ho,r⟩:=hm
  exact⟨o,es,ep,k _ o (BD hL) ho,r⟩
 ·refine (I.hok b u e).stay (fun c v hc q=>k c v ?_ q) (fun _ q=>q) fun _ _ q=>q
  rcases hc with z | z
  ·rw[z];exact nit b u e
  ·exact nit c _ z
theorem Inv.tok (I:Inv X pins σ H s) (t:Nat):Inv X pins σ H { s with toks:=t }:=I.un (h':=s.heap) (t':=t) Un.refl I.hok
theorem Inv.kept {t':Nat} (I:Inv X pins σ H s) (k:∀ b u,s.heap.get? b=some u->h'.get? b=some u):Inv X pins σ H { s with heap:=h',toks:=t' }:=I.un (Un.kept k) (I.hok.kept k)
theorem Inv.laid {a:Addr} {o:HO} {t':Nat} (I:Inv X pins σ H s) (k:∀ b u,s.heap.get? b=some u->h'.get? b=some u) (hp:s.heap.objs.size<=a) (new:qI X.prog X.w (upd H a o) h' a o) :
  Inv X pins σ (upd H a o) { s with heap:=h',toks:=t' }:=I.un (Un.laid k hp (I.hok.fresh hp)) (I.hok.laid k hp new)
theorem Inv.write {x e:Addr} {o:HO} {t':Nat} (I:Inv X pins σ H s) (mu:Mut (H x)) (he:e=x\/H e=some (.own x)) (k:∀ b u,b ≠ e->s.heap.get? b=some u->h'.get? b=some u) (heo:∃ u,h'.get? e=some u)
  (new:qI X.prog X.w (upd H x o) h' x o):Inv X pins σ (upd H x o) { s with heap:=h',toks:=t' }:=I.un (Un.write mu he k heo) (I.hok.write mu he k heo new)
theorem Inv.pins_of {pins':List (Addr×Obj)} (I:Inv X pins σ H s) (h:∀ p ∈ pins',s.heap.get? p.1=some p.2/\H p.1=none/\p.1 ≠ X.env.locals/\p.1 ∉ X.fs/\∀ v,p.2.data ≠ .cell v):Inv X pins' σ H s:=
 ⟨I.ok,I.os,I.bare,I.base,I.loc,I.cell,I.free,I.freeC,fun p hp=>(AQ.mp hp).elim (fun z=>I.pin p (Ah _ z)) (h p),I.hok,I.len⟩
theorem Yt {N:List Str} (hN:N.Nodup) {i j:Nat} {x:Str} (a:N[i]? = some x) (b:N[j]? = some x):i=j:=by
 obtain⟨h1,e1⟩:=AC.mp a
 obtain⟨h2,e2⟩:=AC.mp b
 exact (List.getElem_inj hN).mp (e1.trans e2.symm)
theorem WU {M:Model} {A:Around} {E:Value->Shared->Prop} {i:Nat} {x:Str} {v:V} {u:Value} {Q:Unit->Shared->Prop} (I:Inv X pins σ H s) (hN:X.N.Nodup) (hi:X.N[i]? = some x) (hx:Loc X.env.scope x) (r:RelV v u)
  (h:∀ s',Inv X pins (σ.set i (some v)) H s'->(∃ a,Heap.SameBut a s.heap s'.heap/\(a=X.env.locals\/X.env.cells.lookup x=some a))->Q () s') (hf:X.fn x=true\/X.env.scope.names.lookup x=some .local:=by first | exact .inl rfl | exact .inr rfl | assumption):wpAny M A (storeName X.env x u) Q E s:=by
 obtain⟨m,hn,hl⟩:=id I.loc
 have hcls:(X.env.scope.kind == .class || (X.env.scope.kind == .module && X.env.locals != X.env.globals))=false:=by rw[I.ok.kind];rfl
 have hiσ:i < σ.length:=by rw[I.len];exact (AC.mp hi).1
 have cne:=I.cne
 have tracked:∀ {a:Addr} {h':Heap},(∃ o,s.heap.get? a=some o/\H a=none)->Heap.SameBut a s.heap h'->HOk X.prog X.w H h':=fun {a h'} ha hs b ob e=>by
  obtain⟨_,_,hfree⟩:=ha
  refine (I.hok b ob e).stay (fun c w' hc q=>(hs.2 c ?_).trans q) (fun _ q=>q) fun _ _ q=>q
  rintro rfl
  rcases hc with rfl | hc
  ·rw[hfree] at e;cases e
  ·rw[hfree] at hc;cases hc
 rcases hx with hk | hk
 ·refine wpAny_storeName_local hk hn (fun h' hn' hs=>?_) hcls
  obtain⟨oL,_,_,hoL,_⟩:=id hn
  refine h _ ⟨I.ok,I.os,I.bare,⟨fun b o e n hb hx=>?_,fun b o e n hb hx=>?_,I.base.free,fun b o e hx=>?_,I.base.tups,I.base.frzs,I.base.tbls⟩,⟨_,hn',fun j y v' e1 e2 e3=>?_⟩,fun y c e=>?_,I.free,I.freeC,fun p hp=>?_,tracked ⟨oL,hoL,I.free⟩ hs,by simpa using I.len⟩ ⟨_,hs,.inl rfl⟩
  ·exact (hs.2 b (AR (Am (AN e) I.ok.above))).trans (I.base.keep b o e n hb hx)
  ·obtain⟨sl,e1⟩:=I.base.slot b o e n hb hx
   exact⟨sl,(hs.2 b (AR (Am (AN e) I.ok.above))).trans e1⟩
  ·obtain⟨o',e1⟩:=I.base.there b o e hx
   exact⟨o',(hs.2 b (AR (Am (AN e) I.ok.above))).trans e1⟩
  ·by_cases hj:j=i
   ·subst hj
    rw[hi] at e1;cases e1
    rw[List.getElem?_set_self hiσ] at e2
    cases e2
    exact⟨u,r,.inl ⟨hk,by simp⟩⟩
   ·rw[List.getElem?_set_ne (BD hj)] at e2
    obtain⟨u',r',q⟩:=hl j y v' e1 e2 e3
    refine⟨u',r',?_⟩
    rcases q with ⟨k,e⟩ | ⟨k,c,e,z⟩
    ·refine .inl ⟨k,?_⟩
     have:y ≠ x:=fun e=>hj (Yt hN e1 (e ▸ hi))
     simp[this,e]
    ·exact .inr ⟨k,c,e,z.sameBut hs (cne y c e)⟩
  ·obtain⟨w',z⟩:=I.cell y c e
   exact⟨w',z.sameBut hs (cne y c e)⟩
  ·obtain⟨e,n,ne,nf,d⟩:=I.pin p hp
   exact⟨(hs.2 p.1 ne).trans e,n,ne,nf,d⟩
 ·have hfn:X.fn x=true:=by
   rcases hf with z | z
   ·exact z
   ·rw[z] at hk;cases hk
  obtain⟨c,hc⟩:=I.ok.has x (.inl hk)
  obtain⟨w',z⟩:=I.cell x c hc
  refine wpAny_storeName_cell I.ok.kind hk hc z (fun h' hc' hs=>?_)
  obtain⟨oc,hoc,hocd⟩:=id z
  refine h { s with heap:=h' } ⟨I.ok,I.os,I.bare,⟨fun b o e n hb hx=>?_,fun b o e n hb hx=>?_,I.base.free,fun b o e hx=>?_,I.base.tups,I.base.frzs,I.base.tbls⟩,⟨m,hn.sameBut hs (BD (cne x c hc)),fun j y v' e1 e2 e3=>?_⟩,fun y c' e=>?_,I.free,I.freeC,fun p hp=>?_,tracked ⟨oc,hoc,I.freeC x c hc⟩ hs,by simpa using I.len⟩ ⟨c,hs,.inr hc⟩
  ·exact (hs.2 b (AR (Am (AN e) (I.ok.cab x c hfn hc)))).trans (I.base.keep b o e n hb hx)
  ·obtain⟨sl,e1⟩:=I.base.slot b o e n hb hx
   exact⟨sl,(hs.2 b (AR (Am (AN e) (I.ok.cab x c hfn hc)))).trans e1⟩
  ·obtain⟨o',e1⟩:=I.base.there b o e hx
   exact⟨o',(hs.2 b (AR (Am (AN e) (I.ok.cab x c hfn hc)))).trans e1⟩
  ·by_cases hj:j=i
   ·subst hj
    rw[hi] at e1;cases e1
    rw[List.getElem?_set_self hiσ] at e2
    cases e2
    exact⟨u,r,.inr ⟨.inl hk,c,hc,hc'⟩⟩
   ·rw[List.getElem?_set_ne (BD hj)] at e2
    obtain⟨u',r',q⟩:=hl j y v' e1 e2 e3
    refine⟨u',r',?_⟩
    rcases q with q | ⟨k,c',e,z'⟩
    ·exact .inl q
    ·refine .inr ⟨k,c',e,z'.sameBut hs ?_⟩
     rintro rfl
     exact hj (Yt hN e1 (I.ok.inj _ _ _ e hc ▸ hi))
  ·by_cases hcc:c'=c
   ·subst hcc;exact⟨_,hc'⟩
   ·obtain⟨w2,z2⟩:=I.cell y c' e
    exact⟨w2,z2.sameBut hs hcc⟩
  ·obtain⟨e,n,ne,nf,d⟩:=I.pin p hp
   refine⟨(hs.2 p.1 ?_).trans e,n,ne,nf,d⟩
   intro q
   rw[q,hoc] at e
   have q':oc=p.2:=Ad e
   exact d w' (by rw[<- q'];exact hocd)
theorem Ja {M:Model} {A:Around} {E:Value->Shared->Prop} {i:Nat} {x:Str} {v:V} {u:Value} {Q:Unit->Shared->Prop} (I:Inv X pins σ H s) (hN:X.N.Nodup) (hi:X.N[i]? = some x) (hx:Loc X.env.scope x) (r:RelV v u)
  (h:∀ s',Inv X pins (σ.set i (some v)) H s'->Q () s') (hf:X.fn x=true\/X.env.scope.names.lookup x=some .local:=by first | exact .inl rfl | exact .inr rfl | assumption):wpAny M A (storeName X.env x u) Q E s:=
 WU I hN hi hx r (fun s' I' _=>h s' I') hf
theorem Inv.call' {s':Shared} {ch:List Addr} (I:Inv X pins σ H s) (ho:s'.os=s.os) (u:Un (frs X.stack) ch H H' s.heap s'.heap) (hok:HOk X.prog X.w H' s'.heap) (hg:AllBare s'.gens)
  (hch:∀ b ∈ ch,(b ∈ X.ex\/X.s₀.heap.objs.size<=b)/\b ≠ X.env.locals/\(∀ x c,X.env.cells.lookup x=some c->c ≠ b)/\∀ p ∈ X.pn++pins,p.1 ≠ b):Inv X pins σ H' s':=by
 obtain⟨h',g',d',t',o'⟩:=s'
 have e:o'=s.os:=ho
 subst e
 exact I.call (g':=g') (t':=t') (d':=d') u hok hg hch
end
abbrev XK:=Value->Option Addr->Hp->Prop
abbrev St:=List (Option V)
abbrev VK:=V->Hp->Prop
abbrev TE:=St->Hp->VK->Prop
abbrev TT:=St->Hp->(Bool->Hp->Prop)->Prop
abbrev TA:=St->Hp->(List V->Hp->Prop)->Prop
structure xZ where
 nx:St->Hp->Prop
 rt:VK
 bk:St->Hp->Prop:=fun _ _=>False
 ct:St->Hp->Prop:=fun _ _=>False
abbrev TS:=xZ->St->Hp->Prop
def EP (X:Cx) (pins:List (Addr×Obj)) (σ:St) (Q:VK) (u:Value) (s':Shared):Prop:=∃ v H',Inv X pins σ H' s'/\RelV v u/\Q v H'
def TP (X:Cx) (pins:List (Addr×Obj)) (σ:St) (Q:Bool->Hp->Prop) (b:Bool) (s':Shared):Prop:=∃ H',Inv X pins σ H' s'/\Q b H'
def AP (X:Cx) (pins:List (Addr×Obj)) (σ:St) (Q:List V->Hp->Prop) (us:List Value) (s':Shared):Prop:=∃ vs H',Inv X pins σ H' s'/\qA vs us/\Q vs H'
def SP (X:Cx) (pins:List (Addr×Obj)) (D:xZ) (f:Flow) (s':Shared):Prop:=
 match f with
 | .next=>∃ σ' H',Inv X pins σ' H' s'/\D.nx σ' H'
 | .brk=>∃ σ' H',Inv X pins σ' H' s'/\D.bk σ' H'
 | .cont=>∃ σ' H',Inv X pins σ' H' s'/\D.ct σ' H'
 | .ret u=>∃ v σ' H',Inv X pins σ' H' s'/\RelV v u/\D.rt v H'
def PE (X:Cx) (e:Expr) (t:TE):Prop:=
 ∀ (pins:List (Addr×Obj)) (s:Shared) (σ:St) (H:Hp) (Q:VK),Inv X pins σ H s->t σ H Q->wpAny (model X.prog X.w) X.A (eval e X.env) (EP X pins σ Q) X.xe s
def PT (X:Cx) (e:Expr) (t:TT):Prop:=
 ∀ (pins:List (Addr×Obj)) (s:Shared) (σ:St) (H:Hp) (Q:Bool->Hp->Prop),Inv X pins σ H s->t σ H Q->wpAny (model X.prog X.w) X.A (isTrue e X.env (eval e X.env)) (TP X pins σ Q) X.xe s
def PW (X:Cx) (e:Expr) (t:TT):Prop:=
 ∀ (whole:Sem Value) (pins:List (Addr×Obj)) (s:Shared) (σ:St) (H:Hp) (Q:Bool->Hp->Prop),Inv X pins σ H s->t σ H Q->wpAny (model X.prog X.w) X.A (isTrue e X.env whole) (TP X pins σ Q) X.xe s
theorem PW.pt {X:Cx} {e:Expr} {t:TT} (h:PW X e t):PT X e t:=h _
def PA (X:Cx) (es:List Expr) (t:TA):Prop:=
 ∀ (pos:Pos) (pins:List (Addr×Obj)) (s:Shared) (σ:St) (H:Hp) (Q:List V->Hp->Prop),Inv X pins σ H s->t σ H Q->wpAny (model X.prog X.w) X.A (spliced (backTo pos (starEach es X.env))) (AP X pins σ Q) X.xe s
def PS (X:Cx) (st:Stmt) (t:TS):Prop:=
 ∀ (pins:List (Addr×Obj)) (s:Shared) (σ:St) (H:Hp) (D:xZ),Inv X pins σ H s->t D σ H->wpAny (model X.prog X.w) X.A (exec st X.env) (SP X pins D) X.xe s
def PSs (X:Cx) (st:List Stmt) (t:TS):Prop:=
 ∀ (pins:List (Addr×Obj)) (s:Shared) (σ:St) (H:Hp) (D:xZ),Inv X pins σ H s->t D σ H->wpAny (model X.prog X.w) X.A (execs st X.env) (SP X pins D) X.xe s
theorem thn {α:Type} {t:Sem α} {Q Q':α->Shared->Prop} {M:Model} {A:Around} {E:Value->Shared->Prop} {s:Shared} (h:wpAny M A t Q E s) (hQ:∀ a s,Q a s->Q' a s):wpAny M A t Q' E s:=C6 h hQ fun _ _ x=>x
section
variable {X : Cx}
def tVar (i:Nat):TE:=fun σ H Q=>∃ v,σ[i]? = some (some v)/\Q v H
def tC (v:V):TE:=fun _ H Q=>Q v H
theorem pe_var {i:Nat} {x:Str} {pos:Pos} (hN:X.N[i]? = some x) (hv:Vis X.env.scope x) (hd:(x == ("__debug__" : Str))=false:=by decide) (hcd:(x == ("__classdict__" : Str))=false:=by decide):PE X (.Name x pos) (tVar i):=by
 intro pins s σ H Q I h
 obtain⟨v,e,h⟩:=h
 obtain⟨m,hn,hl⟩:=I.loc
 obtain⟨u,r,l⟩:=hl i x v hN e hv
 have fin:EP X pins σ Q u s:=⟨v,H,I,r,h⟩
 rcases l with ⟨hk,hm⟩ | ⟨hk,c,hc,hcell⟩
 ·exact wpAny_Name (wpAny_loadName_local I.ok.kind hk hn hm fin) hd
 ·rcases hk with hk | hk
  ·exact wpAny_Name (wpAny_loadName_cell I.ok.kind hk hc hcell fin) hd
  ·exact wpAny_Name (wpAny_loadName_free I.ok.kind hk hc hcell fin hcd) hd
theorem zi {i j pos}:PE X (.Constant (.int i) j pos) (tC (.int i)):=fun _ _ _ H _ I h=>wpAny_Constant_int ⟨.int i,H,I.tok _,⟨_,rfl⟩,h⟩
theorem Jh {b j pos}:PE X (.Constant (.bool b) j pos) (tC (.bl b)):=fun _ _ _ H _ I h=>Constant_bool ⟨.bl b,H,I,rfl,h⟩
theorem wC {j pos}:PE X (.Constant .none j pos) (tC .non):=fun _ _ _ H _ I h=>Constant_none ⟨.non,H,I,rfl,h⟩
theorem jP {x j pos}:PE X (.Constant (.str x) j pos) (tC (.str x)):=fun _ _ _ H _ I h=>Calls.Constant_str ⟨.str x,H,I.tok _,⟨_,rfl⟩,h⟩
def Gl (X:Cx) (x:Str):Prop:=X.env.kindOf x=some .globalImplicit
theorem ld_glob {E:Value->Shared->Prop} {pins:List (Addr×Obj)} {s:Shared} {σ:St} {H:Hp} {x:Str} {u:Value} {pos:Pos} {Q:Value->Shared->Prop} (I:Inv X pins σ H s) (hg:Gl X x) (hm:X.mg x=some u) (h:Q u s)
  (hd:(x == ("__debug__" : Str))=false:=by decide):wpAny (model X.prog X.w) X.A (eval (.Name x pos) X.env) Q E s:=
 Calls.Name_function_global I.ok.kind hg (Calls.loadGlobal_global (by rw[I.ok.glob];exact I.mod.glob.keeps I.bk) hm h) hd
theorem Zo {E:Value->Shared->Prop} {pins:List (Addr×Obj)} {s:Shared} {σ:St} {H:Hp} {x:Str} {u:Value} {pos:Pos} {Q:Value->Shared->Prop} (I:Inv X pins σ H s) (hg:Gl X x) (hm:X.mg x=none) (hv:bootBuiltins x=some u) (h:Q u s)
  (hn:x ≠ "__name__":=by decide) (hd:(x == ("__debug__" : Str))=false:=by decide):wpAny (model X.prog X.w) X.A (eval (.Name x pos) X.env) Q E s:=by
 obtain⟨mb,h1,h2⟩:=I.mod.blt
 exact Calls.Name_function_global I.ok.kind hg (Calls.loadGlobal_builtin (by rw[I.ok.glob];exact I.mod.glob.keeps I.bk) hm (by rw[I.ok.blt];exact h1.keeps I.bk) ((h2 x hn).trans hv) h) hd
theorem w8 {x:Str} {v:V} {u:Value} {pos:Pos} (hg:Gl X x) (hm:X.mg x=none) (hv:bootBuiltins x=some u) (r:RelV v u) (hn:x ≠ "__name__":=by decide) (hd:(x == ("__debug__" : Str))=false:=by decide):PE X (.Name x pos) (tC v):=
 fun _ _ _ H _ I h=>Zo I hg hm hv ⟨v,H,I,r,h⟩ hn hd
variable {a b : Expr} {ta tb : TE} {pos : Pos}
def tB (t:TE):TT:=fun σ H Q=>t σ H fun x H1=>∃ c,x=.bl c/\Q c H1
theorem Zp {e:Expr} {t:TE} (h:PE X e t) (he:∀ whole,isTrue e X.env whole=(do let v <- whole;standAt e.pos;holding [v] (truthy v)):=by intro _;rfl):PT X e (tB t):=by
 intro pins s σ H Q I hw
 refine isTrue_plain (thn (h pins s σ H _ I hw) fun v s1 ⟨x,H1,I1,r1,q1⟩=>?_) (he _)
 obtain⟨d,rfl,q⟩:=q1
 cases r1
 exact CJ ⟨H1,I1,q⟩
variable {tA tB' : TT} {rest : List Expr}
def tAnd (t u:TT):TT:=fun σ H Q=>t σ H fun c H1=>if c=true then u σ H1 Q else Q false H1
def tOr (t u:TT):TT:=fun σ H Q=>t σ H fun c H1=>if c=true then Q true H1 else u σ H1 Q
def tNot (t:TT):TT:=fun σ H Q=>t σ H fun c H1=>Q (!c) H1
theorem yO (ha:PT X a tA):PW X (.BoolOp .And [a] pos) tA:=by
 intro wh pins s σ H Q I h
 refine isTrue_and (thn (ha pins s σ H Q I h) fun c s1 e=>?_)
 cases c with
 | true=>exact isTrue_and_nil e
 | false=>exact e
theorem Xa (ha:PT X a tA):PW X (.BoolOp .Or [a] pos) tA:=by
 intro wh pins s σ H Q I h
 refine isTrue_or (thn (ha pins s σ H Q I h) fun c s1 e=>?_)
 cases c with
 | false=>exact isTrue_or_nil e
 | true=>exact e
theorem Xb (ha:PT X a tA) (hb:PW X (.BoolOp .And (b :: rest) pos) tB'):PW X (.BoolOp .And (a :: b :: rest) pos) (tAnd tA tB'):=by
 intro wh pins s σ H Q I h
 refine isTrue_and (thn (ha pins s σ H _ I h) fun c s1 ⟨H1,I1,q1⟩=>?_)
 cases c with
 | true=>exact hb wh pins s1 σ H1 Q I1 q1
 | false=>exact⟨H1,I1,q1⟩
theorem pw_or (ha:PT X a tA) (hb:PW X (.BoolOp .Or (b :: rest) pos) tB'):PW X (.BoolOp .Or (a :: b :: rest) pos) (tOr tA tB'):=by
 intro wh pins s σ H Q I h
 refine isTrue_or (thn (ha pins s σ H _ I h) fun c s1 ⟨H1,I1,q1⟩=>?_)
 cases c with
 | true=>exact⟨H1,I1,q1⟩
 | false=>exact hb wh pins s1 σ H1 Q I1 q1
theorem wD (ha:PT X a tA):PT X (.UnaryOp .Not a pos) (tNot tA):=by
 intro pins s σ H Q I h
 exact isTrue_not (ha pins s σ H (fun c H1=>Q (!c) H1) I h)
def tAndV (ta tb:TE):TE:=fun σ H Q=>ta σ H fun x H1=>∃ c,x=.bl c/\if c=true then tb σ H1 Q else Q (.bl false) H1
def tNotV (ta:TE):TE:=fun σ H Q=>ta σ H fun x H1=>∃ c,x=.bl c/\Q (.bl (!c)) H1
theorem pe_one {op} {t:TE} (h:PE X a t):PE X (.BoolOp op [a] pos) t:=fun pins s σ H Q I hw=>BoolOp_one (h pins s σ H Q I hw)
theorem pe_and (ha:PE X a ta) (hb:PE X (.BoolOp .And (b :: rest) pos) tb):PE X (.BoolOp .And (a :: b :: rest) pos) (tAndV ta tb):=by
 intro pins s σ H Q I h
 refine BoolOp_and (thn (ha pins s σ H _ I h) fun v s1 ⟨x,H1,I1,r1,q1⟩=>?_)
 obtain⟨c,rfl,q1⟩:=q1
 cases r1
 refine CJ ?_
 cases c with
 | true=>exact hb pins s1 σ H1 Q I1 q1
 | false=>exact⟨.bl false,H1,I1,rfl,q1⟩
theorem pe_not (ha:PE X a ta):PE X (.UnaryOp .Not a pos) (tNotV ta):=by
 intro pins s σ H Q I h
 refine UnaryOp_ (thn (ha pins s σ H _ I h) fun v s1 ⟨x,H1,I1,r1,q1⟩=>?_)
 obtain⟨c,rfl,q1⟩:=q1
 cases r1
 exact not_of (CJ ⟨.bl (!c),H1,I1,rfl,q1⟩)
def tIf (t:TT) (ta tb:TE):TE:=fun σ H Q=>t σ H fun c H1=>if c=true then ta σ H1 Q else tb σ H1 Q
theorem Yu {c:Expr} (hc:PT X c tA) (ha:PE X a ta) (hb:PE X b tb):PE X (.IfExp c a b pos) (tIf tA ta tb):=by
 intro pins s σ H Q I h
 refine wpAny_IfExp (thn (hc pins s σ H _ I h) fun d s1 ⟨H1,I1,q1⟩=>?_)
 cases d with
 | true=>exact ha pins s1 σ H1 Q I1 q1
 | false=>exact hb pins s1 σ H1 Q I1 q1
end
def SqL (K:PySem.W.Frag) (H:Hp) (a:Addr) (xs:List V):Prop:=
 Rd H a (.lst xs) \/
  ∃ (o:Obj) (its:Array Value) (n:Nat),K.lookup a=some o/\o.cls=.type "list" /\ o.dict=none/\o.data=.seq its n/\its.size<=sizeLine/\qA xs its.toList
def SqT (K:PySem.W.Frag) (H:Hp) (a:Addr) (xs:List V):Prop:=
 Rd H a (.tup xs) \/
  ∃ (o:Obj) (its:Array Value) (n:Nat),K.lookup a=some o/\o.cls=.type "tuple" /\ o.data=.seq its n/\its.size<=sizeLine/\qA xs its.toList
def absV:Value->Option V
 | .none=>some .non
 | .bool b=>some (.bl b)
 | .int i _=>some (.int i)
 | .str x _=>some (.str x)
 | .bytes b _=>some (.byt b)
 | .float b _=>some (.flt b)
 | .ref a=>some (.ref a)
 | .type n=>some (.ty n)
 | _=>none
theorem RelV.abs {x:V} {u:Value} (r:RelV x u):absV u=some x:=by
 cases x with
 | non=>cases r;rfl
 | bl _=>cases r;rfl
 | int _=>obtain⟨t,rfl⟩:=r;rfl
 | str _=>obtain⟨t,rfl⟩:=r;rfl
 | byt _=>obtain⟨t,rfl⟩:=r;rfl
 | flt _=>obtain⟨t,rfl⟩:=r;rfl
 | ref _=>cases r;rfl
 | ty _=>cases r;rfl
theorem RelV.inj {x y:V} {u:Value} (r:RelV x u) (q:RelV y u):x=y:=Ad (r.abs.symm.trans q.abs)
theorem qA.inj:∀ {xs ys:List V} {us:List Value},qA xs us->qA ys us->xs=ys
 | _,_,_,.nil,.nil=>rfl
 | _,_,_,.cons r t,.cons r' t'=>by rw[r.inj r',qA.inj t t']
section
variable {X : Cx} {pins : List (Addr × Obj)} {σ : St} {H : Hp} {s : Shared} {a : Addr} {xs ys : List V}
theorem SqL.of {K:PySem.W.Frag} (h:H a=some (.lst xs)):SqL K H a xs:=.inl (.inl h)
theorem SqT.of {K:PySem.W.Frag} (h:H a=some (.tup xs)):SqT K H a xs:=.inl (.inl h)
theorem Inv.list (I:Inv X pins σ H s) (h:SqL X.K H a xs):∃ its:List Value,qA xs its/\PlainL s.heap a its.toArray/\xs.length<=sizeLine:=by
 rcases h with h | ⟨o,its,n,hk,hc,hd,hs,hz,r⟩
 ·obtain⟨z,its,n,r,e⟩:=h.ok I.hok
  exact⟨its,r,⟨_,n,e,rfl,rfl,rfl⟩,z⟩
 ·refine⟨its.toList,r,⟨o,n,I.kIn a o hk,hc,hd,by simpa using hs⟩,?_⟩
  have e:=r.length
  simp only[Array.length_toList] at e
  omega
theorem Inv.tuple (I:Inv X pins σ H s) (h:SqT X.K H a xs):∃ its:List Value,qA xs its/\IsTup s.heap a its.toArray/\xs.length<=sizeLine:=by
 rcases h with h | ⟨o,its,n,hk,hc,hs,hz,r⟩
 ·obtain⟨z,its,r,p⟩:=h.ok I.hok
  exact⟨its,r,p.isTup,z⟩
 ·refine⟨its.toList,r,⟨o,I.kIn a o hk,hc,n,by simpa using hs⟩,?_⟩
  have e:=r.length
  simp only[Array.length_toList] at e
  omega
theorem Inv.list_inj (I:Inv X pins σ H s) (h:SqL X.K H a xs) (h':SqL X.K H a ys):xs=ys:=by
 obtain⟨its,r,⟨o,n,e,_,_,d⟩,_⟩:=I.list h
 obtain⟨its',r',⟨o',n',e',_,_,d'⟩,_⟩:=I.list h'
 rw[e] at e';cases e'
 rw[d] at d'
 injection d' with d1 _
 have:its=its':=by simpa using BQ Array.toList d1
 subst this
 exact r.inj r'
theorem Inv.tuple_inj (I:Inv X pins σ H s) (h:SqT X.K H a xs) (h':SqT X.K H a ys):xs=ys:=by
 obtain⟨its,r,⟨o,e,_,n,d⟩,_⟩:=I.tuple h
 obtain⟨its',r',⟨o',e',_,n',d'⟩,_⟩:=I.tuple h'
 rw[e] at e';cases e'
 rw[d] at d'
 injection d' with d1 _
 have:its=its':=by simpa using BQ Array.toList d1
 subst this
 exact r.inj r'
end
abbrev Cx.wish (X:Cx) (E:Value->Shared->Prop):Cx:={ X with xe:=E }
abbrev Cx.nox (X:Cx):Cx:=X.wish fun _ _=>False
theorem Cx.Ok.wish {X:Cx} (ok:X.Ok) (E:Value->Shared->Prop):(X.wish E).Ok:=
 ⟨ok.mod,ok.kind,ok.glob,ok.blt,ok.above,ok.inj,ok.has,ok.cab,ok.hd,ok.frames,ok.stk,ok.exf,ok.bs,ok.bsz,ok.noex,ok.exfs,ok.funs,ok.frf⟩
theorem Cx.Ok.unwish {X:Cx} {E:Value->Shared->Prop} (ok:(X.wish E).Ok):X.Ok:=
 ⟨ok.mod,ok.kind,ok.glob,ok.blt,ok.above,ok.inj,ok.has,ok.cab,ok.hd,ok.frames,ok.stk,ok.exf,ok.bs,ok.bsz,ok.noex,ok.exfs,ok.funs,ok.frf⟩
section
variable {X : Cx} {pins : List (Addr × Obj)} {σ : St} {H : Hp} {s : Shared} {E : Value -> Shared -> Prop}
theorem Inv.wish (I:Inv X pins σ H s) (E:Value->Shared->Prop):Inv (X.wish E) pins σ H s:=⟨I.ok.wish E,I.os,I.bare,I.base,I.loc,I.cell,I.free,I.freeC,I.pin,I.hok,I.len⟩
theorem Inv.unwish (I:Inv (X.wish E) pins σ H s):Inv X pins σ H s:=⟨I.ok.unwish,I.os,I.bare,I.base,I.loc,I.cell,I.free,I.freeC,I.pin,I.hok,I.len⟩
theorem SP.unwish {D:xZ} {f:Flow} {s':Shared} (h:SP (X.wish E) pins D f s'):SP X pins D f s':=by
 cases f with
 | next=>obtain⟨σ',H',I,q⟩:=h;exact⟨σ',H',I.unwish,q⟩
 | brk=>obtain⟨σ',H',I,q⟩:=h;exact⟨σ',H',I.unwish,q⟩
 | cont=>obtain⟨σ',H',I,q⟩:=h;exact⟨σ',H',I.unwish,q⟩
 | ret u=>obtain⟨v,σ',H',I,r,q⟩:=h;exact⟨v,σ',H',I.unwish,r,q⟩
theorem PSs.nox {st:List Stmt} {t:TS} (h:PSs X.nox st t):PSs X st t:=fun pins s σ H D I hw=>
 C6 (h pins s σ H D (I.wish _) hw) (fun _ _ q=>q.unwish) fun _ _ z=>False.elim z
end
section
variable {X : Cx} {st : Stmt} {rest : List Stmt} {t u : TS} {e : Expr} {te : TE} {pos : Pos}
def tNext:TS:=fun D σ H=>D.nx σ H
def tSeq (t u:TS):TS:=fun D σ H=>t { D with nx:=u D } σ H
theorem zO:PSs X [] tNext:=fun _ _ σ H _ I h=>Dr ⟨σ,H,I,h⟩
theorem zh (h1:PS X st t) (h2:PSs X rest u):PSs X (st :: rest) (tSeq t u):=by
 intro pins s σ H D I h
 refine wpAny_execs_cons (thn (h1 pins s σ H { D with nx:=u D } I h) fun f s1 q=>?_)
 cases f with
 | next=>
  obtain⟨σ',H',I',q⟩:=q
  exact h2 pins s1 σ' H' D I' q
 | ret v=>exact q
 | brk=>exact q
 | cont=>exact q
theorem zk (h1:PS X st t):PSs X [st] t:=by
 intro pins s σ H D I h
 refine wpAny_execs_cons (thn (h1 pins s σ H D I h) fun f s1 q=>?_)
 cases f with
 | next=>exact Dr q
 | ret v=>exact q
 | brk=>exact q
 | cont=>exact q
theorem Inv.quiet {pins:List (Addr×Obj)} {σ:St} {H:Hp} {s:Shared} (I:Inv X pins σ H s):interactive X.env=false:=by simp[interactive,I.ok.kind]
def tDrop (te:TE):TS:=fun D σ H=>te σ H fun _ H1=>D.nx σ H1
theorem qi (he:PE X e te) (hs:swapsWith e none pos.line X.env=pure false:=by rfl):PS X (.Expr e pos) (tDrop te):=by
 intro pins s σ H D I h
 exact wpAny_Expr_any (thn (he pins s σ H _ I h) fun v s1 ⟨x,H1,I1,r1,q1⟩=>⟨σ,H1,I1,q1⟩) I.quiet hs
def tRet (te:TE):TS:=fun D σ H=>te σ H D.rt
theorem zB (he:PE X e te):PS X (.Return (some e) pos) (tRet te):=by
 intro pins s σ H D I h
 exact wpAny_Return_some (thn (he pins s σ H _ I h) fun v s1 ⟨x,H1,I1,r1,q1⟩=>⟨x,σ,H1,I1,r1,q1⟩)
def tIfS (c:TT) (t u:TS):TS:=fun D σ H=>c σ H fun b H1=>if b=true then t D σ H1 else u D σ H1
theorem qL {c:Expr} {a b:List Stmt} {tc:TT} (hc:PT X c tc) (ha:PSs X a t) (hb:PSs X b u):PS X (.If c a b pos) (tIfS tc t u):=by
 intro pins s σ H D I h
 refine wpAny_If (thn (hc pins s σ H _ I h) fun d s1 ⟨H1,I1,q1⟩=>?_)
 cases d with
 | true=>exact ha pins s1 σ H1 D I1 q1
 | false=>exact hb pins s1 σ H1 D I1 q1
def tNever:TS:=fun _ _ _=>False
theorem ps_never:PS X st tNever:=fun _ _ _ _ _ _ h=>h.elim
end
abbrev TG:=V->St->Hp->(St->Hp->Prop)->Prop
abbrev TGs:=List V->St->Hp->(St->Hp->Prop)->Prop
def PG (X:Cx) (target:Expr) (t:TG):Prop:=
 ∀ (pins:List (Addr×Obj)) (s:Shared) (σ:St) (H:Hp) (v:V) (u:Value) (Q:St->Hp->Prop),Inv X pins σ H s->RelV v u->t v σ H Q ->
  wpAny (model X.prog X.w) X.A (assign target X.env u) (fun _ s'=>∃ σ' H',Inv X pins σ' H' s'/\Q σ' H') X.xe s
def PGs (X:Cx) (ts:List Expr) (t:TGs):Prop:=
 ∀ (pins:List (Addr×Obj)) (s:Shared) (σ:St) (H:Hp) (vs:List V) (us:List Value) (Q:St->Hp->Prop),Inv X pins σ H s->qA vs us->t vs σ H Q ->
  wpAny (model X.prog X.w) X.A (assignInOrder ((assignEach ts X.env).map (·.2)) us) (fun _ s'=>∃ σ' H',Inv X pins σ' H' s'/\Q σ' H') X.xe s
section
variable {X : Cx} {pos : Pos}
def Zq (i:Nat):TG:=fun v σ H Q=>Q (σ.set i (some v)) H
theorem QJ {i:Nat} {x:Str} (hN:X.N.Nodup) (hi:X.N[i]? = some x) (hx:Loc X.env.scope x) (hf:X.fn x=true\/X.env.scope.names.lookup x=some .local:=by first | exact .inl rfl | exact .inr rfl | assumption):PG X (.Name x pos) (Zq i):=by
 intro pins s σ H v u Q I r h
 exact wpAny_assign_Name (Ja I hN hi hx r (fun s' I'=>⟨_,H,I',h⟩) hf)
def gNil:TGs:=fun vs σ H Q=>vs=[]/\Q σ H
def Y6 (t:TG) (u:TGs):TGs:=fun vs σ H Q=>∃ v r,vs=v :: r/\t v σ H fun σ' H'=>u r σ' H' Q
theorem Z6:PGs X [] gNil:=by
 intro pins s σ H vs us Q I r h
 obtain⟨e,h⟩:=h
 subst e
 cases r
 exact assignInOrder_nil ⟨σ,H,I,h⟩
theorem ql {e:Expr} {es:List Expr} {t:TG} {u:TGs} (h1:PG X e t) (h2:PGs X es u)
  (hs:(assignEach (e :: es) X.env).map (·.2)=assign e X.env :: (assignEach es X.env).map (·.2):=by rfl):PGs X (e :: es) (Y6 t u):=by
 intro pins s σ H vs us Q I r h
 obtain⟨v,vr,e1,h⟩:=h
 subst e1
 cases r with
 | cons r rr=>
  rw[hs]
  refine assignInOrder_cons (thn (h1 pins s σ H _ _ _ I r h) fun _ s1 ⟨σ1,H1,I1,q1⟩=>?_)
  exact h2 pins s1 σ1 H1 _ _ Q I1 rr q1
def gTup (K:PySem.W.Frag) (n:Nat) (t:TGs):TG:=fun v σ H Q=>∃ a xs,v=.ref a/\SqT K H a xs/\xs.length=n/\t xs σ H Q
theorem pg_tup {es:List Expr} {k:Nat} {t:TGs} {n:Nat} (hc:X.calm=true) (h:PGs X es t)
  (hn:(assignEach es X.env).length=n:=by rfl) (hst:(assignEach es X.env).findIdx? (·.1)=none:=by rfl):PG X (.Tuple es k pos) (gTup X.K n t):=by
 intro pins s σ H v u Q I r hw
 obtain⟨a,xs,e1,hq,hl,hw⟩:=hw
 subst e1
 cases r
 obtain⟨its,rv,ht,hz⟩:=I.tuple hq
 refine assign_Tuple_tuple (I.ok.hd hc) ht (by simp[hn,<- hl,rv.length]) hst fun h' hx=>?_
 have I1:Inv X pins σ H { s with heap:=h' }:=I.kept (t':=s.toks) fun b o e=>hx b o (AR (AN e)) e
 exact h pins _ σ H xs _ Q I1 (by simpa using rv) hw
def tAsg (te:TE) (g:TG):TS:=fun D σ H=>te σ H fun x H1=>g x σ H1 D.nx
theorem ps_asg {tg e:Expr} {te:TE} {g:TG} (he:PE X e te) (hg:PG X tg g) (hs:swapsWithSole [tg] e pos.line X.env=pure false:=by rfl) (hw:swappedStores [tg] e X.env=pure none:=by rfl)
  (h1:(assignEach [tg] X.env).map (·.2)=[assign tg X.env]:=by rfl):PS X (.Assign [tg] e pos) (tAsg te g):=by
 intro pins s σ H D I h
 refine wpAny_Assign_stores (thn (he pins s σ H _ I h) fun v s1 ⟨x,H1,I1,r1,q1⟩=>?_) hs hw
 rw[h1]
 exact thn (hg pins s1 σ H1 x v _ I1 r1 q1) fun _ s2 q=>q
theorem zr {i:Nat} {x:Str} {e:Expr} {te:TE} {pos':Pos} (hN:X.N.Nodup) (hi:X.N[i]? = some x) (hx:Loc X.env.scope x) (he:PE X e te) (hs:swapsWith e (some (.Name x pos')) pos.line X.env=pure false:=by rfl) (hf:X.fn x=true\/X.env.scope.names.lookup x=some .local:=by first | exact .inl rfl | exact .inr rfl | assumption) :
  PS X (.Assign [.Name x pos'] e pos) (tAsg te (Zq i)):=by
 intro pins s σ H D I h
 refine wpAny_Assign_Name (thn (he pins s σ H _ I h) fun v s1 ⟨y,H1,I1,r1,q1⟩=>?_) hs
 exact Ja I1 hN hi hx r1 (fun s2 I2=>⟨_,H1,I2,q1⟩) hf
def tPar (i j:Nat) (ta:TA):TS:=fun D σ H=>ta σ H fun vs H1=>∃ v w,vs=[v,w]/\D.nx ((σ.set i (some v)).set j (some w)) H1
theorem ps_par {i j:Nat} {x y:Str} {a b:Expr} {ta:TA} {px py pt:Pos} {kt k2 pt2} (hc:X.calm=true) (hN:X.N.Nodup) (hi:X.N[i]? = some x) (hj:X.N[j]? = some y) (hij:i ≠ j)
  (hx:X.env.scope.names.lookup x=some .local) (hy:X.env.scope.names.lookup y=some .local) (ha:PA X [a,b] ta)
  (hw:swappedStores [.Tuple [.Name x px,.Name y py] kt pt] (.Tuple [a,b] k2 pt2) X.env=pure (some [x,y]))
  (hs:swapsWithSole [.Tuple [.Name x px,.Name y py] kt pt] (.Tuple [a,b] k2 pt2) pos.line X.env=pure false:=by rfl) :
  PS X (.Assign [.Tuple [.Name x px,.Name y py] kt pt] (.Tuple [a,b] k2 pt2) pos) (tPar i j ta):=by
 intro pins s σ H D I h
 rw[exec_Assign_arm]
 refine AA (wpAny_standAt ?_)
 rw[hs]
 refine AA (AD ?_)
 rw[if_neg (by decide)]
 refine AA (Tuple_ (thn (ha _ pins s σ H _ I h) fun us s1 ⟨vs,H1,I1,r1,q1⟩=>?_))
 obtain⟨v,w,e1,q1⟩:=q1
 subst e1
 obtain⟨u1,u2,rfl,rv,rw'⟩:∃ u1 u2,us=[u1,u2]/\RelV v u1/\RelV w u2:=by
  cases r1 with
  | cons p q=>
   cases q with
   | cons p' q'=>
    cases q'
    exact⟨_,_,rfl,p,p'⟩
 refine Ap ?_ (by show 2<=sizeLine;decide)
 have I2:Inv X pins σ H1 { s1 with heap:=s1.heap.push { cls:=.type "tuple",data:=.seq [u1,u2].toArray } }:=I1.kept (t':=s1.toks) fun b o e=>AF _ e
 rw[hw]
 refine AA (AD ?_)
 show wpAny (model X.prog X.w) X.A (do rule "assign.swapped-stores";let items <- unpackItems (.ref s1.heap.objs.size) 2 none;assignInOrder [fun v=>bindName X.env y v,fun v=>bindName X.env x v] items.reverse;pure Flow.next) _ _ _
 refine AA (Bd (AA (unpackItems_tuple (items:=#[u1,u2]) (I.ok.hd hc) (IsTup.new s1.heap _) fun h' hx'=>?_)))
 have I3:=I2.kept (h':=h') (t':=s1.toks) fun b o e=>hx' b o (AR (AN e)) e
 show wpAny _ _ (assignInOrder [fun v=>bindName X.env y v,fun v=>bindName X.env x v] [u2,u1] >>= fun _=>pure Flow.next) _ _ _
 refine AA (assignInOrder_cons (wpAny_bindName (Ja I3 hN hj (.inl hy) rw' (fun s2 I4=>?_) (.inr hy))))
 refine assignInOrder_cons (wpAny_bindName (Ja I4 hN hi (.inl hx) rv (fun s3 I5=>assignInOrder_nil (AD ?_)) (.inr hx)))
 rw[List.set_comm _ _ (BD hij)] at I5
 exact⟨_,H1,I5,q1⟩
end
section
variable {X : Cx} {pos : Pos}
def tWhile (c:TT) (tb:TS):TS:=fun D σ H=>∃ W:Nat->St->Hp->Prop,(∃ m,W m σ H)/\∀ m σ H,W m σ H ->
 c σ H fun b H1=>if b=true then ∃ N:St->Hp->Prop,(∀ σ' H',N σ' H'->∃ m',m' < m/\W m' σ' H')/\tb { D with nx:=N,ct:=N,bk:=D.nx } σ H1 else D.nx σ H1
theorem Wa {c:Expr} {body:List Stmt} {tc:TT} {tb:TS} (hp:PassesOwn (model X.prog X.w) X.A X.env X.xe) (hc:PT X c tc) (hb:PSs X body tb):PS X (.While c body [] pos) (tWhile tc tb):=by
 intro pins s σ H D I h
 obtain⟨W,⟨m0,w0⟩,turn⟩:=h
 refine wpAny_While (codeAny_whileLoop (fun n s'=>∃ σ' H',Inv X pins σ' H' s'/\W n σ' H') ?_ m0 ⟨σ,H,I,w0⟩)
 rintro n s1 ⟨σ1,H1,I1,w1⟩
 refine Ca hp (thn (hc pins s1 σ1 H1 _ I1 (turn n σ1 H1 w1)) fun b s2 ⟨H2,I2,q2⟩=>?_)
 cases b with
 | true=>
  obtain⟨N,hN,q2⟩:=q2
  rw[if_pos rfl]
  refine Ca hp (thn (hb pins s2 σ1 H2 _ I2 q2) fun f s3 q3=>?_)
  cases f with
  | next=>
   obtain⟨σ3,H3,I3,n3⟩:=q3
   obtain⟨m',hm,w3⟩:=hN σ3 H3 n3
   exact⟨m',hm,σ3,H3,I3,w3⟩
  | cont=>
   obtain⟨σ3,H3,I3,n3⟩:=q3
   obtain⟨m',hm,w3⟩:=hN σ3 H3 n3
   exact⟨m',hm,σ3,H3,I3,w3⟩
  | brk=>exact q3
  | ret v=>exact q3
 | false=>
  rw[if_neg AS]
  exact Dr ⟨σ1,H2,I2,q2⟩
end
structure It where
 go:Nat->Hp->Prop
 yld:Nat->Hp->V->Hp->Prop
 stop:Nat->Hp->Prop
def Xc (X:Cx) (pins:List (Addr×Obj)) (H:Hp) (b:Addr):Prop:=
 H b=none/\b ≠ X.env.locals/\b ∉ X.fs/\(b ∈ X.ex\/X.s₀.heap.objs.size<=b)/\(∀ x c,X.env.cells.lookup x=some c->c ≠ b)/\∀ p ∈ X.pn++pins,p.1 ≠ b
theorem Inv.fpOk {X:Cx} {pins:List (Addr×Obj)} {σ:St} {H H':Hp} {s:Shared} {b:Addr} (I:Inv X pins σ H s) (hb:s.heap.objs.size<=b) (hn:H' b=none):Xc X pins H' b:=by
 refine⟨hn,BF (Am I.lt hb),I.nofs hb,.inr (Ab I.sz hb),fun x c e z=>?_,fun p hp z=>?_⟩
 ·obtain⟨v,q⟩:=I.cell x c e
  exact absurd (Am q.lt (by rw[z];exact hb)) (A6 _)
 ·exact absurd (Am (AN (I.pin p hp).1) (by rw[z];exact hb)) (A6 _)
structure Turn (P:Program) (w:World) (K:PySem.W.Frag) (tg:Expr) (J:It) (fp:List Addr) (it:Addr) (tn:Nat->Heap->Prop):Prop where
 mem:it ∈ fp
 obj:∀ i h,tn i h->∀ b ∈ fp,∃ o,h.get? b=some o/\∀ v,o.data ≠ .cell v
 keep:∀ i h h',tn i h->(∀ b ∈ fp,∀ o,h.get? b=some o->h'.get? b=some o)->tn i h'
 item:∀ (X:Cx),X.prog=P->X.w=w->X.K=K->X.calm=true->∀ (i:Nat) (pins:List (Addr×Obj)) (s:Shared) (σ:St) (H:Hp) (E:Value->Shared->Prop),Inv X pins σ H s->(∀ b ∈ fp,Xc X pins H b)->tn i s.heap->J.go i H ->
  wpAny (model P w) X.A (pyNext (.ref it)) (fun r s1=>∃ u,r=some u /\
   wpAny (model P w) X.A (letOwnedTupleGo tg (.ref it) u) (fun _ s2=>∃ x H',Inv X pins σ H' s2/\RelV x u/\J.yld i H x H'/\tn (i+1) s2.heap/\∀ b ∈ fp,H' b=none) E s1) E s
 done:∀ (X:Cx),X.prog=P->X.w=w->X.K=K->X.calm=true->∀ (i:Nat) (pins:List (Addr×Obj)) (s:Shared) (σ:St) (H:Hp) (E:Value->Shared->Prop),Inv X pins σ H s->(∀ b ∈ fp,Xc X pins H b)->tn i s.heap->J.stop i H ->
  wpAny (model P w) X.A (pyNext (.ref it)) (fun r s1=>r=none/\Inv X pins σ H s1) E s
 self:∀ (A:Around) (i:Nat) (s:Shared) (Q:Value->Shared->Prop) (E:Value->Shared->Prop),tn i s.heap->Q (.ref it) s->wpAny (model P w) A (pyIter (.ref it)) Q E s
abbrev TI:=St->Hp->(It->Hp->Prop)->Prop
def PIE (X:Cx) (pins:List (Addr×Obj)) (σ:St) (tg:Expr) (R:It->Hp->Prop) (itv:Value) (s2:Shared):Prop:=
 ∃ (it:Addr) (fp:List Addr) (tn:Nat->Heap->Prop) (J:It) (H':Hp),itv=.ref it/\Inv X pins σ H' s2/\Turn X.prog X.w X.K tg J fp it tn/\tn 0 s2.heap/\(∀ b ∈ fp,Xc X pins H' b)/\R J H'
def PI (X:Cx) (tg iter:Expr) (wi:TI):Prop:=
 ∀ (pins:List (Addr×Obj)) (s:Shared) (σ:St) (H:Hp) (R:It->Hp->Prop),Inv X pins σ H s->wi σ H R ->
  wpAny (model X.prog X.w) X.A (eval iter X.env) (fun v s1=>wpAny (model X.prog X.w) X.A (pyIter v) (PIE X pins σ tg R) X.xe s1) X.xe s
theorem go_of {M : Model} {A : Around} {E : Value -> Shared -> Prop} {s : Shared} {tg : Expr} {it : Addr} {u : Value} {o : Obj} {n : String} {vs : Array Value} {Q : Unit -> Shared -> Prop} (ho : s.heap.get? it = some o) (hc : o.cls = .type n) (hd : o.data = .fields vs)
    (hn : ["enumerate", "zip", "dict_itemiterator", "dict_reverseitemiterator", "odict_iterator", "itertools.zip_longest", "itertools.pairwise"].contains n = false) (hQ : Q () s) : wpAny M A (letOwnedTupleGo tg (.ref it) u) Q E s := by
  unfold letOwnedTupleGo
  cases tg <;> first
    | exact AD hQ
    | (cases u <;> first
        | exact AD hQ
        | (refine AA (ES ho ?_)
           rw [hc, hd]
           show wpAny M A (if (["enumerate", "zip", "dict_itemiterator", "dict_reverseitemiterator", "odict_iterator", "itertools.zip_longest", "itertools.pairwise"].contains n && vs[0]? == some (rawInt _)) = true then _ else _) Q E s
           rw [if_neg (by intro h; rw [hn, Bool.false_and] at h; cases h)]
           exact AD hQ))
def Itl (K:PySem.W.Frag) (a:Addr):It:=
 ⟨fun i H=>∃ xs x,SqL K H a xs/\xs[i]? = some x,fun i H x H'=>H'=H/\∀ xs,SqL K H a xs->xs[i]? = some x,fun i H=>∃ xs,SqL K H a xs/\xs.length<=i⟩
def Itt (K:PySem.W.Frag) (a:Addr):It:=
 ⟨fun i H=>∃ xs x,SqT K H a xs/\xs[i]? = some x,fun i H x H'=>H'=H/\∀ xs,SqT K H a xs->xs[i]? = some x,fun i H=>∃ xs,SqT K H a xs/\xs.length<=i⟩
def Itr (lo:Int) (n:Nat):It:=⟨fun i _=>i < n,fun i H x H'=>H'=H/\x=.int (lo+i),fun i _=>n<=i⟩
theorem Xd {P:Program} {w:World} {K:PySem.W.Frag} {tg:Expr} (a it:Addr):Turn P w K tg (Itl K a) [it] it (fun i h=>h.IsListIter it a i) where
 mem:=by simp
 obj:=fun i h st b hb=>by
  have e:b=it:=by simpa using hb
  subst e
  obtain⟨o,e,c,d⟩:=st
  exact⟨o,e,fun v z=>by rw[d] at z;cases z⟩
 keep:=fun i h h' st k=>st.at fun o e=>k it (by simp) o e
 item:=by
  intro X hP hw hK hc i pins s σ H E I hf st hg
  subst hP hw hK
  obtain⟨xs,x,hq,hx⟩:=hg
  obtain⟨its,rv,p,hz⟩:=I.list hq
  obtain⟨u,hu,ru⟩:=rv.get hx
  obtain⟨f0,f1,f2,f3,f4,f5⟩:=hf it (by simp)
  refine Bn st p.isList (x:=u) (by simpa using hu) fun h' st' sb=>?_
  have I1:Inv X pins σ H { s with heap:=h' }:=I.turned (t':=s.toks) (fun b o hb e=>(sb.2 b hb).trans e) f0 f1 f3 f4 f5
  obtain⟨o,e,c,d⟩:=id st'
  exact⟨u,rfl,go_of (s:={ s with heap:=h' }) e c d (by decide) ⟨x,H,I1,ru,⟨rfl,fun ys hy=>by rw[I.list_inj hy hq];exact hx⟩,st',fun b hb=>(hf b hb).1⟩⟩
 done:=by
  intro X hP hw hK hc i pins s σ H E I hf st hg
  subst hP hw hK
  obtain⟨xs,hq,hx⟩:=hg
  obtain⟨its,rv,p,hz⟩:=I.list hq
  obtain⟨f0,f1,f2,f3,f4,f5⟩:=hf it (by simp)
  have hl:=rv.length
  exact Bs (I.ok.hd hc) st p.isList (by simp;omega) fun h' eb=>⟨rfl,I.turned (t':=s.toks) (fun b o hb e=>eb b o hb e) f0 f1 f3 f4 f5⟩
 self:=fun _ _ _ _ _ st h=>wpAny_pyIter_listiter st h
theorem Y7 {P:Program} {w:World} {K:PySem.W.Frag} {tg:Expr} (a it:Addr):Turn P w K tg (Itt K a) [it] it (fun i h=>h.IsTupleIter it a i) where
 mem:=by simp
 obj:=fun i h st b hb=>by
  have e:b=it:=by simpa using hb
  subst e
  obtain⟨o,e,c,d⟩:=st
  exact⟨o,e,fun v z=>by rw[d] at z;cases z⟩
 keep:=fun i h h' st k=>st.at fun o e=>k it (by simp) o e
 item:=by
  intro X hP hw hK hc i pins s σ H E I hf st hg
  subst hP hw hK
  obtain⟨xs,x,hq,hx⟩:=hg
  obtain⟨its,rv,p,hz⟩:=I.tuple hq
  obtain⟨u,hu,ru⟩:=rv.get hx
  obtain⟨f0,f1,f2,f3,f4,f5⟩:=hf it (by simp)
  refine wpAny_pyNext_tuple_item st (show s.heap.IsTuple a its.toArray from p) (x:=u) (by simpa using hu) fun h' st' sb=>?_
  have I1:Inv X pins σ H { s with heap:=h' }:=I.turned (t':=s.toks) (fun b o hb e=>(sb.2 b hb).trans e) f0 f1 f3 f4 f5
  obtain⟨o,e,c,d⟩:=id st'
  exact⟨u,rfl,go_of (s:={ s with heap:=h' }) e c d (by decide) ⟨x,H,I1,ru,⟨rfl,fun ys hy=>by rw[I.tuple_inj hy hq];exact hx⟩,st',fun b hb=>(hf b hb).1⟩⟩
 done:=by
  intro X hP hw hK hc i pins s σ H E I hf st hg
  subst hP hw hK
  obtain⟨xs,hq,hx⟩:=hg
  obtain⟨its,rv,p,hz⟩:=I.tuple hq
  obtain⟨f0,f1,f2,f3,f4,f5⟩:=hf it (by simp)
  have hl:=rv.length
  exact wpAny_pyNext_tuple_end (I.ok.hd hc) st (show s.heap.IsTuple a its.toArray from p) (by simp;omega) fun h' eb=>⟨rfl,I.turned (t':=s.toks) (fun b o hb e=>eb b o hb e) f0 f1 f3 f4 f5⟩
 self:=fun _ _ _ _ _ st h=>wpAny_pyIter_tupleiter st h
theorem Y8 {P:Program} {w:World} {K:PySem.W.Frag} {tg:Expr} (it:Addr) (lo:Int) (n:Nat):Turn P w K tg (Itr lo n) [it] it (fun i h=>IsRangeIter h it (lo+(i:Nat) * 1) ((n:Int) - (i:Nat)) 1) where
 mem:=by simp
 obj:=fun i h st b hb=>by
  have e:b=it:=by simpa using hb
  subst e
  exact⟨_,st,fun v z=>by
   have z':Data.fields _=Data.cell v:=z
   cases z'⟩
 keep:=fun i h h' st k=>k it (by simp) _ st
 item:=by
  intro X hP hw hK hc i pins s σ H E I hf st hg
  subst hP hw hK
  obtain⟨f0,f1,f2,f3,f4,f5⟩:=hf it (by simp)
  have W:=Walks.range (prog:=X.prog) (w:=X.w) (I.ok.hd hc) it lo 1 n
  refine W.item i s _ _ hg st fun v h' tk hv st' kk=>?_
  obtain⟨t,rfl⟩:=hv
  have I1:Inv X pins σ H { s with heap:=h',toks:=tk }:=I.turned (fun b o hb e=>kk b o (by simpa using hb) e) f0 f1 f3 f4 f5
  refine⟨_,rfl,go_of (s:={ s with heap:=h',toks:=tk }) (n := "range_iterator") st' rfl rfl (by decide) ⟨.int (lo+i),H,I1,⟨t,?_⟩,⟨rfl,rfl⟩,st',fun b hb=>(hf b hb).1⟩⟩
  rw[Int.mul_one]
 done:=by
  intro X hP hw hK hc i pins s σ H E I hf st hg
  subst hP hw hK
  obtain⟨f0,f1,f2,f3,f4,f5⟩:=hf it (by simp)
  exact wpAny_pyNext_range_end (I.ok.hd hc) st (by have:n<=i:=hg;omega) fun h' eb=>⟨rfl,I.turned (t':=s.toks) (fun b o hb e=>eb b o hb e) f0 f1 f3 f4 f5⟩
 self:=fun _ _ _ _ _ st h=>wpAny_pyIter_rangeiter st h
section
variable {X : Cx} {tg : Expr}
def iList (K:PySem.W.Frag) (tl:TE):TI:=fun σ H R=>tl σ H fun x H1=>∃ a,x=.ref a/\(∃ xs,SqL K H1 a xs)/\R (Itl K a) H1
def iTup (K:PySem.W.Frag) (tl:TE):TI:=fun σ H R=>tl σ H fun x H1=>∃ a,x=.ref a/\(∃ xs,SqT K H1 a xs)/\R (Itt K a) H1
theorem pi_list {l:Expr} {tl:TE} (hl:PE X l tl):PI X tg l (iList X.K tl):=by
 intro pins s σ H R I h
 refine thn (hl pins s σ H _ I h) fun v s1 ⟨x,H1,I1,r1,q1⟩=>?_
 obtain⟨a,e,⟨xs,hq⟩,q⟩:=q1
 subst e
 cases r1
 obtain⟨its,rv,p,hz⟩:=I1.list hq
 refine Bo p.isList ?_
 refine⟨s1.heap.objs.size,[s1.heap.objs.size],_,_,H1,rfl,I1.kept (t':=s1.toks) fun b o e=>AF _ e,Xd a _,⟨_,AO _ rfl,rfl,rfl⟩,fun b hb=>?_,q⟩
 have e:b=s1.heap.objs.size:=by simpa using hb
 subst e
 exact I1.fpOk (AK _) (I1.hok.fresh (AK _))
theorem pi_tup {l:Expr} {tl:TE} (hl:PE X l tl):PI X tg l (iTup X.K tl):=by
 intro pins s σ H R I h
 refine thn (hl pins s σ H _ I h) fun v s1 ⟨x,H1,I1,r1,q1⟩=>?_
 obtain⟨a,e,⟨xs,hq⟩,q⟩:=q1
 subst e
 cases r1
 obtain⟨its,rv,p,hz⟩:=I1.tuple hq
 refine DW (show s1.heap.IsTuple a its.toArray from p) ?_
 refine⟨s1.heap.objs.size,[s1.heap.objs.size],_,_,H1,rfl,I1.kept (t':=s1.toks) fun b o e=>AF _ e,Y7 a _,⟨_,AO _ rfl,rfl,rfl⟩,fun b hb=>?_,q⟩
 have e:b=s1.heap.objs.size:=by simpa using hb
 subst e
 exact I1.fpOk (AK _) (I1.hok.fresh (AK _))
theorem range_it {pins:List (Addr×Obj)} {σ:St} {H:Hp} {s:Shared} {R:It->Hp->Prop} {E:Value->Shared->Prop} {lo hi:Int} {t u v:Tok} {tk:Nat} (I:Inv X pins σ H s) (h1:-(2 ^ 62)<=lo) (h2:lo < 2 ^ 62) (h3:-(2 ^ 62)<=hi) (h4:hi < 2 ^ 62)
  (q:R (Itr lo (hi - lo).toNat) H):wpAny (model X.prog X.w) X.A (pyIter (.ref s.heap.objs.size)) (PIE X pins σ tg R) E { s with heap:=s.heap.push { cls:=.type "range",data:=.fields #[.int lo t,.int hi u,.int 1 v] },toks:=tk }:=by
 refine wpAny_pyIter_range (IsRange.new ..) (small_one h1 h2 h3 h4) ?_
 have I1:Inv X pins σ H { s with heap:=s.heap.push { cls:=.type "range",data:=.fields #[.int lo t,.int hi u,.int 1 v] },toks:=tk }:=I.kept fun b o e=>AF _ e
 refine⟨(s.heap.push { cls:=.type "range",data:=.fields #[.int lo t,.int hi u,.int 1 v] }).objs.size,[(s.heap.push { cls:=.type "range",data:=.fields #[.int lo t,.int hi u,.int 1 v] }).objs.size],_,_,H,rfl,
  I1.kept (t':=tk) fun b o e=>AF _ e,Y8 _ lo (hi - lo).toNat,?_,fun b hb=>?_,q⟩
 ·have e1:lo+((0:Nat):Int) * 1=lo:=by simp
  have e2:(((hi - lo).toNat:Nat):Int) - ((0:Nat):Int)=Builtin.Range.rangeSize lo hi 1:=by rw[rangeSize_one];split <;> omega
  show IsRangeIter _ _ (lo+((0:Nat):Int) * 1) ((((hi - lo).toNat:Nat):Int) - ((0:Nat):Int)) 1
  rw[e1,e2]
  exact AO _ rfl
 ·have e:b=(s.heap.push { cls:=.type "range",data:=.fields #[.int lo t,.int hi u,.int 1 v] }).objs.size:=by simpa using hb
  subst e
  exact I1.fpOk (AK _) (I1.hok.fresh (AK _))
def iRng1 (ta:TA):TI:=fun σ H R=>ta σ H fun vs H1=>∃ j:Int,vs=[.int j] /\ -(2 ^ 62)<=j/\j < 2 ^ 62/\R (Itr 0 j.toNat) H1
theorem qj {a:Expr} {ta:TA} {p pos:Pos} (hg:Gl X "range") (hm:X.mg "range" = none) (ha:PA X [a] ta) (hs:starEach [a] X.env=[(false,eval a X.env)]:=by rfl):PI X tg (.Call (.Name "range" p) [a] [] pos) (iRng1 ta):=by
 intro pins s σ H R I h
 refine Call_ (Zo I hg hm boot_range (BH (thn (ha pos pins s σ H _ I h) fun us s1 ⟨vs,H1,I1,r1,q1⟩=>?_) hs rfl))
 obtain⟨j,e,q1,q2,q⟩:=q1
 subst e
 cases r1 with
 | cons r rr=>
  cases rr
  obtain⟨t,rfl⟩:=r
  exact call_range_1 (range_it I1 (by omega) (by omega) q1 q2 (by simpa using q))
def tFor (wi:TI) (g:TG) (tb:TS):TS:=fun D σ H=>wi σ H fun J H1=>∃ W:Nat->Nat->St->Hp->Prop,(∃ m,W 0 m σ H1)/\∀ i m σ H,W i m σ H ->
 (J.stop i H/\D.nx σ H)\/(J.go i H/\∃ N:St->Hp->Prop,(∀ σ' H',N σ' H'->∃ m',m' < m/\W (i+1) m' σ' H')/\∀ x H',J.yld i H x H'->g x σ H' fun σ2 H2=>tb { D with nx:=N,ct:=N,bk:=D.nx } σ2 H2)
def WV (fp:List Addr) (h:Heap):List (Addr×Obj):=fp.filterMap fun b=>(h.get? b).map fun o=>(b,o)
theorem ZH {fp:List Addr} {h:Heap} {b:Addr} {o:Obj} (hb:b ∈ fp) (e:h.get? b=some o):(b,o) ∈ WV fp h:=Dy.mpr ⟨b,hb,by rw[e];rfl⟩
theorem Xe {fp:List Addr} {h:Heap} {p:Addr×Obj} (hp:p ∈ WV fp h):p.1 ∈ fp/\h.get? p.1=some p.2:=by
 obtain⟨b,hb,e⟩:=Dy.mp hp
 cases q:h.get? b with
 | none=>rw[q] at e;cases e
 | some o=>
  rw[q] at e
  have e':(b,o)=p:=Ad e
  subst e'
  exact⟨hb,q⟩
theorem Inv.pinned {pins:List (Addr×Obj)} {σ:St} {H:Hp} {s:Shared} {fp:List Addr} (I:Inv X pins σ H s) (hf:∀ b ∈ fp,Xc X pins H b) (ho:∀ b ∈ fp,∃ o,s.heap.get? b=some o/\∀ v,o.data ≠ .cell v):Inv X (pins++WV fp s.heap) σ H s:=
 I.pins_of fun p hp=>(AQ.mp hp).elim (fun z=>I.pin p (Aa _ z)) fun z=>by
  obtain⟨hb,e⟩:=Xe z
  obtain⟨f0,f1,f2,_⟩:=hf p.1 hb
  obtain⟨o,e',d⟩:=ho p.1 hb
  rw[e] at e';cases e'
  exact⟨e,f0,f1,f2,d⟩
theorem Inv.unpinned {pins pl:List (Addr×Obj)} {σ:St} {H:Hp} {s:Shared} (I:Inv X (pins++pl) σ H s):Inv X pins σ H s:=I.pins_of fun p hp=>I.pin p (Aa _ (Ah _ hp))
theorem zP {iter:Expr} {body:List Stmt} {wi:TI} {g:TG} {tb:TS} {pos:Pos} (hp:PassesOwn (model X.prog X.w) X.A X.env X.xe) (hc:X.calm=true) (hi:PI X tg iter wi) (hg:PG X tg g) (hb:PSs X body tb)
  (hs:∀ x,foldedSetIterable iter X.env x=pure x:=by intro _;rfl):PS X (.For tg iter body [] pos) (tFor wi g tb):=by
 intro pins s σ H D I h
 refine wpAny_For (thn (hi pins s σ H _ I h) fun v s1 h1=>thn h1 fun itv s2 h2=>?_) hs
 obtain⟨it,fp,tn,J,H2,e,I2,T,st2,f2,W,⟨m0,w0⟩,turn⟩:=h2
 subst e
 -- what stays true of the iterator's objects through the loop
 have stat:∀ {H':Hp},(∀ b ∈ fp,H' b=none)->∀ b ∈ fp,Xc X pins H' b:=fun hn b hb=>⟨hn b hb,(f2 b hb).2⟩
 refine codeAny_forLoop_any (fun n s'=>∃ i σ' H',Inv X pins σ' H' s'/\tn i s'.heap/\(∀ b ∈ fp,H' b=none)/\W i n σ' H') ?_ m0 ⟨0,σ,H2,I2,st2,fun b hb=>(f2 b hb).1,w0⟩
 rintro n s3 ⟨i,σ3,H3,I3,st3,fr3,w3⟩
 rcases turn i n σ3 H3 w3 with ⟨stop,qn⟩ | ⟨go,N,hN,step⟩
 ·refine Ca hp (thn (T.done X rfl rfl rfl hc i pins s3 σ3 H3 X.xe I3 (stat fr3) st3 stop) fun r s4 ⟨hr,I4⟩=>?_)
  subst hr
  exact Dr ⟨σ3,H3,I4,qn⟩
 ·refine Ca hp (thn (T.item X rfl rfl rfl hc i pins s3 σ3 H3 X.xe I3 (stat fr3) st3 go) fun r s4 ⟨u,hr,h4⟩=>?_)
  subst hr
  refine Ca hp (thn h4 fun _ s5 ⟨x,H5,I5,r5,y5,st5,fr5⟩=>?_)
  have I5':=I5.pinned (stat fr5) (T.obj _ _ st5)
  refine Ca hp (thn (hg _ s5 σ3 H5 x u _ I5' r5 (step x H5 y5)) fun _ s6 ⟨σ6,H6,I6,q6⟩=>?_)
  refine Ca hp (thn (hb _ s6 σ6 H6 _ I6 q6) fun f s7 q7=>?_)
  have again:∀ {σ7:St} {H7:Hp},Inv X (pins++WV fp s5.heap) σ7 H7 s7->N σ7 H7->∃ m,m < n/\∃ i σ' H',Inv X pins σ' H' s7/\tn i s7.heap/\(∀ b ∈ fp,H' b=none)/\W i m σ' H':=fun {σ7 H7} I7 n7=>by
   obtain⟨m',hm,w7⟩:=hN σ7 H7 n7
   refine⟨m',hm,i+1,σ7,H7,I7.unpinned,T.keep _ _ _ st5 fun b hb o e=>(I7.pin (b,o) (Aa _ (Aa _ (ZH hb e)))).1,fun b hb=>?_,w7⟩
   obtain⟨o,e,d⟩:=T.obj _ _ st5 b hb
   exact (I7.pin (b,o) (Aa _ (Aa _ (ZH hb e)))).2.1
  cases f with
  | next=>obtain⟨σ7,H7,I7,n7⟩:=q7;exact again I7 n7
  | cont=>obtain⟨σ7,H7,I7,n7⟩:=q7;exact again I7 n7
  | brk=>obtain⟨σ7,H7,I7,q7⟩:=q7;exact⟨σ7,H7,I7.unpinned,q7⟩
  | ret v=>obtain⟨x7,σ7,H7,I7,r7,q7⟩:=q7;exact⟨x7,σ7,H7,I7.unpinned,r7,q7⟩
end
theorem qf {K:PySem.W.Frag} {a:Addr} {xs:List V} {g:TG} {tb:TS} {D:xZ} {σ:St} {H:Hp} (Pv:Nat->St->Hp->Prop) (h0:Pv 0 σ H) (hl:∀ i σ H,i<=xs.length->Pv i σ H->SqL K H a xs)
  (hs:∀ i x σ H,xs[i]? = some x->Pv i σ H->g x σ H fun σ2 H2=>tb { D with nx:=Pv (i+1),ct:=Pv (i+1),bk:=D.nx } σ2 H2) (hd:∀ σ H,Pv xs.length σ H->D.nx σ H) :
  ∃ W:Nat->Nat->St->Hp->Prop,(∃ m,W 0 m σ H)/\∀ i m σ H,W i m σ H ->
   ((Itl K a).stop i H/\D.nx σ H)\/((Itl K a).go i H/\∃ N:St->Hp->Prop,(∀ σ' H',N σ' H'->∃ m',m' < m/\W (i+1) m' σ' H')/\∀ x H',(Itl K a).yld i H x H'->g x σ H' fun σ2 H2=>tb { D with nx:=N,ct:=N,bk:=D.nx } σ2 H2):=by
 refine⟨fun i m σ H=>m=xs.length - i/\i<=xs.length/\Pv i σ H,⟨xs.length,by simp,A9 _,h0⟩,?_⟩
 rintro i m σ H ⟨rfl,hi,p⟩
 have q:=hl i σ H hi p
 by_cases hlt:i < xs.length
 ·refine .inr ⟨⟨xs,xs[i],q,by simp[hlt]⟩,Pv (i+1),fun σ' H' p'=>⟨xs.length - (i+1),by omega,rfl,hlt,p'⟩,fun x H' y=>?_⟩
  obtain⟨e,y⟩:=y
  subst e
  exact hs i x σ _ (y xs q) p
 ·have e:i=xs.length:=by omega
  subst e
  exact .inl ⟨⟨xs,q,AK _⟩,hd σ H p⟩
theorem jU {K:PySem.W.Frag} {a:Addr} {xs:List V} {g:TG} {tb:TS} {D:xZ} {σ:St} {H:Hp} (Pv:Nat->St->Hp->Prop) (h0:Pv 0 σ H) (hl:∀ i σ H,i<=xs.length->Pv i σ H->SqT K H a xs)
  (hs:∀ i x σ H,xs[i]? = some x->Pv i σ H->g x σ H fun σ2 H2=>tb { D with nx:=Pv (i+1),ct:=Pv (i+1),bk:=D.nx } σ2 H2) (hd:∀ σ H,Pv xs.length σ H->D.nx σ H) :
  ∃ W:Nat->Nat->St->Hp->Prop,(∃ m,W 0 m σ H)/\∀ i m σ H,W i m σ H ->
   ((Itt K a).stop i H/\D.nx σ H)\/((Itt K a).go i H/\∃ N:St->Hp->Prop,(∀ σ' H',N σ' H'->∃ m',m' < m/\W (i+1) m' σ' H')/\∀ x H',(Itt K a).yld i H x H'->g x σ H' fun σ2 H2=>tb { D with nx:=N,ct:=N,bk:=D.nx } σ2 H2):=by
 refine⟨fun i m σ H=>m=xs.length - i/\i<=xs.length/\Pv i σ H,⟨xs.length,by simp,A9 _,h0⟩,?_⟩
 rintro i m σ H ⟨rfl,hi,p⟩
 have q:=hl i σ H hi p
 by_cases hlt:i < xs.length
 ·refine .inr ⟨⟨xs,xs[i],q,by simp[hlt]⟩,Pv (i+1),fun σ' H' p'=>⟨xs.length - (i+1),by omega,rfl,hlt,p'⟩,fun x H' y=>?_⟩
  obtain⟨e,y⟩:=y
  subst e
  exact hs i x σ _ (y xs q) p
 ·have e:i=xs.length:=by omega
  subst e
  exact .inl ⟨⟨xs,q,AK _⟩,hd σ H p⟩
theorem qM {lo:Int} {n:Nat} {g:TG} {tb:TS} {D:xZ} {σ:St} {H:Hp} (Pv:Nat->St->Hp->Prop) (h0:Pv 0 σ H)
  (hs:∀ i σ H,i < n->Pv i σ H->g (.int (lo+i)) σ H fun σ2 H2=>tb { D with nx:=Pv (i+1),ct:=Pv (i+1),bk:=D.nx } σ2 H2) (hd:∀ σ H,Pv n σ H->D.nx σ H) :
  ∃ W:Nat->Nat->St->Hp->Prop,(∃ m,W 0 m σ H)/\∀ i m σ H,W i m σ H ->
   ((Itr lo n).stop i H/\D.nx σ H)\/((Itr lo n).go i H/\∃ N:St->Hp->Prop,(∀ σ' H',N σ' H'->∃ m',m' < m/\W (i+1) m' σ' H')/\∀ x H',(Itr lo n).yld i H x H'->g x σ H' fun σ2 H2=>tb { D with nx:=N,ct:=N,bk:=D.nx } σ2 H2):=by
 refine⟨fun i m σ H=>m=n - i/\i<=n/\Pv i σ H,⟨n,by simp,A9 _,h0⟩,?_⟩
 rintro i m σ H ⟨rfl,hi,p⟩
 by_cases hlt:i < n
 ·refine .inr ⟨hlt,Pv (i+1),fun σ' H' p'=>⟨n - (i+1),by omega,rfl,hlt,p'⟩,fun x H' y=>?_⟩
  obtain⟨e,y⟩:=y
  subst e y
  exact hs i σ _ hlt p
 ·have e:i=n:=by omega
  subst e
  exact .inl ⟨AK _,hd σ H p⟩
abbrev R2:=V->V->Hp->VK->Prop
def OpR (X:Cx) (f:Value->Value->Sem Value) (r:R2):Prop:=
 ∀ (pins:List (Addr×Obj)) (s:Shared) (σ:St) (H:Hp) (x y:V) (v u:Value) (Q:VK),Inv X pins σ H s->RelV x v->RelV y u->r x y H Q ->
  wpAny (model X.prog X.w) X.A (f v u) (EP X pins σ Q) X.xe s
def UnR (X:Cx) (f:Value->Sem Value) (r:V->Hp->VK->Prop):Prop:=
 ∀ (pins:List (Addr×Obj)) (s:Shared) (σ:St) (H:Hp) (x:V) (v:Value) (Q:VK),Inv X pins σ H s->RelV x v->r x H Q ->
  wpAny (model X.prog X.w) X.A (f v) (EP X pins σ Q) X.xe s
def jB (X:Cx) (f:Value) (r:List V->Hp->VK->Prop):Prop:=
 ∀ (pins:List (Addr×Obj)) (s:Shared) (σ:St) (H:Hp) (xs:List V) (us:List Value) (Q:VK),Inv X pins σ H s->qA xs us->r xs H Q ->
  wpAny (model X.prog X.w) X.A (call f us) (EP X pins σ Q) X.xe s
def tOp (r:R2) (ta tb:TE):TE:=fun σ H Q=>ta σ H fun x H1=>tb σ H1 fun y H2=>r x y H2 Q
def tUn (r:V->Hp->VK->Prop) (ta:TE):TE:=fun σ H Q=>ta σ H fun x H1=>r x H1 Q
def rI (C:Int->Int->Prop) (g:Int->Int->V):R2:=fun x y H Q=>∃ i j,x=.int i/\y=.int j/\C i j/\Q (g i j) H
def rI0 (g:Int->Int->V):R2:=fun x y H Q=>∃ i j,x=.int i/\y=.int j/\Q (g i j) H
def rU (g:Int->V):V->Hp->VK->Prop:=fun x H Q=>∃ i,x=.int i/\Q (g i) H
section
variable {X : Cx} {a b c : Expr} {ta tb tc : TE} {pos : Pos}
theorem binT (ha:PE X a ta) (hb:PE X b tb) {pins:List (Addr×Obj)} {s:Shared} {σ:St} {H:Hp} {R:V->V->Hp->Prop} (I:Inv X pins σ H s)
  (h:ta σ H fun x H1=>tb σ H1 fun y H2=>R x y H2) {Q:Value->Shared->Prop} {f:Value->Value->Sem Value}
  (hf:∀ v u s2 x y H2,Inv X pins σ H2 s2->RelV x v->RelV y u->R x y H2->wpAny (model X.prog X.w) X.A (f v u) Q X.xe s2) :
  wpAny (model X.prog X.w) X.A (eval a X.env) (fun v s₁=>wpAny (model X.prog X.w) X.A (eval b X.env) (fun u s₂=>wpAny (model X.prog X.w) X.A (f v u) Q X.xe s₂) X.xe s₁) X.xe s:=by
 refine thn (ha pins s σ H _ I h) fun v s1 ⟨x,H1,I1,r1,q1⟩=>?_
 refine thn (hb pins s1 σ H1 _ I1 q1) fun u s2 ⟨y,H2,I2,r2,q2⟩=>?_
 exact hf v u s2 x y H2 I2 r1 r2 q2
theorem zy {op:Operator} {r:R2} (ho:OpR X (binaryOp op) r) (ha:PE X a ta) (hb:PE X b tb):PE X (.BinOp a op b pos) (tOp r ta tb):=by
 intro pins s σ H Q I h
 exact wpAny_BinOp (binT ha hb I h fun v u s2 x y H2 I2 rx ry q=>ho pins s2 σ H2 x y v u Q I2 rx ry q)
theorem pe_un {op:UnaryOp} {r:V->Hp->VK->Prop} (ho:UnR X (unaryOp op) r) (ha:PE X a ta):PE X (.UnaryOp op a pos) (tUn r ta):=by
 intro pins s σ H Q I h
 exact UnaryOp_ (thn (ha pins s σ H _ I h) fun v s1 ⟨x,H1,I1,r1,q1⟩=>ho pins s1 σ H1 x v Q I1 r1 q1)
theorem opI {f:Value->Value->Sem Value} {C:Int->Int->Prop} {g:Int->Int->Int}
  (rule:∀ (i j:Int) (t u:Tok) (s:Shared) (Q:Value->Shared->Prop) (E:Value->Shared->Prop),C i j->Q (.int (g i j) s.toks) { s with toks:=s.toks+1 }->wpAny (model X.prog X.w) X.A (f (.int i t) (.int j u)) Q E s) :
  OpR X f (rI C fun i j=>.int (g i j)):=by
 intro pins s σ H x y v u Q I rx ry h
 obtain⟨i,j,rfl,rfl,hc,q⟩:=h
 obtain⟨t,rfl⟩:=rx
 obtain⟨t',rfl⟩:=ry
 exact rule i j t t' s _ _ hc ⟨.int (g i j),H,I.tok _,⟨_,rfl⟩,q⟩
theorem opI0 {f:Value->Value->Sem Value} {g:Int->Int->Int}
  (rule:∀ (i j:Int) (t u:Tok) (s:Shared) (Q:Value->Shared->Prop) (E:Value->Shared->Prop),Q (.int (g i j) s.toks) { s with toks:=s.toks+1 }->wpAny (model X.prog X.w) X.A (f (.int i t) (.int j u)) Q E s) :
  OpR X f (rI0 fun i j=>.int (g i j)):=by
 intro pins s σ H x y v u Q I rx ry h
 obtain⟨i,j,rfl,rfl,q⟩:=h
 obtain⟨t,rfl⟩:=rx
 obtain⟨t',rfl⟩:=ry
 exact rule i j t t' s _ _ ⟨.int (g i j),H,I.tok _,⟨_,rfl⟩,q⟩
theorem opB0 {f:Value->Value->Sem Value} {g:Int->Int->Bool}
  (rule:∀ (i j:Int) (t u:Tok) (s:Shared) (Q:Value->Shared->Prop) (E:Value->Shared->Prop),Q (.bool (g i j)) s->wpAny (model X.prog X.w) X.A (f (.int i t) (.int j u)) Q E s) :
  OpR X f (rI0 fun i j=>.bl (g i j)):=by
 intro pins s σ H x y v u Q I rx ry h
 obtain⟨i,j,rfl,rfl,q⟩:=h
 obtain⟨t,rfl⟩:=rx
 obtain⟨t',rfl⟩:=ry
 exact rule i j t t' s _ _ ⟨.bl (g i j),H,I,rfl,q⟩
def CDiv (i j:Int):Prop:=0 < j/\j < 1073741824
def CPow (i j:Int):Prop:=0<=j/\j<=1000000/\i.natAbs < 2 ^ 64
def CMul (i j:Int):Prop:=(-(2 ^ 64) < i/\i < 2 ^ 64)\/(-(2 ^ 64) < j/\j < 2 ^ 64)
theorem CMul.ok {i j:Int} (h:CMul i j):IntMulOk i j:=by
 rcases h with ⟨h1,h2⟩ | ⟨h1,h2⟩
 ·exact .of_left (intBits_le_64 h1 h2)
 ·exact .of_right (intBits_le_64 h1 h2)
theorem Y9 (k:Nat):(0:Int)<=2 ^ k:=by
 rw[two_pow_cast]
 exact Int.natCast_nonneg _
theorem qq:OpR X (binaryOp .Add) (rI0 fun i j=>.int (i+j)):=opI0 fun _ _ _ _ _ _ _ q=>add_int q
theorem WW:OpR X (binaryOp .Sub) (rI0 fun i j=>.int (i - j)):=opI0 fun _ _ _ _ _ _ _ q=>sub_int q
theorem js:OpR X (binaryOp .Mult) (rI CMul fun i j=>.int (i * j)):=opI fun _ _ _ _ _ _ _ hc q=>mul_int q hc.ok
theorem Ji:OpR X (binaryOp .FloorDiv) (rI CDiv fun i j=>.int (i / j)):=opI fun i j _ _ _ _ _ hc q=>by
 have h1:(0:Int) < j:=hc.1
 have h2:j < 1073741824:=hc.2
 exact floordiv_int (by omega) (by rw[Eh i (by omega)];exact q) (.inl (PyProof.noPylong_small (by omega)))
theorem qV:OpR X (binaryOp .Mod) (rI (fun _ j=>0 < j) fun i j=>.int (i % j)):=opI fun i j _ _ _ _ _ hc q=>by
 have h1:(0:Int) < j:=hc
 exact mod_int' (by omega) (by rw[Int.fmod_eq_emod_of_nonneg i (by omega)];exact q)
theorem Yv:OpR X (binaryOp .Pow) (rI CPow fun i j=>.int (i ^ j.toNat)):=opI fun _ _ _ _ _ _ _ hc q=>pow_int_small hc.1 hc.2.1 hc.2.2 q
theorem op_shr:OpR X (binaryOp .RShift) (rI (fun _ j=>0<=j) fun i j=>.int (i / 2 ^ j.toNat)):=opI fun i j _ _ _ _ _ hc q=>
 rshift_int hc (by rw[Eh i (Y9 _)];exact q)
theorem op_and:OpR X (binaryOp .BitAnd) (rI0 fun i j=>.int (Builtin.bitAnd i j)):=opI0 fun _ _ _ _ _ _ _ q=>and_int q
theorem unI {f:Value->Sem Value} {g:Int->Int}
  (rule:∀ (i:Int) (t:Tok) (s:Shared) (Q:Value->Shared->Prop) (E:Value->Shared->Prop),Q (.int (g i) s.toks) { s with toks:=s.toks+1 }->wpAny (model X.prog X.w) X.A (f (.int i t)) Q E s) :
  UnR X f (rU fun i=>.int (g i)):=by
 intro pins s σ H x v Q I rx h
 obtain⟨i,rfl,q⟩:=h
 obtain⟨t,rfl⟩:=rx
 exact rule i t s _ _ ⟨.int (g i),H,I.tok _,⟨_,rfl⟩,q⟩
theorem un_neg:UnR X (unaryOp .USub) (rU fun i=>.int (-i)):=unI fun _ _ _ _ _ q=>neg_int q
end
def scal:V->V->Bool
 | .non,.non=>true | .non,.int _=>true | .int _,.non=>true | .non,.bl _=>true | .bl _,.non=>true | .non,.str _=>true | .str _,.non=>true
 | .int _,.int _=>true | .bl _,.bl _=>true | .str _,.str _=>true | .byt _,.byt _=>true
 | .int _,.str _=>true | .str _,.int _=>true | .bl _,.str _=>true | .str _,.bl _=>true
 | _,_=>false
def rEq:R2:=fun x y H Q=>scal x y=true/\Q (.bl (decide (x=y))) H
def rNe:R2:=fun x y H Q=>scal x y=true/\Q (.bl (!decide (x=y))) H
theorem Xf {i j:Int}:decide (V.int i=V.int j)=(i == j):=by
 rw[BX]
 simp
theorem dec_bl {i j:Bool}:decide (V.bl i=V.bl j)=(i == j):=by
 rw[BX]
 simp
theorem Xg {i j:Str}:decide (V.str i=V.str j)=(i == j):=by
 rw[BX]
 simp
theorem Xh {i j:Array UInt8}:decide (V.byt i=V.byt j)=(i.toList == j.toList):=by
 rw[BX]
 cases i
 cases j
 simp
section
variable {X : Cx} {a b c : Expr} {ta tb tc : TE} {pos : Pos}
theorem qg {pins:List (Addr×Obj)} {σ:St} {H:Hp} {s:Shared} {Q:VK} {k k':Bool} (I:Inv X pins σ H s) (q:Q (.bl k) H) (e:k=k'):EP X pins σ Q (.bool k') s:=by
 subst e
 exact⟨.bl k,H,I,rfl,q⟩
theorem Zr:OpR X (compareOp .Eq) rEq:=by
 intro pins s σ H x y v u Q I rx ry h
 obtain⟨hs,q⟩:=h
 cases x with
 | non=>
  cases rx
  cases y with
  | non=>cases ry;exact PySem.EqNone.eq_none_none (qg I q (by simp))
  | bl j=>cases ry;exact PySem.EqNone.eq_none_bool (qg I q (by simp))
  | int j=>obtain⟨t',rfl⟩:=ry;exact PySem.EqNone.eq_none_int (qg I q (by simp))
  | str j=>obtain⟨t',rfl⟩:=ry;exact PySem.EqNone.eq_none_str (qg I q (by simp))
  | _=>exact absurd (show false=true from hs) AS
 | bl i=>
  cases rx
  cases y with
  | non=>cases ry;exact PySem.EqNone.eq_bool_none (qg I q (by simp))
  | bl j=>cases ry;exact eq_bool (qg I q dec_bl)
  | str j=>obtain⟨t',rfl⟩:=ry;exact PySem.EqMixed.eq_bool_str (qg I q (by simp))
  | _=>exact absurd (show false=true from hs) AS
 | int i=>
  obtain⟨t,rfl⟩:=rx
  cases y with
  | non=>cases ry;exact PySem.EqNone.eq_int_none (qg I q (by simp))
  | int j=>obtain⟨t',rfl⟩:=ry;exact eq_int (qg I q Xf)
  | str j=>obtain⟨t',rfl⟩:=ry;exact PySem.EqMixed.eq_int_str (qg I q (by simp))
  | _=>exact absurd (show false=true from hs) AS
 | str i=>
  obtain⟨t,rfl⟩:=rx
  cases y with
  | non=>cases ry;exact PySem.EqNone.eq_str_none (qg I q (by simp))
  | bl j=>cases ry;exact PySem.EqMixed.eq_str_bool (qg I q (by simp))
  | int j=>obtain⟨t',rfl⟩:=ry;exact PySem.EqMixed.eq_str_int (qg I q (by simp))
  | str j=>obtain⟨t',rfl⟩:=ry;exact eq_str (qg I q Xg)
  | _=>exact absurd (show false=true from hs) AS
 | byt i=>
  obtain⟨t,rfl⟩:=rx
  cases y with
  | byt j=>obtain⟨t',rfl⟩:=ry;exact PySem.W.eq_bytes (qg I q Xh)
  | _=>exact absurd (show false=true from hs) AS
 | _=>cases y <;> exact absurd (show false=true from hs) AS
theorem Xi:OpR X (compareOp .NotEq) rNe:=by
 intro pins s σ H x y v u Q I rx ry h
 obtain⟨hs,q⟩:=h
 cases x with
 | non=>
  cases rx
  cases y with
  | non=>cases ry;exact PySem.EqNone.ne_none_none (qg I q (by simp))
  | bl j=>cases ry;exact PySem.EqNone.ne_none_bool (qg I q (by simp))
  | int j=>obtain⟨t',rfl⟩:=ry;exact PySem.EqNone.ne_none_int (qg I q (by simp))
  | str j=>obtain⟨t',rfl⟩:=ry;exact PySem.EqNone.ne_none_str (qg I q (by simp))
  | _=>exact absurd (show false=true from hs) AS
 | bl i=>
  cases rx
  cases y with
  | non=>cases ry;exact PySem.EqNone.ne_bool_none (qg I q (by simp))
  | bl j=>cases ry;exact ne_bool (qg I q (BQ not dec_bl))
  | str j=>obtain⟨t',rfl⟩:=ry;exact PySem.EqMixed.ne_bool_str (qg I q (by simp))
  | _=>exact absurd (show false=true from hs) AS
 | int i=>
  obtain⟨t,rfl⟩:=rx
  cases y with
  | non=>cases ry;exact PySem.EqNone.ne_int_none (qg I q (by simp))
  | int j=>obtain⟨t',rfl⟩:=ry;exact ne_int (qg I q (BQ not Xf))
  | str j=>obtain⟨t',rfl⟩:=ry;exact PySem.EqMixed.ne_int_str (qg I q (by simp))
  | _=>exact absurd (show false=true from hs) AS
 | str i=>
  obtain⟨t,rfl⟩:=rx
  cases y with
  | non=>cases ry;exact PySem.EqNone.ne_str_none (qg I q (by simp))
  | bl j=>cases ry;exact PySem.EqMixed.ne_str_bool (qg I q (by simp))
  | int j=>obtain⟨t',rfl⟩:=ry;exact PySem.EqMixed.ne_str_int (qg I q (by simp))
  | str j=>obtain⟨t',rfl⟩:=ry;exact ne_str (qg I q (BQ not Xg))
  | _=>exact absurd (show false=true from hs) AS
 | byt i=>
  obtain⟨t,rfl⟩:=rx
  cases y with
  | byt j=>obtain⟨t',rfl⟩:=ry;exact PySem.W.ne_bytes (qg I q (BQ not Xh))
  | _=>exact absurd (show false=true from hs) AS
 | _=>cases y <;> exact absurd (show false=true from hs) AS
theorem op_lt:OpR X (compareOp .Lt) (rI0 fun i j=>.bl (decide (i < j))):=opB0 fun _ _ _ _ _ _ _ q=>lt_int q
theorem op_le:OpR X (compareOp .LtE) (rI0 fun i j=>.bl (decide (i<=j))):=opB0 fun _ _ _ _ _ _ _ q=>le_int q
theorem Xj:OpR X (compareOp .Gt) (rI0 fun i j=>.bl (decide (j < i))):=opB0 fun _ _ _ _ _ _ _ q=>gt_int q
theorem op_ge:OpR X (compareOp .GtE) (rI0 fun i j=>.bl (decide (j<=i))):=opB0 fun _ _ _ _ _ _ _ q=>ge_int q
theorem op_isN:OpR X (compareOp .Is) (fun x y H Q=>y=.non/\Q (.bl (decide (x=.non))) H):=by
 intro pins s σ H x y v u Q I rx ry h
 obtain⟨rfl,q⟩:=h
 cases ry
 refine is_none_gen (qg I q ?_)
 cases x <;> first
  | (cases rx;rfl)
  | (obtain⟨t,rfl⟩:=rx;rfl)
theorem zW (b:Expr) {op:CmpOp} (h:op ≠ .In:=by decide) (h2:op ≠ .NotIn:=by decide):behindInMarks op b=false:=by
 have e1:(op == CmpOp.In)=false:=by cases op <;> first | rfl | exact absurd rfl h
 have e2:(op == CmpOp.NotIn)=false:=by cases op <;> first | rfl | exact absurd rfl h2
 cases b <;> simp[behindInMarks,e1,e2]
theorem jp {op:CmpOp} {r:R2} (ho:OpR X (compareOp op) r) (ha:PE X a ta) (hb:PE X b tb) (hm:behindInMarks op b=false):PE X (.Compare a [op] [b] pos) (tOp r ta tb):=by
 intro pins s σ H Q I h
 exact wpAny_Compare1 (binT ha hb I h fun v u s2 x y H2 I2 rx ry q=>ho pins s2 σ H2 x y v u Q I2 rx ry q) hm
def tTest (t:TE):TT:=fun σ H Q=>t σ H fun x H'=>∃ k,x=.bl k/\Q k H'
theorem zF {op:CmpOp} {r:R2} (ho:OpR X (compareOp op) r) (ha:PE X a ta) (hb:PE X b tb) (hm:behindInMarks op b=false):PT X (.Compare a [op] [b] pos) (tTest (tOp r ta tb)):=by
 intro pins s σ H Q I h
 refine wpAny_isTrue_Compare1 (thn (ha pins s σ H _ I h) fun v s1 ⟨x,H1,I1,r1,q1⟩=>thn (hb pins s1 σ H1 _ I1 q1) fun u s2 ⟨y,H2,I2,r2,q2⟩=>
  thn (ho pins s2 σ H2 x y v u _ I2 r1 r2 q2) fun c s3 ⟨z,H3,I3,r3,k,e,q3⟩=>?_) hm
 subst e
 cases r3
 exact CJ ⟨H3,I3,q3⟩
def tChain (r r':R2) (ta tb tc:TE):TE:=fun σ H Q=>ta σ H fun x H1=>tb σ H1 fun y H2=>r x y H2 fun z H3=>∃ k,z=.bl k /\
 (if k=true then tc σ H3 fun w' H4=>r' y w' H4 Q else Q (.bl false) H3)
theorem pe_chain {op op':CmpOp} {r r':R2} (ho:OpR X (compareOp op) r) (ho':OpR X (compareOp op') r') (ha:PE X a ta) (hb:PE X b tb) (hc:PE X c tc)
  (hm:lastMarks [op,op'] [b,c]=false:=by with_unfolding_all rfl):PE X (.Compare a [op,op'] [b,c] pos) (tChain r r' ta tb tc):=by
 intro pins s σ H Q I h
 refine Compare_chain (thn (ha pins s σ H _ I h) fun v s1 ⟨x,H1,I1,r1,q1⟩=>chain_link (thn (hb pins s1 σ H1 _ I1 q1) fun u s2 ⟨y,H2,I2,r2,q2⟩=>
  thn (ho pins s2 σ H2 x y v u _ I2 r1 r2 q2) fun d s3 ⟨z,H3,I3,r3,k,e,q3⟩=>?_)) hm
 subst e
 cases r3
 refine CJ ?_
 cases k with
 | false=>exact ite_ff ⟨.bl false,H3,I3,rfl,q3⟩
 | true=>exact ite_tt (chain_last (thn (hc pins s3 σ H3 _ I3 q3) fun w' s4 ⟨z',H4,I4,r4,q4⟩=>ho' pins s4 σ H4 y z' u w' Q I4 r2 r4 q4))
theorem Yw:(sizeLine:Nat) < 2 ^ 63:=by rw[Dh];decide
theorem wE:OpR X (binaryOp .Add) (fun x y H Q=>∃ i j,x=.str i/\y=.str j/\i.length+j.length<=sizeLine/\Q (.str (i++j)) H):=by
 intro pins s σ H x y v u Q I rx ry h
 obtain⟨i,j,rfl,rfl,hz,q⟩:=h
 obtain⟨t,rfl⟩:=rx
 obtain⟨t',rfl⟩:=ry
 exact add_str (fun t' tk=>⟨.str (i++j),H,I.tok _,⟨_,rfl⟩,q⟩) hz
theorem vals1 {x:V} {us:List Value} (r:qA [x] us):∃ u,us=[u]/\RelV x u:=by
 cases r with
 | cons r1 r2=>cases r2;exact⟨_,rfl,r1⟩
theorem vals2 {x y:V} {us:List Value} (r:qA [x,y] us):∃ u w',us=[u,w']/\RelV x u/\RelV y w':=by
 cases r with
 | cons r1 r2=>
  cases r2 with
  | cons r3 r4=>cases r4;exact⟨_,_,rfl,r1,r3⟩
theorem call_abs:jB X (.builtin "abs") (fun xs H Q=>∃ i,xs=[.int i]/\Q (.int (if i < 0 then -i else i)) H):=by
 intro pins s σ H xs us Q I r h
 obtain⟨i,rfl,q⟩:=h
 obtain⟨u,rfl,t,rfl⟩:=vals1 r
 exact call_abs_int fun u tk=>⟨.int (if i < 0 then -i else i),H,I.tok _,⟨_,rfl⟩,q⟩
theorem Xk:jB X (.type "int") (fun xs H Q=>(∃ i,xs=[.int i]/\Q (.int i) H)\/∃ k,xs=[.bl k]/\Q (.int (if k then 1 else 0)) H):=by
 intro pins s σ H xs us Q I r h
 rcases h with ⟨i,rfl,q⟩ | ⟨k,rfl,q⟩
 ·obtain⟨u,rfl,t,rfl⟩:=vals1 r
  exact call_int_int ⟨.int i,H,I,⟨_,rfl⟩,q⟩
 ·obtain⟨u,rfl,r1⟩:=vals1 r
  cases r1
  exact call_int_bool ⟨.int (if k then 1 else 0),H,I.tok _,⟨_,rfl⟩,q⟩
def LenV (K:PySem.W.Frag) (x:V) (H:Hp) (n:Nat):Prop:=
 match x with
 | .str y=>y.length<=sizeLine/\n=y.length
 | .byt y=>y.size<=sizeLine/\n=y.size
 | .ref p=>(∃ xs,SqL K H p xs/\n=xs.length)\/∃ xs,SqT K H p xs/\n=xs.length
 | _=>False
theorem call_len:jB X (.builtin "len") (fun xs H Q=>∃ x n,xs=[x]/\LenV X.K x H n/\Q (.int n) H):=by
 intro pins s σ H xs us Q I r h
 obtain⟨x,n,rfl,e,q⟩:=h
 obtain⟨u,rfl,rx⟩:=vals1 r
 have hl:=Yw
 have hs:sizeLine=16777216:=Dh
 cases x with
 | str y=>
  obtain⟨t,rfl⟩:=rx
  obtain⟨hy,e'⟩:y.length<=sizeLine/\n=y.length:=e
  subst e'
  exact len_str (by omega) ⟨.int _,H,I.tok _,⟨_,rfl⟩,q⟩
 | byt y=>
  obtain⟨t,rfl⟩:=rx
  obtain⟨hy,e'⟩:y.size<=sizeLine/\n=y.size:=e
  subst e'
  exact PySem.W.len_bytes (by omega) ⟨.int _,H,I.tok _,⟨_,rfl⟩,q⟩
 | ref p=>
  cases rx
  have e':(∃ xs,SqL X.K H p xs/\n=xs.length)\/∃ xs,SqT X.K H p xs/\n=xs.length:=e
  rcases e' with ⟨xs,hx,e'⟩ | ⟨xs,hx,e'⟩
  ·subst e'
   obtain⟨its,r',pl,hz⟩:=I.list hx
   have hlen:=r'.length
   exact Calls.call_len_list pl.isList (by simp only[List.size_toArray];omega) ⟨.int xs.length,H,I.tok _,⟨_,by simp only[List.size_toArray];rw[hlen]⟩,q⟩
  ·subst e'
   obtain⟨its,r',pl,hz⟩:=I.tuple hx
   have hlen:=r'.length
   exact len_tuple pl (by simp only[List.size_toArray];omega) ⟨.int xs.length,H,I.tok _,⟨_,by simp only[List.size_toArray];rw[hlen]⟩,q⟩
 | _=>exact (show False from e).elim
end
structure ObjM (h:Heap) (x dx C:Addr) (mA:Str->Option Value):Prop where
 obj:h.get? x=some (PySem.W.instObj C dx)
 ns:h.Ns1 dx mA
 ne:dx ≠ x
theorem Xl {h:Heap} {dx:Addr} {mA:Str->Option Value} (n:h.Ns1 dx mA):∃ od,h.get? dx=some od/\∀ name,PySem.W.lookIn name od=some (mA name):=by
 obtain⟨o,es,ep,ho,hd,hk,_,hm⟩:=n
 refine⟨o,ho,fun name=>?_⟩
 have e:=hm name
 unfold nsFind findBy at e
 rw[<- Array.find?_toList] at e
 unfold PySem.W.lookIn
 rw[hd]
 dsimp only
 split
 ·rename_i y q
  rw[q] at e
  exact BQ some e
 ·rename_i q
  rw[q] at e
  have a:es.toList.any (·.refKey)=false:=by
   rw[List.any_eq_false]
   intro y hy
   obtain⟨z,t,hkey⟩:=hk y (Array.mem_toList_iff.mp hy)
   simp[DictEntry.refKey,hkey]
  have a':¬ es.toList.any (·.refKey)=true:=by rw[a];exact AS
  rw[if_neg a']
  exact BQ some e
theorem ObjM.look {h:Heap} {x dx C:Addr} {mA:Str->Option Value} (I:ObjM h x dx C mA):∃ od,PySem.W.InstAt h x (PySem.W.instObj C dx) C (some od)/\∀ name,PySem.W.lookIn name od=some (mA name):=
 let ⟨od,ho,hl⟩:=Xl I.ns
 ⟨od,⟨I.obj,rfl,rfl,ho⟩,hl⟩
section
variable {prog : Program} {w : World} {A : Around} {E : Value -> Shared -> Prop} {s : Shared} {K : PySem.W.Frag} {x dx C f : Addr} {mA : Str -> Option Value} {name : Str} {v : Value}
end
theorem xS.some_of {v:V} {o:Option Value} (r:xS (some v) o):∃ u,o=some u/\RelV v u:=by
 cases o with
 | none=>exact (show False from r).elim
 | some u=>exact⟨u,rfl,r⟩
section
variable {P : Program} {w : World} {H H' : Hp} {h h' : Heap} {a C dx : Addr} {fs fs' : List (Str × V)}
theorem ins_get (hok:HOk P w H h) (e:H a=some (.ins C dx fs)):∃ mA,ObjM h a dx C mA/\(∀ f,xS (fs.lookup f) (mA f))/\PySem.Within mA (fs.map (·.1))/\fs.length<=1000/\H dx=some (.own a):=by
 obtain⟨d,z,ne,ob,mA,n,r,q⟩:=(show qI P w H h a (.ins C dx fs) from hok a _ e)
 exact⟨mA,⟨ob,n,ne⟩,r,q,z,d⟩
end
structure Cls (K:PySem.W.Frag) (C:Addr):Prop where
 pg:PySem.W.plainGet K C Str.empty=true
 hd:PySem.W.hasDictIn K C=true
 po:PySem.W.plainOver K C=true
 sa:PySem.W.findIn K (.ref C) "__setattr__" = some (some (.builtin "object.__setattr__"))
theorem Cls.get {K:PySem.W.Frag} {C:Addr} (c:Cls K C) (f:Str):PySem.W.plainGet K C f=true:=c.pg
section
variable {X : Cx} {pins : List (Addr × Obj)} {σ : St} {H : Hp} {s : Shared} {a C dx : Addr} {fs : List (Str × V)} {f : Str} {v : V} {A : Around} {E : Value -> Shared -> Prop}
end
section
variable {X : Cx} {o e value : Expr} {f : Str} {pos pos' tpos : Pos} {ta tv : TE}
end
section
variable {X : Cx} {pins : List (Addr × Obj)} {σ : St} {H : Hp} {s : Shared} {A : Around} {E : Value -> Shared -> Prop} {Q : Value -> Shared -> Prop} {c : Value} {b : Bool}
inductive Yx (K:PySem.W.Frag) (H:Hp):V->Value->Prop where
 | non:Yx K H .non (.type "NoneType")
 | bl (x:Bool):Yx K H (.bl x) (.type "bool")
 | int (i:Int):Yx K H (.int i) (.type "int")
 | str (x:Str):Yx K H (.str x) (.type "str")
 | flt (x:UInt64):Yx K H (.flt x) (.type "float")
 | lst {a:Addr} {xs:List V} (e:H a=some (.lst xs)):Yx K H (.ref a) (.type "list")
 | frz {a:Addr} {o:Obj} {xs:List V} (e:H a=some (.frz o (.lst xs))):Yx K H (.ref a) (.type "list")
 | tup {a:Addr} {xs:List V} (e:H a=some (.tup xs)):Yx K H (.ref a) (.type "tuple")
 | dK {a:Addr} {kvs:List (Key×V)} (e:H a=some (.dK kvs)):Yx K H (.ref a) (.type "dict")
 | dT {a:Addr} {kvs:List (List Key×V)} (e:H a=some (.dT kvs)):Yx K H (.ref a) (.type "dict")
 | ins {a C dx:Addr} {fs:List (Str×V)} (e:H a=some (.ins C dx fs)) (cl:Cls K C) (ha:PySem.W.findIn K (.ref C) "__class__" = some (some (.builtin "object.__class__")))
   (hn:PySem.W.specialIn K (.builtin "object.__class__") "__get__" = some (some (.builtin "getset_descriptor.__get__"))) (htk:PySem.W.takesIn K (.builtin "object.__class__")=some true)
   (hm:PySem.W.mroIn K C (.type "object")=some true):Yx K H (.ref a) (.ref C)
theorem Xm {x:V} {u t:Value} (I:Inv X pins σ H s) (rx:RelV x u) (ty:Yx X.K H x t) (e:PySem.W.kitOne X.K t c=some b) (h:∀ tk,Q (.bool b) { s with toks:=tk }) :
  wpAny (model X.prog X.w) A (call (.builtin "isinstance") [u,c]) Q E s:=by
 cases ty with
 | non=>cases (show u=Value.none from rx);exact Be PySem.W.kitx_none I.kIn True.intro e (fun z=>nomatch z) h
 | bl y=>cases (show u=Value.bool y from rx);exact Be PySem.W.kitx_bool I.kIn True.intro e (fun z=>nomatch z) h
 | int i=>obtain⟨t,q⟩:=(show ∃ t,u=Value.int i t from rx);cases q;exact Be PySem.W.kitx_int I.kIn True.intro e (fun z=>nomatch z) h
 | str y=>obtain⟨t,q⟩:=(show ∃ t,u=Value.str y t from rx);cases q;exact Be PySem.W.kitx_str I.kIn True.intro e (fun z=>nomatch z) h
 | flt y=>obtain⟨t,q⟩:=(show ∃ t,u=Value.float y t from rx);cases q;exact Be PySem.W.kitx_float I.kIn True.intro e (fun z=>nomatch z) h
 | @lst a xs ea=>
  cases (show u=Value.ref a from rx)
  obtain⟨_,_,n,_,h1⟩:=(show qI X.prog X.w H s.heap a (.lst xs) from I.hok a _ ea)
  exact Be PySem.W.kitx_list I.kIn ⟨_,h1,rfl⟩ e (fun z=>nomatch z) h
 | @frz a ob xs ea=>
  cases (show u=Value.ref a from rx)
  obtain⟨_,_,_,n,_,h1⟩:=(show qI X.prog X.w H s.heap a (.frz ob (.lst xs)) from I.hok a _ ea)
  exact Be PySem.W.kitx_list I.kIn ⟨_,h1,rfl⟩ e (fun z=>nomatch z) h
 | @tup a xs ea=>
  cases (show u=Value.ref a from rx)
  obtain⟨_,_,_,p⟩:=(show qI X.prog X.w H s.heap a (.tup xs) from I.hok a _ ea)
  obtain⟨o,h1,h2,_⟩:=p
  exact Be PySem.W.kitx_tuple I.kIn ⟨o,h1,h2⟩ e (fun z=>nomatch z) h
 | @dK a kvs ea=>
  cases (show u=Value.ref a from rx)
  obtain⟨_,_,vs,_,p⟩:=(show qI X.prog X.w H s.heap a (.dK kvs) from I.hok a _ ea)
  obtain⟨o,es,ep,h1,h2,_⟩:=p
  exact Be PySem.W.kitx_dict I.kIn ⟨o,h1,h2.1⟩ e (fun z=>nomatch z) h
 | @dT a kvs ea=>
  cases (show u=Value.ref a from rx)
  obtain⟨_,_,xs,_,o,es,ep,h1,h2,_⟩:=(show qI X.prog X.w H s.heap a (.dT kvs) from I.hok a _ ea)
  exact Be PySem.W.kitx_dict I.kIn ⟨o,h1,h2.1⟩ e (fun z=>nomatch z) h
 | @ins a C dx fs ea cl ha hn htk hm=>
  cases (show u=Value.ref a from rx)
  obtain⟨mA,O,_⟩:=ins_get I.hok ea
  obtain⟨od,J,_⟩:=O.look
  exact Be (PySem.W.kitx_own (cl.get _) cl.hd ha hn htk hm) I.kIn J e (fun z=>nomatch z) h
end
structure QI (k:Nat) (A:Around):Prop where
 hd:A.handled=none
 dp:A.depth+3 * k+5 < recursionLimit
 un:A.units+16 * k+200 < cLine
theorem QI.mono {j k:Nat} {A:Around} (r:QI k A) (h:j<=k):QI j A:=⟨r.hd,by have:=r.dp;omega,by have:=r.un;omega⟩
theorem QI.deeper {k:Nat} {A:Around} (r:QI (k+1) A) (env:Env):QI k (A.deeper env):=
 ⟨r.hd,by have:=r.dp;show A.depth+1+3 * k+5 < _;omega,by have:=r.un;show A.units+3+16 * k+200 < _;omega⟩
theorem QI.depth {k:Nat} {A:Around} (r:QI k A):A.depth < recursionLimit:=by have:=r.dp;omega
theorem QI.units {k:Nat} {A:Around} (r:QI k A):A.units+64 < cLine:=by have:=r.un;omega
def tNil:TA:=fun _ H Q=>Q [] H
def tCons (ta:TE) (tr:TA):TA:=fun σ H Q=>ta σ H fun x H1=>tr σ H1 fun xs H2=>Q (x :: xs) H2
section
variable {X : Cx} {e : Expr} {es : List Expr} {te : TE} {t : TA} {pos : Pos}
theorem zg:PA X [] tNil:=fun _ _ _ _ H Q I h=>Calls.spliced_nil ⟨[],H,I,.nil,h⟩
theorem zd (ha:PE X e te) (hr:PA X es t) (hs:starEach (e :: es) X.env=(false,eval e X.env) :: starEach es X.env:=by rfl):PA X (e :: es) (tCons te t):=by
 intro pos pins s σ H Q I h
 rw[hs]
 show wpAny _ _ (spliced ((false,eval e X.env) :: backTo pos (starEach es X.env))) _ _ s
 refine Calls.spliced_cons (thn (ha pins s σ H _ I h) fun u s1 ⟨x,H1,I1,r1,q1⟩=>?_)
 exact thn (hr pos pins s1 σ H1 _ I1 q1) fun us s2 ⟨xs,H2,I2,r2,q2⟩=>⟨x :: xs,H2,I2,.cons r1 r2,q2⟩
def tTup (t:TA):TE:=fun σ H Q=>t σ H fun xs H1=>xs.length<=sizeLine/\∀ p,H1 p=none->Q (.ref p) (upd H1 p (.tup xs))
def tLst (t:TA):TE:=fun σ H Q=>t σ H fun xs H1=>xs.length<=sizeLine/\∀ p,H1 p=none->Q (.ref p) (upd H1 p (.lst xs))
theorem qd {x1} (h:PA X es t):PE X (.Tuple es x1 pos) (tTup t):=by
 intro pins s σ H Q I hq
 refine wpAny_Tuple_spliced (thn (h pos pins s σ H _ I hq) fun us s1 ⟨xs,H1,I1,r,z,q⟩=>⟨by rw[<- r.length];exact z,?_⟩)
 have hf:H1 s1.heap.objs.size=none:=I1.hok.fresh (AK _)
 refine⟨.ref s1.heap.objs.size,upd H1 s1.heap.objs.size (.tup xs),I1.laid (t':=s1.toks) (fun b u e=>AF _ e) (AK _) ?_,rfl,q _ hf⟩
 exact⟨z,us,r,⟨_,AO _ rfl,rfl,⟨_,rfl⟩,rfl⟩⟩
theorem zN (h:PA X es t):PE X (.List es pos) (tLst t):=by
 intro pins s σ H Q I hq
 refine wpAny_List_spliced (thn (h pos pins s σ H _ I hq) fun us s1 ⟨xs,H1,I1,r,z,q⟩=>⟨by rw[<- r.length];exact z,?_⟩)
 have hf:H1 s1.heap.objs.size=none:=I1.hok.fresh (AK _)
 refine⟨.ref s1.heap.objs.size,upd H1 s1.heap.objs.size (.lst xs),I1.laid (t':=s1.toks) (fun b u e=>AF _ e) (AK _) ?_,rfl,q _ hf⟩
 exact⟨z,us,0,r,AO _ rfl⟩
end
abbrev Sp:=List V->Hp->VK->XK->Prop
abbrev CXT:=List Env->Hp->Shared->XK->Value->Shared->Prop
structure Env0 (P:Program) (w:World) (K:PySem.W.Frag) (mg:Str->Option Value) (base:Heap) (A:Around) (outer:List Env) (s:Shared) (H:Hp):Prop where
 frames:A.frames=some outer
 mod:Mod K mg base
 bs:∀ b o,base.get? b=some o->s.heap.get? b=some o/\H b=none
 bsz:base.objs.size<=s.heap.objs.size
 funs:s.heap.FunFrames base outer
 frf:∀ b ∈ frs outer,H b=none
 hok:HOk P w H s.heap
 bare:AllBare s.gens
def CE (outer:List Env) (P:Program) (w:World) (H:Hp) (s:Shared) (Q:VK) (u:Value) (s':Shared):Prop:=
 ∃ v H',s'.os=s.os/\AllBare s'.gens/\Un (frs outer) [] H H' s.heap s'.heap/\HOk P w H' s'.heap/\RelV v u/\Q v H'
def CR (CX:CXT) (outer:List Env) (P:Program) (w:World) (H:Hp) (s:Shared) (Q:VK) (E:XK) (r:Result) (s':Shared):Prop:=
 match r with
 | .ok (.ret u)=>CE outer P w H s Q u s'
 | .ok _=>False
 | .error e=>CX outer H s E e s'
structure jt (P:Program) (w:World) (K:PySem.W.Frag) (mg:Str->Option Value) (base:Heap) (CX:CXT) (k:Nat) (f:Addr) (fd:FuncData) (ps:List Str) (sp:Sp):Prop where
 len:∀ vs H Q E,sp vs H Q E->vs.length=ps.length
 run:∀ (A:Around) (outer:List Env) (s:Shared) (H:Hp) (args:Args) (us:List Value) (vs:List V) (Q:VK) (E:XK),QI k A->Env0 P w K mg base A outer s H->BindsTo s fd args (ps.zip us)->qA vs us->sp vs H Q E ->
  codeAny (model P w) A (.call (.ref f) args) (CR CX outer P w H s Q E) s
section
variable {X : Cx} {pins : List (Addr × Obj)} {σ : St} {H : Hp} {s s' : Shared}
theorem Inv.env0 (I:Inv X pins σ H s):Env0 X.prog X.w X.K X.mg X.base X.A X.stack s H:=
 ⟨I.ok.frames,I.ok.mod,I.bs,Ab I.ok.bsz I.sz,I.stack,I.stkFree,I.hok,I.bare⟩
theorem Inv.after {Q:VK} {u:Value} (I:Inv X pins σ H s) (h:CE X.stack X.prog X.w H s Q u s'):EP X pins σ Q u s':=by
 obtain⟨v,H',os,bare,un,hok,r,q⟩:=h
 obtain⟨hh,g,d,t,os'⟩:=s'
 obtain rfl:os'=s.os:=os
 exact⟨v,H',I.call (h':=hh) (g':=g) (d':=d) (t':=t) (ch:=[]) un hok bare (fun b z=>absurd z (by simp)),r,q⟩
end
def tCall (sp:Sp) (dvs:List V) (E:XK) (t:TA):TE:=fun σ H Q=>t σ H fun vs H1=>sp (vs++dvs) H1 Q E
def Binds (K:PySem.W.Frag) (fd:FuncData) (ps:List Str) (ds:List Value):Prop:=
 ∀ (s:Shared) (us:List Value),K.In s.heap->(us++ds).length=ps.length->BindsTo s fd ⟨us,[]⟩ (ps.zip (us++ds))
theorem Binds.all {K:PySem.W.Frag} {fd:FuncData} {ps:List Str} (h:∀ us:List Value,us.length=ps.length->bindArgs fd ⟨us,[]⟩=pure (ps.zip us)):Binds K fd ps []:=fun s us _ hl=>by
 rw[BW] at hl ⊢
 exact .of_eq (h us hl)
def Xn (CX:CXT) (X:Cx) (E:XK):Prop:=∀ (pins:List (Addr×Obj)) (σ:St) (H:Hp) (s:Shared) (e:Value) (s':Shared),Inv X pins σ H s->CX X.stack H s E e s'->X.xe e s'
section
variable {X : Cx} {CX : CXT} {k : Nat} {f C : Addr} {fd : FuncData} {ps : List Str} {sp : Sp} {dvs : List V} {ds : List Value} {E : XK} {x m : Str} {p pos apos : Pos} {e o : Expr} {es : List Expr} {ta : TE} {t : TA}
theorem run_fn {pins:List (Addr×Obj)} {σ:St} {H:Hp} {s:Shared} {Q:VK} {us:List Value} {vs:List V} (F:jt X.prog X.w X.K X.mg X.base CX k f fd ps sp) (hr:QI k X.A) (hb:Binds X.K fd ps ds) (hd:qA dvs ds) (hx:Xn CX X E)
  (I:Inv X pins σ H s) (r:qA vs us) (h:sp (vs++dvs) H Q E):wpAny (model X.prog X.w) X.A (call (.ref f) us) (EP X pins σ Q) X.xe s:=by
 have r2:qA (vs++dvs) (us++ds):=r.append hd
 have hl:(us++ds).length=ps.length:=by rw[<- r2.length];exact F.len _ _ _ _ h
 refine wpAny_call (CL (F.run X.A X.stack s H ⟨us,[]⟩ (us++ds) (vs++dvs) Q E hr I.env0 (hb s us I.kIn hl) r2 h) fun r s' hq=>?_)
 cases r with
 | error e=>exact hx pins σ H s e s' I hq
 | ok fl=>
  cases fl with
  | ret u=>exact I.after hq
  | next=>exact False.elim hq
  | brk=>exact False.elim hq
  | cont=>exact False.elim hq
theorem pe_call (F:jt X.prog X.w X.K X.mg X.base CX k f fd ps sp) (hr:QI k X.A) (hg:Gl X x) (hm:X.mg x=some (.ref f)) (hk:PySem.W.keepIn X.K (.ref f)=true) (hb:Binds X.K fd ps ds) (hd:qA dvs ds) (hx:Xn CX X E)
  (ha:PA X (e :: es) t) (hdb:(x == ("__debug__" : Str))=false:=by decide) (he:starEach (e :: es) X.env=(false,eval e X.env) :: starEach es X.env:=by rfl) (hpl:(backTo pos (starEach es X.env)).any (·.1)=false:=by rfl) :
  PE X (.Call (.Name x p) (e :: es) [] pos) (tCall sp dvs E t):=by
 intro pins s σ H Q I h
 refine ET (ld_glob I hg hm ?_ hdb)
 refine PySem.W.callWith_K (h₀:=X.base) I.ok.mod.kin hk (thn (ha pos pins s σ H _ I h) fun us s1 ⟨vs,H1,I1,r,q⟩=>⟨I1.kIn,?_⟩) he hpl
 exact run_fn F hr hb hd hx I1 r q
end
section
variable {X : Cx} {CX : CXT} {k : Nat} {f C : Addr} {fd : FuncData} {ps ks : List Str} {sp : Sp} {E : XK} {x m : Str} {p pos apos kpos : Pos} {e o : Expr} {es : List Expr} {kws : List Keyword} {te ta : TE} {t tk : TA} {nm : Option Str}
variable {g : List Value -> List Value -> List Value} {gV : List V -> List V -> List V}
end
structure zC (N P:List Str) (sc:Scope):Prop where
 kind:sc.kind=.function
 co:sc.isCoroutine=false
 gen:sc.isGenerator=false
 nd:N.Nodup
 pre:N.take P.length=P
 par:∀ x ∈ P,sc.names.lookup x=some .local\/sc.names.lookup x=some .cell
 nofree:∀ y ∈ sc.names,y.2 ≠ .free
theorem WX {kindOf:Str->Option NameKind} {x:Str}:∀ {binds:List (Str×Value)} {m:Str->Option Value},(∀ v,(x,v) ∉ binds)->bindL kindOf binds m x=m x
 | [],_,_=>rfl
 | (n,v) :: r,m,h=>by
  unfold bindL
  rw[WX fun w hw=>h w (AY _ hw)]
  split
  ·have:x ≠ n:=by rintro rfl;exact h v AW
   simp[this]
  ·rfl
theorem WY {kindOf:Str->Option NameKind} {x:Str}:∀ {binds:List (Str×Value)} {m:Str->Option Value},(∀ v,(x,v) ∉ binds)->bindC kindOf binds m x=m x
 | [],_,_=>rfl
 | (n,v) :: r,m,h=>by
  unfold bindC
  rw[WY fun w hw=>h w (AY _ hw)]
  split
  ·rfl
  ·have:x ≠ n:=by rintro rfl;exact h v AW
   simp[this]
theorem WZ {kindOf:Str->Option NameKind} {x:Str} {v:Value}:∀ {P:List Str} {vs:List Value} {i:Nat} {m:Str->Option Value},P.Nodup->P[i]? = some x->vs[i]? = some v->kindOf x=some .local ->
  bindL kindOf (P.zip vs) m x=some v
 | [],_,_,_,_,h,_,_=>by simp at h
 | _ :: _,[],_,_,_,_,h,_=>by simp at h
 | p :: P,w :: vs,0,m,nd,h1,h2,hk=>by
  simp at h1 h2;subst h1;subst h2
  show bindL kindOf ((p,w) :: P.zip vs) m p=_
  unfold bindL
  rw[WX fun v hv=>(Bf.mp nd).1 (DG hv).1,if_pos hk]
  simp
 | p :: P,w :: vs,i+1,m,nd,h1,h2,hk=>by
  show bindL kindOf ((p,w) :: P.zip vs) m x=_
  unfold bindL
  exact WZ (i:=i) (Bf.mp nd).2 (by simpa using h1) (by simpa using h2) hk
theorem W0 {kindOf:Str->Option NameKind} {x:Str} {v:Value}:∀ {P:List Str} {vs:List Value} {i:Nat} {m:Str->Option Value},P.Nodup->P[i]? = some x->vs[i]? = some v->kindOf x ≠ some .local ->
  bindC kindOf (P.zip vs) m x=some v
 | [],_,_,_,_,h,_,_=>by simp at h
 | _ :: _,[],_,_,_,_,h,_=>by simp at h
 | p :: P,w :: vs,0,m,nd,h1,h2,hk=>by
  simp at h1 h2;subst h1;subst h2
  show bindC kindOf ((p,w) :: P.zip vs) m p=_
  unfold bindC
  rw[WY fun v hv=>(Bf.mp nd).1 (DG hv).1,if_neg hk]
  simp
 | p :: P,w :: vs,i+1,m,nd,h1,h2,hk=>by
  show bindC kindOf ((p,w) :: P.zip vs) m x=_
  unfold bindC
  exact W0 (i:=i) (Bf.mp nd).2 (by simpa using h1) (by simpa using h2) hk
def start (N:List Str) (vs:List V):St:=vs.map some++List.replicate (N.length - vs.length) none
def cxOf (CX:CXT) (P:Program) (w:World) (K:PySem.W.Frag) (mg:Str->Option Value) (base:Heap) (N:List Str) (qual:Str) (scope:Scope) (f:Addr) (cd:Value) (A:Around) (outer:List Env) (s:Shared) (H:Hp) (E:XK):Cx where
 prog:=P
 w:=w
 K:=K
 mg:=mg
 base:=base
 A:=A.deeper (envOfC qual scope s.heap.objs.size f cd)
 N:=N
 s₀:=s
 H₀:=H
 env:=envOfC qual scope s.heap.objs.size f cd
 outer:=outer
 stack:=envOfC qual scope s.heap.objs.size f cd :: outer
 ex:=[]
 calm:=true
 fn:=fun _=>true
 pn:=[]
 xe:=fun e s'=>wpAny (model P w) (A.deeper (envOfC qual scope s.heap.objs.size f cd)) (leaving (envOfC qual scope s.heap.objs.size f cd) e) (fun _ s''=>CX outer H s E e s'') (fun e' s''=>CX outer H s E e' s'') s'
theorem Yy {sc:Scope} {n:Nat} {x:Str} (h:sc.names.lookup x=some .cell):∃ c,(cellsFrom n sc.names []).lookup x=some c:=by
 have q:=PySem.W.cellsFrom_some sc.names n [] (.inl h)
 exact Option.isSome_iff_exists.mp q
theorem Xo {CX:CXT} {P:Program} {w:World} {K:PySem.W.Frag} {mg:Str->Option Value} {base:Heap} {N ps:List Str} {qual:Str} {scope:Scope} {f:Addr} {cd:Value} {A:Around} {outer:List Env} {s s1:Shared} {H:Hp} {E:XK} {us:List Value} {vs:List V}
  (S:zC N ps scope) (hd:A.handled=none) (e0:Env0 P w K mg base A outer s H) (hl:vs.length=ps.length) (r:qA vs us)
  (x:InCallC s s.heap.objs.size (bindL (envOfC qual scope s.heap.objs.size f cd).kindOf (ps.zip us) fun _=>none) (cellsFrom (s.heap.objs.size+1) scope.names []) (bindC (envOfC qual scope s.heap.objs.size f cd).kindOf (ps.zip us) fun _=>none) s1) :
  Inv (cxOf CX P w K mg base N qual scope f cd A outer s H E) [] (start N vs) H s1:=by
 have hpl:ps.length<=N.length:=by have:=BQ List.length S.pre;rw[An] at this;omega
 obtain⟨h1,tk,rfl,hk⟩:=x.done
 have noA:∀ b:Addr,b ∉ (cxOf CX P w K mg base N qual scope f cd A outer s H E).ex:=fun b z=>absurd (show b ∈ ([]:List Addr) from z) (by simp)
 refine⟨⟨e0.mod,S.kind,rfl,rfl,AK _,fun y z c h1 h2=>?_,fun y hy=>?_,fun y c _ h=>?_,fun _=>hd,Around.frames_deeper e0.frames,.inr ⟨rfl,rfl⟩,fun b z=>absurd z (noA b),e0.bs,e0.bsz,fun b _ _=>noA b,fun b z=>absurd z (noA b),e0.funs,e0.frf⟩,
  rfl,e0.bare,Un.kept hk,⟨_,x.toInCall.ns,fun i y v h1 h2 h3=>?_⟩,fun y c h=>⟨_,x.cell y c h⟩,e0.hok.fresh (AK _),fun y c h=>?_,fun p hp=>absurd (show p ∈ ([]:List (Addr×Obj)) from hp) (by simp),e0.hok.kept hk,?_⟩
 ·exact name_of_addr x.apart (Ba h1) (Ba h2)
 ·have hy:scope.names.lookup y=some .cell\/scope.names.lookup y=some .free:=hy
  rcases hy with hy | hy
  ·exact Yy hy
  ·exact absurd rfl (S.nofree _ (Ba hy))
 ·exact Br (x.above y c (Ba h))
 ·have hi:i < vs.length:=by
   unfold start at h2
   by_cases hi:i < vs.length
   ·exact hi
   ·rw[Eg (by simpa using hi)] at h2
    rw[List.getElem?_replicate] at h2
    split at h2 <;> cases h2
  have ha:vs[i]? = some v:=by
   unfold start at h2
   rw[List.getElem?_append_left (by simpa using hi),AJ] at h2
   cases e:vs[i]? with
   | none=>rw[e] at h2;cases h2
   | some a=>rw[e] at h2;cases h2;rfl
  obtain⟨u,hu,rv⟩:=r.get ha
  have hp:ps[i]? = some y:=by
   rw[<- S.pre,List.getElem?_take_of_lt (by omega)];exact h1
  have ndP:ps.Nodup:=by rw[<- S.pre];exact S.nd.sublist (List.take_sublist _ _)
  refine⟨u,rv,?_⟩
  rcases S.par y (AI hp) with k | k
  ·exact .inl ⟨k,WZ ndP hp hu k⟩
  ·obtain⟨c,e⟩:=Yy (n:=s.heap.objs.size+1) k
   refine .inr ⟨.inl k,c,e,?_⟩
   have q:=x.cell y c e
   rw[W0 ndP hp hu (by show scope.names.lookup y ≠ _;rw[k];decide)] at q
   exact q
 ·exact e0.hok.fresh (Br (x.above y c (Ba h)))
 ·unfold start
  show _=N.length
  rw[AH,AB,List.length_replicate]
  omega
theorem fn_of {CX:CXT} {P:Program} {w:World} {K:PySem.W.Frag} {mg:Str->Option Value} {base:Heap} {k:Nat} {f:Addr} {name qual:Str} {params:Arguments} {body:List Stmt} {scope:Scope} {dV kV doc pm cdv ct oc:Value} {an od:Option Addr}
  {osl:Array (Option Value)} {N ps:List Str} {sp:Sp} (lk:K.lookup f=some ⟨oc,od,.func (PySem.W.fnOf name qual params body scope dV kV doc pm an cdv ct),osl⟩) (hcd:PySem.W.codeIn K cdv qual=true) (S:zC N ps scope)
  (len:∀ vs H Q E,sp vs H Q E->vs.length=ps.length)
  (hbody:∀ (A:Around) (outer:List Env) (s:Shared) (H:Hp) (vs:List V) (Q:VK) (E:XK),QI k (A.deeper (envOfC qual scope s.heap.objs.size f cdv))->sp vs H Q E ->
   ∃ t,PSs (cxOf CX P w K mg base N qual scope f cdv A outer s H E) body t/\t { nx:=fun _ H'=>Q .non H',rt:=Q } (start N vs) H) :
  jt P w K mg base CX (k+1) f (PySem.W.fnOf name qual params body scope dV kV doc pm an cdv ct) ps sp:=by
 refine⟨len,fun A outer s H args us vs Q E hr e0 hb r hsp=>?_⟩
 have hl:=len _ _ _ _ hsp
 have KX:K.In s.heap:=e0.mod.kin.keeps fun b o e=>(e0.bs b o e).1
 have lim:s.heap.NoLimit:=e0.mod.nolimit.keeps fun b o e=>(e0.bs b o e).1
 have hkind:∀ y ∈ ps.zip us,scope.names.lookup y.1=some .local\/(scope.names.lookup y.1=some .cell/\((cellsFrom (s.heap.objs.size+1) scope.names []).lookup y.1).isSome=true):=fun ⟨n,v⟩ hy=>by
  rcases S.par n (DG hy).1 with q | q
  ·exact .inl q
  ·exact .inr ⟨q,PySem.W.cellsFrom_some _ _ _ (.inl q)⟩
 refine codeAny_call_function hr.depth (KX _ _ lk) rfl S.co S.gen rfl (PySem.W.codeRec_of KX hcd) (hb _ _ _ _ ?_)
 refine wpAny_newFunctionEnv_cells S.kind hkind fun env he s1 x=>?_
 subst he
 refine⟨lim.keeps x.toInCall.keep,codeAny_func ?_⟩
 obtain⟨t,ht,hq⟩:=hbody A outer s H vs Q E (hr.deeper _) hsp
 have I:Inv (cxOf CX P w K mg base N qual scope f cdv A outer s H E) [] (start N vs) H s1:=Xo S hr.hd e0 hl r x
 refine C6 (ht [] s1 (start N vs) H _ I hq) (fun fl s' hs=>?_) fun e s' hs=>hs
 have fin:∀ {σ':St} {H':Hp} {v:V} {u:Value},Inv (cxOf CX P w K mg base N qual scope f cdv A outer s H E) [] σ' H' s'->RelV v u->Q v H'->CE outer P w H s Q u s':=
  fun {σ' H' v u} J rv q=>⟨v,H',J.os,J.bare,J.base,J.hok,rv,q⟩
 cases fl with
 | ret u=>
  obtain⟨v,σ',H',J,rv,q⟩:=hs
  exact fin J rv q
 | next=>
  obtain⟨σ',H',J,q⟩:=hs
  exact fin (v:=V.non) (u:=Value.none) J rfl q
 | brk=>
  obtain⟨_,_,_,q⟩:=hs
  exact False.elim q
 | cont=>
  obtain⟨_,_,_,q⟩:=hs
  exact False.elim q
section
variable {X : Cx} {x : Str} {p pos : Pos} {e : Expr} {es : List Expr} {t : TA} {id T : String} {r : List V -> Hp -> VK -> Prop}
def tCB (r:List V->Hp->VK->Prop) (t:TA):TE:=fun σ H Q=>t σ H fun vs H1=>r vs H1 Q
theorem zA (hc:jB X (.builtin id) r) (hg:Gl X x) (hm:X.mg x=none) (hv:bootBuiltins x=some (.builtin id)) (ha:PA X (e :: es) t) (hn:x ≠ "__name__":=by decide) (hdb:(x == ("__debug__" : Str))=false:=by decide)
  (he:starEach (e :: es) X.env=(false,eval e X.env) :: starEach es X.env:=by rfl) (hpl:(backTo pos (starEach es X.env)).any (·.1)=false:=by rfl):PE X (.Call (.Name x p) (e :: es) [] pos) (tCB r t):=by
 intro pins s σ H Q I h
 refine ET (Zo I hg hm hv ?_ hn hdb)
 exact PyProof.Rows.callWith_builtin1 (thn (ha pos pins s σ H _ I h) fun us s1 ⟨vs,H1,I1,r1,q1⟩=>hc pins s1 σ H1 vs us Q I1 r1 q1) he hpl
theorem zG (hc:jB X (.type T) r) (hg:Gl X x) (hm:X.mg x=none) (hv:bootBuiltins x=some (.type T)) (ha:PA X (e :: es) t) (hn:x ≠ "__name__":=by decide) (hdb:(x == ("__debug__" : Str))=false:=by decide)
  (he:starEach (e :: es) X.env=(false,eval e X.env) :: starEach es X.env:=by rfl) (hpl:(backTo pos (starEach es X.env)).any (·.1)=false:=by rfl):PE X (.Call (.Name x p) (e :: es) [] pos) (tCB r t):=by
 intro pins s σ H Q I h
 refine ET (Zo I hg hm hv ?_ hn hdb)
 exact BH (thn (ha pos pins s σ H _ I h) fun us s1 ⟨vs,H1,I1,r1,q1⟩=>hc pins s1 σ H1 vs us Q I1 r1 q1) he hpl
end
end L2
namespace HT
open PySem PyProof.Rows
section
open PySem.SeqAt
open PySem.AutoSeq1 (wpAny_loadPart')
open PySem.MeetsSeq PySem.MeetsSeq2 PySem.MeetsSeq3
end
section
variable {prog : Program} {w : World} {A : Around} {E : Value -> Shared -> Prop} {s : Shared}
theorem cat_tup {t b:Addr} {vs ws:List Value} {Q:Value->Shared->Prop} (ht:IsTup s.heap t vs.toArray) (hb:IsTup s.heap b ws.toArray) (hv:vs ≠ [])
  (h1:ws=[]->Q (.ref t) s) (h2:ws ≠ []->Q (.ref s.heap.objs.size) { s with heap:=s.heap.push { cls:=.type "tuple",data:=.seq (vs++ws).toArray } })
  (hsz:vs.length+ws.length<=sizeLine):wpAny (model prog w) A (binaryOp .Add (.ref t) (.ref b)) Q E s:=by
 obtain⟨⟨cls,dd,data,sl⟩,ho,hc,n,hd⟩:=id ht
 obtain⟨⟨cls2,dd2,data2,sl2⟩,ho2,hc2,n2,hd2⟩:=id hb
 simp only at hc hd hc2 hd2
 subst hc hd hc2 hd2
 have e:vs.toArray++ws.toArray=(vs++ws).toArray:=by simp
 by_cases hw:ws=[]
 ·exact Eb ⟨_,ho,rfl⟩ ⟨_,ho2,rfl⟩ Dn EM C1 Cy (Ct _ _)
   (tuple_addW1 t b vs.toArray ws.toArray n n2 dd dd2 sl sl2 (by simpa using hv) (by simp[hw])) ⟨ho,ho2,h1 hw⟩
 ·refine Eb ⟨_,ho,rfl⟩ ⟨_,ho2,rfl⟩ Dn EM C1 Cy (Ct _ _)
   (tuple_addW2 t b vs.toArray ws.toArray n n2 dd dd2 sl sl2 (by simpa using hv) (by simpa using hw) (by rw[List.size_toArray,List.size_toArray];exact hsz)) ⟨ho,ho2,?_⟩
  rw[e]
  exact h2 hw
def sIx (n d:Nat):Option Int->Nat
 | none=>d
 | some v=>if v < 0 then (v+(n:Int)).toNat else min v.toNat n
theorem sIx_none (n d:Nat):sIx n d none=d:=rfl
theorem sIx_nat (n d k:Nat):sIx n d (some (k:Int))=min k n:=by
 show (if (k:Int) < 0 then ((k:Int)+(n:Int)).toNat else min (k:Int).toNat n)=min k n
 rw[if_neg (by omega),A4]
theorem sIx_le (n d:Nat) (hd:d<=n) (o:Option Int):sIx n d o<=n:=by
 cases o with
 | none=>exact hd
 | some v=>
  show (if v < 0 then (v+(n:Int)).toNat else min v.toNat n)<=n
  by_cases hv:v < 0
  ·rw[if_pos hv];omega
  ·rw[if_neg hv];exact Nat.min_le_right _ _
theorem clip_eq (v:Int) (n d:Nat):(if v < 0 then max (v+(n:Int)) 0 else min v (n:Int))=((sIx n d (some v):Nat):Int):=by
 show (if v < 0 then max (v+(n:Int)) 0 else min v (n:Int))=(((if v < 0 then (v+(n:Int)).toNat else min v.toNat n):Nat):Int)
 by_cases hv:v < 0
 ·simp only[if_pos hv];omega
 ·simp only[if_neg hv];omega
theorem adjust_gen (lo hi:Option Int) (n:Nat):Builtin.Slice.sliceAdjust lo hi 1 (n:Int)=(((sIx n 0 lo:Nat):Int),((sIx n n hi:Nat):Int)):=by
 have h1:¬ ((1:Int) < 0):=by omega
 unfold Builtin.Slice.sliceAdjust
 simp only[h1,if_false]
 refine Prod.ext ?_ ?_
 ·cases lo with
  | none=>rfl
  | some v=>exact clip_eq v n 0
 ·cases hi with
  | none=>rfl
  | some v=>exact clip_eq v n n
theorem places_gen (i j:Nat):Builtin.Slice.slicePlaces (i:Int) (j:Int) 1=j - i:=by
 unfold Builtin.Slice.slicePlaces
 have h1:(1:Int) > 0:=by omega
 simp only[h1,if_true,Int.ediv_one]
 split <;> omega
theorem slicePart_ {v:Value} {o:Option Int} {Q:Option Int->Shared->Prop} (p:IsPart v o) (h:Q o s):wpAny (model prog w) A (Builtin.Slice.slicePartIndex v) Q E s:=by
 cases p with
 | none=>exact slicePart_none h
 | int i t=>exact slicePart_int h
theorem sliceApplied_gen {sl:Addr} {vl vu:Value} {lo hi:Option Int} {n:Nat} {Q:Int×Int×Nat->Shared->Prop} (hs:s.heap.IsSliceOf sl vl vu .none) (pl:IsPart vl lo) (pu:IsPart vu hi)
  (h:Q (((sIx n 0 lo:Nat):Int),1,sIx n n hi - sIx n 0 lo) s):wpAny (model prog w) A (Builtin.Slice.sliceApplied (.ref sl) (pure (n:Int))) Q E s:=by
 obtain⟨os,hos,hcs,hds⟩:=id hs
 unfold Builtin.Slice.sliceApplied Builtin.Slice.sliceFields
 refine AA (AA (Bq hos hds (x:=vl) rfl (AA (Bq hos hds (x:=vu) rfl (AA (Bq hos hds (x:=.none) rfl (AD ?_)))))))
 refine AA (slicePart_none ?_)
 show wpAny _ _ (if ((1:Int) == 0)=true then _ else _) _ _ s
 rw[if_neg (by decide)]
 refine AA (slicePart_ pl (AA (slicePart_ pu (AA (AD ?_)))))
 show wpAny _ _ (match Builtin.Slice.sliceAdjust lo hi 1 (n:Int) with | (lo,hi)=>pure (lo,(1:Int),Builtin.Slice.slicePlaces lo hi 1)) _ _ s
 rw[adjust_gen lo hi n]
 show wpAny _ _ (pure (((sIx n 0 lo:Nat):Int),(1:Int),Builtin.Slice.slicePlaces ((sIx n 0 lo:Nat):Int) ((sIx n n hi:Nat):Int) 1)) _ _ s
 rw[places_gen]
 exact AD h
theorem pick_gen (xs:Array Value) (i k:Nat):((List.range k).filterMap fun (m:Nat)=>xs[((i:Int)+(m:Int) * 1).toNat]?).toArray=((xs.toList.drop i).take k).toArray:=by
 have e:(fun (m:Nat)=>xs[((i:Int)+(m:Int) * 1).toNat]?)=fun m=>xs[i+m]?:=by
  funext m
  have:((i:Int)+(m:Int) * 1).toNat=i+m:=by omega
  rw[this]
 rw[e]
 have:=pick_run xs i k
 rw[List.filterMap_map] at this
 have e2:((fun x=>xs[x]?) ∘ fun x=>i+x)=fun m=>xs[i+m]?:=rfl
 rw[e2] at this
 rw[this]
theorem getItem_tuple_cut {t sl:Addr} {items:Array Value} {vl vu:Value} {lo hi:Option Int} {Q:Value->Shared->Prop} (ht:IsTup s.heap t items) (hs:s.heap.IsSliceOf sl vl vu .none) (pl:IsPart vl lo) (pu:IsPart vu hi)
  (hw:¬ (sIx items.size 0 lo=0/\sIx items.size items.size hi=items.size))
  (h:Q (.ref s.heap.objs.size) { s with heap:=s.heap.push { cls:=.type "tuple",data:=.seq ((items.toList.drop (sIx items.size 0 lo)).take (sIx items.size items.size hi - sIx items.size 0 lo)).toArray } })
  (hsz:items.size<=sizeLine):wpAny (model prog w) A (getItem (.ref t) (.ref sl)) Q E s:=by
 have htake:sizeOk (.seq ((items.toList.drop (sIx items.size 0 lo)).take (sIx items.size items.size hi - sIx items.size 0 lo)).toArray):=by
  show ((items.toList.drop (sIx items.size 0 lo)).take (sIx items.size items.size hi - sIx items.size 0 lo)).toArray.size<=sizeLine
  rw[BC,An,Bz,Av]
  omega
 have hj:sIx items.size items.size hi<=items.size:=sIx_le _ _ (AK _) hi
 obtain⟨os,hos,hcs,hds⟩:=id hs
 have hTs:s.TypeIs (.ref sl) "slice":=⟨os,hos,hcs⟩
 unfold getItem
 try with_reducible refine BJ ?_
 first | refine AA (AD ?_) | skip
 refine AA (wpAny_sequenceKey ht.typeIs (by decide) ?_)
 refine AA (wpAny_callSpecial?_slot (name:=Str.ofString "__getitem__") ht.typeIs BU
  (Ay BU ht.typeIs entry_tuple_getitem ?_ (args_tuple_getitem _ _)))
 show wpAny _ _ (Builtin.Tuple.tupleItemsOf (.ref t) >>= _) _ _ s
 refine AA (tupleItemsOf_ ht ?_)
 refine AA (Bm hTs ?_)
 rw[if_pos (by decide)]
 refine AA (sliceApplied_gen hs pl pu ?_)
 have hno:¬ ((((sIx items.size 0 lo:Nat):Int) == 0 && (1:Int) == 1 && (sIx items.size items.size hi - sIx items.size 0 lo) == items.size)=true):=by
  intro q
  rw[Bg,Bg] at q
  have q1:((sIx items.size 0 lo:Nat):Int)=0:=eq_of_beq q.1.1
  have q2:sIx items.size items.size hi - sIx items.size 0 lo=items.size:=eq_of_beq q.2
  exact hw ⟨by omega,by omega⟩
 show wpAny _ _ (if (((sIx items.size 0 lo:Nat):Int) == 0 && (1:Int) == 1 && (sIx items.size items.size hi - sIx items.size 0 lo) == items.size)=true then _ else _) _ _ s
 rw[if_neg hno,pick_gen]
 first
  | exact AA (m:=Builtin.Tuple.tupleExact _) (Ap (AD ⟨_,rfl,AD h⟩) htake)
  | exact AA (m:=Builtin.Tuple.tupleExact _) (Ap (AA (AD (AD ⟨_,rfl,AD h⟩))) htake)
  | exact AA (AA (m:=Builtin.Tuple.tupleExact _) (Ap (AD (AD ⟨_,rfl,AD h⟩)) htake))
  | exact AA (AA (m:=Builtin.Tuple.tupleExact _) (Ap (AD ⟨_,rfl,AD h⟩) htake))
end
end HT
namespace L2
open PySem PySem.Spec PyProof.Rows
abbrev TO:=St->Hp->(Option Int->Hp->Prop)->Prop
def PO (X:Cx) (e:Option Expr) (t:TO):Prop:=
 ∀ (pins:List (Addr×Obj)) (s:Shared) (σ:St) (H:Hp) (Q:Option Int->Hp->Prop),Inv X pins σ H s->t σ H Q ->
  wpAny (model X.prog X.w) X.A (evalPart e X.env) (fun u s'=>∃ o H',Inv X pins σ H' s'/\IsPart u o/\Q o H') X.xe s
def tNoPart:TO:=fun _ H Q=>Q none H
def tPart (t:TE):TO:=fun σ H Q=>t σ H fun x H1=>∃ i,x=.int i/\Q (some i) H1
section
variable {X : Cx} {e : Expr} {te : TE} {lo hi : Option Expr} {tl th : TO} {pos p2 : Pos}
theorem j9:PO X none tNoPart:=by
 intro pins s σ H Q I h
 rw[evalPart_none]
 exact AD ⟨none,H,I,.none,h⟩
theorem qS (h:PE X e te):PO X (some e) (tPart te):=by
 intro pins s σ H Q I hw
 rw[evalPart_some]
 refine thn (h pins s σ H _ I hw) fun u s1 ⟨x,H1,I1,r1,q1⟩=>?_
 obtain⟨i,rfl,q⟩:=q1
 obtain⟨t,rfl⟩:=r1
 exact⟨some i,H1,I1,.int i t,q⟩
def SlR (X:Cx) (r:V->Option Int->Option Int->Hp->VK->Prop):Prop:=
 ∀ (pins:List (Addr×Obj)) (s:Shared) (σ:St) (H:Hp) (x:V) (v vl vu:Value) (lo hi:Option Int) (sl:Addr) (Q:VK),Inv X pins σ H s->RelV x v->s.heap.IsSliceOf sl vl vu .none->IsPart vl lo->IsPart vu hi->r x lo hi H Q ->
  ∃ T id,typeLookup (.type T) "__getitem__" = pure (some (.builtin id))/\s.TypeIs v T/\wpAny (model X.prog X.w) X.A (getItem v (.ref sl)) (EP X pins σ Q) X.xe s
theorem SlR.or {r r':V->Option Int->Option Int->Hp->VK->Prop} (h:SlR X r) (h':SlR X r'):SlR X (fun x lo hi H Q=>r x lo hi H Q\/r' x lo hi H Q):=by
 intro pins s σ H x v vl vu lo hi sl Q I rx hs pl pu q
 rcases q with q | q
 ·exact h pins s σ H x v vl vu lo hi sl Q I rx hs pl pu q
 ·exact h' pins s σ H x v vl vu lo hi sl Q I rx hs pl pu q
def tSl (r:V->Option Int->Option Int->Hp->VK->Prop) (te:TE) (tl th:TO):TE:=fun σ H Q=>te σ H fun x H1=>tl σ H1 fun l H2=>th σ H2 fun u H3=>r x l u H3 Q
theorem qN {r:V->Option Int->Option Int->Hp->VK->Prop} (hr:SlR X r) (he:PE X e te) (hl:PO X lo tl) (hu:PO X hi th):PE X (.Subscript e (.Slice lo hi none p2) pos) (tSl r te tl th):=by
 intro pins s σ H Q I h
 refine Subscript_ (thn (he pins s σ H _ I h) fun v s1 ⟨x,H1,I1,r1,q1⟩=>?_)
 refine wpAny_Slice (thn (hl pins s1 σ H1 _ I1 q1) fun vl s2 ⟨l,H2,I2,pl,q2⟩=>thn (hu pins s2 σ H2 _ I2 q2) fun vu s3 ⟨u,H3,I3,pu,q3⟩=>?_)
 rw[evalPart_none]
 refine AD ?_
 have I4:Inv X pins σ H3 { s3 with heap:=s3.heap.push { cls:=.type "slice",data:=.fields #[vl,vu,.none] } }:=I3.kept (t':=s3.toks) fun b ob q=>AF _ q
 obtain⟨T,id,hT,ht,hg⟩:=hr pins { s3 with heap:=s3.heap.push { cls:=.type "slice",data:=.fields #[vl,vu,.none] } } σ H3 x v vl vu l u s3.heap.objs.size Q I4 r1 (Heap.IsSliceOf.new ..) pl pu q3
 show wpAny (model X.prog X.w) X.A (subscriptTail e (.Slice lo hi none p2) v (.ref s3.heap.objs.size)) (EP X pins σ Q) X.xe { s3 with heap:=s3.heap.push { cls:=.type "slice",data:=.fields #[vl,vu,.none] } }
 exact tail_any (ops:=[.ref s3.heap.objs.size,v]) ht hT hg (by with_unfolding_all rfl)
def wc (xs:List V) (lo hi:Option Int):List V:=(xs.drop (HT.sIx xs.length 0 lo)).take (HT.sIx xs.length xs.length hi - HT.sIx xs.length 0 lo)
theorem Jj (xs:List V) (lo hi:Option Int):(wc xs lo hi).length<=xs.length:=by
 unfold wc
 rw[An,Bz]
 omega
def rSlT (K:PySem.W.Frag):V->Option Int->Option Int->Hp->VK->Prop:=fun x lo hi H Q=>∃ a xs,x=.ref a/\SqT K H a xs /\
 ¬ (HT.sIx xs.length 0 lo=0/\HT.sIx xs.length xs.length hi=xs.length)/\∀ p,H p=none->Q (.ref p) (upd H p (.tup (wc xs lo hi)))
theorem sl_tup:SlR X (rSlT X.K):=by
 intro pins s σ H x v vl vu lo hi sl Q I rx hs pl pu h
 obtain⟨a,xs,rfl,hx,hw,q⟩:=h
 cases rx
 obtain⟨its,r,ht,hz⟩:=I.tuple hx
 have hlen:its.toArray.size=xs.length:=by rw[BC];exact r.length.symm
 refine⟨"tuple",_,BU.lookup,ht.typeIs,?_⟩
 refine HT.getItem_tuple_cut ht hs pl pu (by rw[hlen];exact hw) ?_ (by rw[hlen];exact hz)
 rw[hlen]
 refine⟨.ref s.heap.objs.size,_,I.laid (t':=s.toks) (o:=.tup (wc xs lo hi)) (fun b ob q=>AF _ q) (AK _) ?_,rfl,q _ (I.hok.fresh (AK _))⟩
 exact⟨Ab (Jj xs lo hi) hz,_,(r.drop (HT.sIx xs.length 0 lo)).take (HT.sIx xs.length xs.length hi - HT.sIx xs.length 0 lo),Ys.new _ _⟩
def rCatT (K:PySem.W.Frag):R2:=fun x y H Q=>∃ a b xs ys,x=.ref a/\y=.ref b/\SqT K H a xs/\SqT K H b ys/\xs ≠ []/\xs.length+ys.length<=sizeLine /\
 (ys=[]->Q (.ref a) H)/\(ys ≠ []->∀ p,H p=none->Q (.ref p) (upd H p (.tup (xs++ys))))
theorem qA.nil_iff {xs:List V} {us:List Value} (r:qA xs us):us=[] ↔ xs=[]:=by
 cases r with
 | nil=>simp
 | cons _ _=>simp
theorem op_catT:OpR X (binaryOp .Add) (rCatT X.K):=by
 intro pins s σ H x y v u Q I rx ry h
 obtain⟨a,b,xs,ys,rfl,rfl,ha,hb,hx,hz,q1,q2⟩:=h
 cases rx
 cases ry
 obtain⟨its,r1,p1,_⟩:=I.tuple ha
 obtain⟨its2,r2,p2,_⟩:=I.tuple hb
 refine HT.cat_tup p1 p2 (fun z=>hx (r1.nil_iff.mp z)) (fun z=>⟨.ref a,H,I,rfl,q1 (r2.nil_iff.mp z)⟩) (fun z=>?_) (by rw[<- r1.length,<- r2.length];exact hz)
 refine⟨.ref s.heap.objs.size,_,I.laid (t':=s.toks) (o:=.tup (xs++ys)) (fun b ob q=>AF _ q) (AK _) ?_,rfl,q2 (fun w=>z (r2.nil_iff.mpr w)) _ (I.hok.fresh (AK _))⟩
 exact⟨by rw[AH];exact hz,_,r1.append r2,Ys.new _ _⟩
end
def ixN (n:Nat) (i:Int):Option Nat:=if 0<=i then (if i < n then some i.toNat else none) else if -(n:Int)<=i then some (i+n).toNat else none
def atI {α:Type} (xs:List α) (i:Int):Option α:=(ixN xs.length i).bind fun j=>xs[j]?
theorem ixN_seq {n:Nat} {i:Int} {j:Nat} (h:ixN n i=some j):seqIndex? i n=some j/\j < n /\ -(n:Int)<=i/\i < n:=by
 unfold ixN at h
 by_cases h0:0<=i
 ·rw[if_pos h0] at h
  by_cases h1:i < n
  ·rw[if_pos h1] at h
   have e:i.toNat=j:=Ad h
   exact⟨by rw[seqIndex_of h0 h1,e],by omega,by omega,h1⟩
  ·rw[if_neg h1] at h;cases h
 ·rw[if_neg h0] at h
  by_cases h1:-(n:Int)<=i
  ·rw[if_pos h1] at h
   have e:(i+n).toNat=j:=Ad h
   exact⟨by rw[seqIndex_neg (by omega) h1,e],by omega,h1,by omega⟩
  ·rw[if_neg h1] at h;cases h
theorem yP {α:Type} {xs:List α} {i:Int} {v:α} (h:atI xs i=some v):∃ j,seqIndex? i xs.length=some j/\xs[j]? = some v/\j < xs.length /\ -(xs.length:Int)<=i/\i < xs.length:=by
 unfold atI at h
 cases e:ixN xs.length i with
 | none=>rw[e] at h;cases h
 | some j=>
  rw[e] at h
  obtain⟨h1,h2,h3,h4⟩:=ixN_seq e
  exact⟨j,h1,h,h2,h3,h4⟩
theorem qw {α:Type} {xs:List α} {j:Nat} {v:α} (h:xs[j]? = some v):atI xs (j:Int)=some v:=by
 have hj:j < xs.length:=(AC.mp h).1
 have e:ixN xs.length (j:Int)=some j:=by
  unfold ixN
  rw[if_pos (by omega),if_pos (by omega)];simp
 unfold atI;rw[e];exact h
theorem atI_last {α:Type} (xs:List α) (v:α):atI (xs++[v]) (-1)=some v:=by
 have hl:(xs++[v]).length=xs.length+1:=by simp
 have e:ixN (xs++[v]).length (-1)=some xs.length:=by
  unfold ixN
  rw[hl,if_neg (by decide),if_pos (by omega)]
  congr 1
  omega
 unfold atI
 rw[e]
 show (xs++[v])[xs.length]? = some v
 simp
def PlainIx (b:Expr):Prop:=∀ o i,subscripted b false o i=operate [o,i] (getItem o i)
def IxR (X:Cx) (r:R2):Prop:=
 ∀ (value slice:Expr) (pins:List (Addr×Obj)) (s:Shared) (σ:St) (H:Hp) (x y:V) (v u:Value) (Q:VK),Inv X pins σ H s->RelV x v->RelV y u->r x y H Q ->
  subscripted slice false v u=operate [v,u] (getItem v u)->wpAny (model X.prog X.w) X.A (subscriptTail value slice v u) (EP X pins σ Q) X.xe s
def MtR (X:Cx) (id:String) (r:V->List V->Hp->VK->Prop):Prop:=
 ∀ (pins:List (Addr×Obj)) (s:Shared) (σ:St) (H:Hp) (x:V) (xs:List V) (v:Value) (us:List Value) (Q:VK),Inv X pins σ H s->RelV x v->qA xs us->r x xs H Q ->
  wpAny (model X.prog X.w) X.A (call (.builtin id) (v :: us)) (EP X pins σ Q) X.xe s
section
variable {X : Cx} {a b : Expr} {ta tb : TE} {pos : Pos}
theorem IxR.or {r r':R2} (h:IxR X r) (h':IxR X r'):IxR X (fun x y H Q=>r x y H Q\/r' x y H Q):=by
 intro value slice pins s σ H x y v u Q I rx ry q hs
 rcases q with q | q
 ·exact h value slice pins s σ H x y v u Q I rx ry q hs
 ·exact h' value slice pins s σ H x y v u Q I rx ry q hs
theorem zv {r:R2} (hr:IxR X r) (ha:PE X a ta) (hb:PE X b tb) (hs:PlainIx b):PE X (.Subscript a b pos) (tOp r ta tb):=by
 intro pins s σ H Q I h
 exact Subscript_ (binT ha hb I h fun v u s2 x y H2 I2 rx ry q=>hr a b pins s2 σ H2 x y v u Q I2 rx ry q (hs _ _))
def rIxL (K:PySem.W.Frag):R2:=fun x y H Q=>∃ p xs i v,x=.ref p/\y=.int i/\SqL K H p xs/\atI xs i=some v/\Q v H
def rIxT (K:PySem.W.Frag):R2:=fun x y H Q=>∃ p xs i v,x=.ref p/\y=.int i/\SqT K H p xs/\atI xs i=some v/\Q v H
def rIxS:R2:=fun x y H Q=>∃ z i c,x=.str z/\y=.int i/\z.length<=sizeLine/\atI z.cps.toList i=some c/\Q (.str ⟨#[c]⟩) H
theorem ix_list:IxR X (rIxL X.K):=by
 intro value slice pins s σ H x y v u Q I rx ry h hs
 obtain⟨p,xs,i,z,rfl,rfl,hq,he,q⟩:=h
 cases rx
 obtain⟨t,rfl⟩:=ry
 obtain⟨its,r,pl,hz⟩:=I.list hq
 obtain⟨j,h1,h2,h3,h4,h5⟩:=yP he
 obtain⟨w,ew,rw'⟩:=r.get h2
 have hl:=r.length
 have hn:=Yw
 have fin:EP X pins σ Q w s:=⟨z,H,I,rw',q⟩
 by_cases h0:0<=i
 ·have hj:i.toNat=j:=by
   rw[seqIndex_of h0 h5] at h1
   exact Ad h1
  exact item_listR pl.isList h0 (by omega) (by rw[hj];simpa using ew) fin hs
 ·have hj:(i+(its.toArray.size:Int)).toNat=j:=by
   rw[seqIndex_neg (by omega) h4] at h1
   rw[BC,<- hl]
   exact Ad h1
  exact subscriptTail_builtinR (x:=w) pl.isList.typeIs slot_list_getitem.lookup
   (wpAny_getItem_list_neg (Q:=fun r s'=>r=w/\EP X pins σ Q r s') pl.isList (by omega) (by rw[BC] <;> omega) (by omega) (by rw[hj];simpa using ew) ⟨rfl,fin⟩) hs
theorem ix_tup:IxR X (rIxT X.K):=by
 intro value slice pins s σ H x y v u Q I rx ry h hs
 obtain⟨p,xs,i,z,rfl,rfl,hq,he,q⟩:=h
 cases rx
 obtain⟨t,rfl⟩:=ry
 obtain⟨its,r,pl,hz⟩:=I.tuple hq
 obtain⟨j,h1,h2,h3,h4,h5⟩:=yP he
 obtain⟨w,ew,rw'⟩:=r.get h2
 have hl:=r.length
 have hn:=Yw
 have fin:EP X pins σ Q w s:=⟨z,H,I,rw',q⟩
 exact subscriptTail_builtinR (x:=w) pl.typeIs slot_tuple_getitem.lookup
  (getItem_tuple (j:=j) (Q:=fun r s'=>r=w/\EP X pins σ Q r s') pl (by omega) (by omega) (by rw[BC,<- hl];exact h1) (by simpa using ew) ⟨rfl,fin⟩) hs
theorem ix_str:IxR X rIxS:=by
 intro value slice pins s σ H x y v u Q I rx ry h hs
 obtain⟨z,i,c,rfl,rfl,hz,he,q⟩:=h
 obtain⟨t,rfl⟩:=rx
 obtain⟨t',rfl⟩:=ry
 obtain⟨j,h1,h2,h3,h4,h5⟩:=yP he
 have hl:z.cps.toList.length=z.length:=by simp[Str.length]
 rw[hl] at h1 h4 h5
 have hn:=Yw
 exact tail_any (typeIs_str s z t) slot_str_getitem.lookup (getItem_str (c:=c) (by
  have e1:decide (i < -(2 ^ 63:Int))=false:=Aw (by omega)
  have e2:decide (i ≥ 2 ^ 63)=false:=Aw (by omega)
  rw[e1,e2,Bool.or_false]) (by rw[h1];simpa using h2) ⟨.str ⟨#[c]⟩,H,I.tok _,⟨_,rfl⟩,q⟩) hs
def rIx (K:PySem.W.Frag):R2:=fun x y H Q=>rIxL K x y H Q\/rIxT K x y H Q\/rIxS x y H Q
theorem ix_seq:IxR X (rIx X.K):=ix_list.or (ix_tup.or ix_str)
theorem W1 (lo hi:Option Int) (n:Nat):(sliceBounds lo hi none n).1=((HT.sIx n 0 lo:Nat):Int)/\(sliceBounds lo hi none n).2.1=((HT.sIx n n hi:Nat):Int)/\(sliceBounds lo hi none n).2.2=1:=by
 refine⟨?_,?_,rfl⟩
 ·cases lo with
  | none=>simp[sliceBounds,HT.sIx]
  | some i=>
   simp only[sliceBounds,HT.sIx,Option.getD_none,show (1:Int) > 0 by decide,if_true]
   by_cases h:i < 0
   ·simp only[h,if_true] <;> omega
   ·simp only[h,if_false] <;> omega
 ·cases hi with
  | none=>simp[sliceBounds,HT.sIx]
  | some i=>
   simp only[sliceBounds,HT.sIx,Option.getD_none,show (1:Int) > 0 by decide,if_true]
   by_cases h:i < 0
   ·simp only[h,if_true] <;> omega
   ·simp only[h,if_false] <;> omega
theorem Wb (its:List Value) (lo hi:Option Int):slicePick its.toArray lo hi none=((its.drop (HT.sIx its.length 0 lo)).take (HT.sIx its.length its.length hi - HT.sIx its.length 0 lo)).toArray:=by
 obtain⟨h1,h2,h3⟩:=W1 lo hi its.toArray.size
 unfold slicePick
 rw[h1,h2,h3]
 simp only[sliceRange_one,pick_run,List.size_toArray] <;> rfl
def rSlL (K:PySem.W.Frag):V->Option Int->Option Int->Hp->VK->Prop:=fun x lo hi H Q=>∃ a xs,x=.ref a/\SqL K H a xs/\∀ p,H p=none->Q (.ref p) (upd H p (.lst (wc xs lo hi)))
theorem sl_list:SlR X (rSlL X.K):=by
 intro pins s σ H x v vl vu lo hi sl Q I rx hs pl pu h
 obtain⟨a,xs,rfl,hx,q⟩:=h
 cases rx
 obtain⟨its,r,ht,hz⟩:=I.list hx
 have hlen:=r.length
 refine⟨"list",_,slot_list_getitem.lookup,ht.isList.typeIs,?_⟩
 refine wpAny_getItem_list_slice ht.isList hs pl pu .none (by simp) ?_ (by rw[List.size_toArray] <;> omega)
 rw[Wb,<- hlen]
 refine⟨.ref s.heap.objs.size,_,I.laid (t':=s.toks) (o:=.lst (wc xs lo hi)) (fun b ob q=>AF _ q) (AK _) ?_,rfl,q _ (I.hok.fresh (AK _))⟩
 exact⟨Ab (Jj xs lo hi) hz,_,0,(r.drop (HT.sIx xs.length 0 lo)).take (HT.sIx xs.length xs.length hi - HT.sIx xs.length 0 lo),AO _ rfl⟩
def jY:V->Bool
 | .non=>true
 | .bl _=>true
 | .int _=>true
 | .str _=>true
 | _=>false
def eqV:V->V->Bool
 | .non,.non=>true
 | .bl a,.bl b=>a == b
 | .bl a,.int b=>(if a then 1 else 0) == b
 | .int a,.bl b=>a == (if b then 1 else 0)
 | .int a,.int b=>a == b
 | .str a,.str b=>a == b
 | _,_=>false
theorem Yz {A:Around} {s:Shared} {y x:V} {u v:Value} (ry:RelV y u) (rx:RelV x v) (fy:jY y=true) (fx:jY x=true):SeqAt.EqAt A s u v (eqV y x):=by
 cases y with
 | non=>
  cases ry
  cases x with
  | non=>cases rx;exact SeqAt.EqAt.same _
  | bl b=>cases rx;exact SeqAt.EqAt.none_bool b
  | int b=>obtain⟨t,rfl⟩:=rx;exact SeqAt.EqAt.none_int b t
  | str b=>obtain⟨t,rfl⟩:=rx;exact SeqAt.EqAt.none_str b t
  | _=>exact absurd (show false=true from fx) AS
 | bl a=>
  cases ry
  cases x with
  | non=>cases rx;exact SeqAt.EqAt.bool_none a
  | bl b=>cases rx;exact SeqAt.EqAt.bool_bool a b
  | int b=>obtain⟨t,rfl⟩:=rx;exact SeqAt.EqAt.bool_int a b t
  | str b=>obtain⟨t,rfl⟩:=rx;exact SeqAt.EqAt.bool_str a b t
  | _=>exact absurd (show false=true from fx) AS
 | int a=>
  obtain⟨t',rfl⟩:=ry
  cases x with
  | non=>cases rx;exact SeqAt.EqAt.int_none a t'
  | bl b=>cases rx;exact SeqAt.EqAt.int_bool a t' b
  | int b=>obtain⟨t,rfl⟩:=rx;exact SeqAt.EqAt.int_int a t' b t
  | str b=>obtain⟨t,rfl⟩:=rx;exact SeqAt.EqAt.int_str a t' b t
  | _=>exact absurd (show false=true from fx) AS
 | str a=>
  obtain⟨t',rfl⟩:=ry
  cases x with
  | non=>cases rx;exact SeqAt.EqAt.str_none a t'
  | bl b=>cases rx;exact SeqAt.EqAt.str_bool a t' b
  | int b=>obtain⟨t,rfl⟩:=rx;exact SeqAt.EqAt.str_int a t' b t
  | str b=>obtain⟨t,rfl⟩:=rx;exact SeqAt.EqAt.str_str a t' b t
  | _=>exact absurd (show false=true from fx) AS
 | _=>exact absurd (show false=true from fy) AS
def eqU (x:V) (u:Value):Bool:=match u with
 | .none=>eqV .non x
 | .bool b=>eqV (.bl b) x
 | .int i _=>eqV (.int i) x
 | .str z _=>eqV (.str z) x
 | _=>false
theorem Xp {x y:V} {u:Value} (r:RelV y u) (f:jY y=true):eqU x u=eqV y x:=by
 cases y with
 | non=>cases r;rfl
 | bl b=>cases r;rfl
 | int i=>obtain⟨t,rfl⟩:=r;rfl
 | str z=>obtain⟨t,rfl⟩:=r;rfl
 | _=>exact absurd (show false=true from f) AS
theorem Jk {x:V}:∀ {xs:List V} {us:List Value},qA xs us->xs.all jY=true->us.any (eqU x)=xs.any fun y=>eqV y x
 | _,_,.nil,_=>rfl
 | y :: xs,u :: us,.cons r t,f=>by
  rw[CH,Bg] at f
  rw[By,By,Xp r f.1,Jk t f.2]
theorem ZI {A:Around} {s:Shared} {x:V} {v:Value} (rx:RelV x v) (fx:jY x=true):∀ {xs:List V} {us:List Value},qA xs us->xs.all jY=true->∀ u ∈ us,SeqAt.EqAt A s u v (eqU x u)
 | _,_,.nil,_=>fun u hu=>by cases hu
 | y :: xs,u :: us,.cons r t,f=>fun u' hu=>by
  rw[CH,Bg] at f
  rcases AV.mp hu with rfl | hu
  ·rw[Xp r f.1];exact Yz r rx f.1 fx
  ·exact ZI rx fx t f.2 u' hu
def inV (x:V) (xs:List V):Bool:=xs.any fun y=>eqV y x
def rIn (K:PySem.W.Frag) (neg:Bool):R2:=fun x y H Q=>∃ p xs,y=.ref p/\(SqL K H p xs\/SqT K H p xs)/\jY x=true/\xs.all jY=true/\Q (.bl (if neg then !inV x xs else inV x xs)) H
theorem Xq:OpR X (compareOp .In) (rIn X.K false):=by
 intro pins s σ H x y v u Q I rx ry h
 obtain⟨p,xs,rfl,hq,fx,fs,q⟩:=h
 cases ry
 rcases hq with hq | hq
 ·obtain⟨its,r,pl,hz⟩:=I.list hq
  refine SeqAt.in_listAt (eqU x) pl.isList (fun w hw=>ZI rx fx r fs w (by simpa using hw)) ⟨.bl _,H,I,rfl,?_⟩
  rw[show its.toArray.any (eqU x)=its.any (eqU x) by simp,Jk r fs]
  exact q
 ·obtain⟨its,r,pl,hz⟩:=I.tuple hq
  refine SeqAt.in_tupleAt (eqU x) pl (fun w hw=>ZI rx fx r fs w (by simpa using hw)) ⟨.bl _,H,I,rfl,?_⟩
  rw[show its.toArray.any (eqU x)=its.any (eqU x) by simp,Jk r fs]
  exact q
theorem W2:OpR X (compareOp .NotIn) (rIn X.K true):=by
 intro pins s σ H x y v u Q I rx ry h
 obtain⟨p,xs,rfl,hq,fx,fs,q⟩:=h
 cases ry
 rcases hq with hq | hq
 ·obtain⟨its,r,pl,hz⟩:=I.list hq
  refine SeqAt.notIn_listAt (eqU x) pl.isList (fun w hw=>ZI rx fx r fs w (by simpa using hw)) ⟨.bl _,H,I,rfl,?_⟩
  rw[show its.toArray.any (eqU x)=its.any (eqU x) by simp,Jk r fs]
  exact q
 ·obtain⟨its,r,pl,hz⟩:=I.tuple hq
  refine SeqAt.notIn_tupleAt (eqU x) pl (fun w hw=>ZI rx fx r fs w (by simpa using hw)) ⟨.bl _,H,I,rfl,?_⟩
  rw[show its.toArray.any (eqU x)=its.any (eqU x) by simp,Jk r fs]
  exact q
theorem W3:jB X (.type "list") (fun xs H Q=>∃ p ys,xs=[.ref p]/\(SqL X.K H p ys\/SqT X.K H p ys)/\∀ l,H l=none->Q (.ref l) (upd H l (.lst ys))):=by
 intro pins s σ H xs us Q I r h
 obtain⟨p,ys,rfl,hq,q⟩:=h
 obtain⟨u,rfl,rx⟩:=vals1 r
 cases rx
 have fin:∀ (its:List Value),qA ys its->ys.length<=sizeLine->∀ (h':Heap) (c':Nat),(∀ b o',s.heap.get? b=some o'->h'.get? b=some o') ->
   h'.get? s.heap.objs.size=some { cls:=.type "list",dict:=none,data:=.seq its.toArray c',slots:=#[] }->EP X pins σ Q (.ref s.heap.objs.size) { s with heap:=h' }:=fun its r' hz h' c' kp e=>
  ⟨.ref s.heap.objs.size,_,I.laid (t':=s.toks) kp (AK _) (show qI X.prog X.w _ h' _ (.lst ys) from⟨hz,its,c',r',e⟩),rfl,q _ (I.hok.fresh (AK _))⟩
 rcases hq with hq | hq
 ·obtain⟨its,r',pl,hz⟩:=I.list hq
  have hlen:=r'.length
  obtain⟨o,ho,hc,n,hd⟩:=pl.isList
  exact call_list_seq p (.inl rfl) ho hc hd (fun h' c' kp e=>fin its r' hz h' c' kp e) (by simp only[List.size_toArray] <;> omega)
 ·obtain⟨its,r',pl,hz⟩:=I.tuple hq
  have hlen:=r'.length
  obtain⟨o,ho,hc,n,hd⟩:=pl
  exact call_list_seq p (.inr rfl) ho hc hd (fun h' c' kp e=>fin its r' hz h' c' kp e) (by simp only[List.size_toArray] <;> omega)
theorem Wc:jB X (.type "tuple") (fun xs H Q=>∃ p ys,xs=[.ref p]/\((SqL X.K H p ys/\∀ l,H l=none->Q (.ref l) (upd H l (.tup ys)))\/(SqT X.K H p ys/\Q (.ref p) H))):=by
 intro pins s σ H xs us Q I r h
 obtain⟨p,ys,rfl,h⟩:=h
 obtain⟨u,rfl,rx⟩:=vals1 r
 cases rx
 rcases h with ⟨hq,q⟩ | ⟨hq,q⟩
 ·obtain⟨its,r',pl,hz⟩:=I.list hq
  have hlen:=r'.length
  refine call_tuple_list pl.isList (fun h' kp=>?_) (by simp only[List.size_toArray] <;> omega)
  have I1:Inv X pins σ H { s with heap:=h' }:=I.kept (t':=s.toks) kp
  have I2:Inv X pins σ (upd H h'.objs.size (.tup ys)) { s with heap:=h'.push { cls:=.type "tuple",data:=.seq its.toArray } }:=
   I1.laid (t':=s.toks) (fun b o e=>AF _ e) (AK _) (show qI X.prog X.w _ _ _ (.tup ys) from⟨hz,its,r',Ys.new _ _⟩)
  exact⟨.ref h'.objs.size,_,I2,rfl,q _ (I1.hok.fresh (AK _))⟩
 ·obtain⟨its,r',pl,hz⟩:=I.tuple hq
  exact call_tuple_same pl ⟨.ref p,H,I,rfl,q⟩
def tyV (K:PySem.W.Frag) (T:String) (x:V) (H:Hp):Prop:=match x with
 | .str _=>T = "str"
 | .int _=>T = "int"
 | .ref p=>(T = "list" /\ ∃ xs,SqL K H p xs)\/(T = "tuple" /\ ∃ o,K.lookup p=some o/\o.cls=.type "tuple" /\ o.dict=none) \/
   (T = "dict" /\ ((∃ kvs,H p=some (.dK kvs))\/∃ kvs,H p=some (.dT kvs)))\/(T = "set" /\ ∃ S n,H p=some (.set S n))\/(T = "tuple" /\ ∃ xs,H p=some (.tup xs))
 | _=>False
theorem tyV_is {pins:List (Addr×Obj)} {σ:St} {H:Hp} {s:Shared} {T:String} {x:V} {v:Value} (I:Inv X pins σ H s) (r:RelV x v) (ty:tyV X.K T x H) :
  s.TypeIs v T/\∀ a,v=.ref a->∃ ob,s.heap.get? a=some ob/\ob.dict=none:=by
 cases x with
 | str z=>
  obtain⟨t,rfl⟩:=r
  cases (show T = "str" from ty)
  exact⟨typeIs_str s z t,fun _ e=>nomatch e⟩
 | int i=>
  obtain⟨t,rfl⟩:=r
  cases (show T = "int" from ty)
  exact⟨EU s i t,fun _ e=>nomatch e⟩
 | ref p=>
  cases r
  rcases ty with ⟨rfl,xs,hq⟩ | ⟨rfl,o,hk,hc,hd⟩ | ⟨rfl,hk⟩ | ⟨rfl,S,n,hk⟩ | ⟨rfl,xs,hk⟩
  rotate_left 4
  ·obtain⟨_,its,_,o,e,c,_,hd⟩:=I.hok p _ hk
   exact⟨⟨o,e,c⟩,fun a e2=>by cases e2;exact⟨o,e,hd⟩⟩
  ·obtain⟨its,_,pl,_⟩:=I.list hq
   refine⟨pl.isList.typeIs,fun a e=>?_⟩
   cases e
   obtain⟨o,n,e,c,hd,_⟩:=pl
   exact⟨o,e,hd⟩
  ·refine⟨⟨o,I.kIn p o hk,hc⟩,fun a e=>?_⟩
   cases e
   exact⟨o,I.kIn _ o hk,hd⟩
  ·have z:∃ o,s.heap.get? p=some o/\o.ExactDict:=by
    rcases hk with ⟨kvs,hk⟩ | ⟨kvs,hk⟩
    ·obtain⟨_,_,_,_,o,_,_,e,ex,_⟩:=I.hok p _ hk
     exact⟨o,e,ex⟩
    ·obtain⟨_,_,_,_,o,_,_,e,ex,_⟩:=I.hok p _ hk
     exact⟨o,e,ex⟩
   obtain⟨o,e,ex⟩:=z
   refine⟨⟨o,e,ex.1⟩,fun a e2=>?_⟩
   cases e2
   exact⟨o,e,ex.2.1⟩
  ·obtain⟨o,_,_,_,e,ex,_⟩:=I.hok p _ hk
   refine⟨⟨o,e,ex.1⟩,fun a e2=>?_⟩
   cases e2
   exact⟨o,e,ex.2.1⟩
 | _=>exact False.elim ty
def tBM0 (K:PySem.W.Frag) (T:String) (r:V->List V->Hp->VK->Prop) (to:TE):TE:=fun σ H Q=>to σ H fun x H1=>tyV K T x H1/\r x [] H1 Q
def tBM (K:PySem.W.Frag) (T:String) (r:V->List V->Hp->VK->Prop) (to:TE) (t:TA):TE:=fun σ H Q=>to σ H fun x H1=>tyV K T x H1/\t σ H1 fun xs H2=>r x xs H2 Q
variable {o e : Expr} {es : List Expr} {to : TE} {t : TA} {name : Str} {apos cpos : Pos} {T id : String} {r : V -> List V -> Hp -> VK -> Prop}
theorem pe_bm0 (pa:PlainAttrs T) (slot:Slot T name id) (hty:typeOf (.builtin id)=pure (.type "method_descriptor")) (hm:MtR X id r) (ho:PE X o to)
  (hbase:attributeBase o name X.env (eval o X.env)=eval o X.env:=by rfl) (hline:(apos.endLine == cpos.line)=true:=by rfl):PE X (.Call (.Attribute o name apos) [] [] cpos) (tBM0 X.K T r to):=by
 intro pins s σ H Q I h
 refine wpAny_Call_method0_late hbase hline (thn (ho pins s σ H _ I h) fun v s1 ⟨x,H1,I1,r1,ty,q1⟩=>?_)
 obtain⟨h1,h2⟩:=tyV_is I1 r1 ty
 exact⟨T,id,pa,slot,hty,h1,h2,Calls.callWith_builtin rfl (PySem.evalArgs_none (hm pins s1 σ H1 x [] v [] Q I1 r1 .nil q1))⟩
theorem pe_bm (pa:PlainAttrs T) (slot:Slot T name id) (hty:typeOf (.builtin id)=pure (.type "method_descriptor")) (hm:MtR X id r) (ho:PE X o to) (ha:PA X (e :: es) t)
  (hbase:attributeBase o name X.env (eval o X.env)=eval o X.env:=by rfl)
  (hfew:((backTo cpos (starEach (e :: es) X.env)).all (fun x=>!x.1) && (backToKw cpos (keywordEach [] X.env)).all (fun x=>x.1.isSome)
   && decide ((e :: es).length+([]:List Keyword).length+(if ([]:List Keyword).isEmpty then 0 else 1) < 30))=true:=by rfl)
  (hline:(apos.endLine == cpos.line)=true:=by rfl) (hs:starEach (e :: es) X.env=(false,eval e X.env) :: starEach es X.env:=by rfl) (hplain:(backTo cpos (starEach es X.env)).any (·.1)=false:=by rfl) :
  PE X (.Call (.Attribute o name apos) (e :: es) [] cpos) (tBM X.K T r to t):=by
 intro pins s σ H Q I h
 refine wpAny_Call_method_late hbase hfew hline rfl (thn (ho pins s σ H _ I h) fun v s1 ⟨x,H1,I1,r1,ty,q1⟩=>?_)
 obtain⟨h1,h2⟩:=tyV_is I1 r1 ty
 refine⟨T,id,pa,slot,hty,h1,h2,?_⟩
 have hA:=ha cpos pins s1 σ H1 _ I1 q1
 rw[hs] at hA ⊢
 refine Calls.callWith_builtin (by show (false || (backTo cpos (starEach es X.env)).any (·.1))=false;rw[hplain] <;> rfl) (Calls.evalArgs_plain ?_)
 exact thn hA fun us s2 ⟨vs,H2,I2,r2,q2⟩=>hm pins s2 σ H2 x vs v us Q I2 r1 r2 q2
/- xs.append(e),list.index on a module's tuple .. are MtR facts of 06m -/
end
def MtM (X:Cx) (id:String) (r:V->List V->Hp->VK->Prop):Prop:=
 ∀ (pins:List (Addr×Obj)) (s:Shared) (σ:St) (H:Hp) (x:V) (xs:List V) (v:Value) (us:List Value) (Q:VK),Inv X pins σ H s->RelV x v->qA xs us->r x xs H Q ->
  wpAny (model X.prog X.w) X.A (call (.builtin id) (v :: us)) (EP X pins σ Q) X.xe s
theorem qA.one:∀ {x:V} {us:List Value},qA [x] us->∃ u,us=[u]/\RelV x u
 | _,_,.cons r .nil=>⟨_,rfl,r⟩
theorem qA.zero:∀ {us:List Value},qA [] us->us=[]
 | _,.nil=>rfl
theorem qA.dropLast {xs:List V} {us:List Value} (h:qA xs us):qA xs.dropLast us.dropLast:=by
 induction h with
 | nil=>exact .nil
 | cons r t ih=>
  cases t with
  | nil=>exact .nil
  | cons q t'=>exact .cons r ih
theorem xc {α:Type} (l:List α):l.eraseIdx (l.length - 1)=l.dropLast:=by
 induction l with
 | nil=>rfl
 | cons a r ih=>
  cases r with
  | nil=>rfl
  | cons b r=>
   have e:(a :: b :: r).length - 1=((b :: r).length - 1)+1:=by
    have h1:(a :: b :: r).length=r.length+2:=rfl
    have h2:(b :: r).length=r.length+1:=rfl
    omega
   rw[e,List.eraseIdx_cons_succ,ih]
   all_goals rfl
section
variable {X : Cx} {pins : List (Addr × Obj)} {σ : St} {H : Hp} {s : Shared} {l b : Addr} {xs ys zs : List V}
theorem Inv.lset {its its':List Value} {n:Nat} {f:Array Value->Array Value} {t':Nat} (I:Inv X pins σ H s) (hH:H l=some (.lst xs))
  (e:s.heap.get? l=some { cls:=.type "list",data:=.seq its.toArray n }) (hf:f its.toArray=its'.toArray) (hv:qA ys its') (hz:ys.length<=sizeLine) :
  Inv X pins σ (upd H l (.lst ys)) { s with heap:=s.heap.update l (Obj.mapSeq f),toks:=t' }:=by
 have q:=PySem.IsL.update e f
 rw[hf] at q
 refine I.write (x:=l) (e:=l) (by rw[hH];exact trivial) (.inl rfl) (fun b' u hb hu=>(BI s.heap (Obj.mapSeq f) (BD hb)).trans hu) ⟨_,q⟩ ?_
 exact⟨hz,its',_,hv,q⟩
theorem Inv.lnew {its:List Value} {t':Nat} (I:Inv X pins σ H s) (hv:qA ys its) (hz:ys.length<=sizeLine) :
  Inv X pins σ (upd H s.heap.objs.size (.lst ys)) { s with heap:=s.heap.push { cls:=.type "list",data:=.seq its.toArray },toks:=t' }:=
 I.laid (fun _ _ q=>AF _ q) (AK _) ⟨hz,its,0,hv,AO _ rfl⟩
theorem Inv.fresh (I:Inv X pins σ H s):H s.heap.objs.size=none:=I.hok.fresh (AK _)
theorem Inv.lstM (I:Inv X pins σ H s) (hH:H l=some (.lst xs)):xs.length<=sizeLine/\∃ (its:List Value) (n:Nat),qA xs its/\xs.length=its.length/\s.heap.get? l=some { cls:=.type "list",data:=.seq its.toArray n }:=by
 obtain⟨z,its,n,r,e⟩:=I.hok l _ hH
 exact⟨z,its,n,r,r.length,e⟩
theorem notLongL {n:Nat} (h:n<=sizeLine):Builtin.List.listTooLong n=false:=by
 unfold Builtin.List.listTooLong
 exact Aw (by omega)
end
section
variable {X : Cx}
def rAppend:V->List V->Hp->VK->Prop:=fun x vs H Q=>∃ l xs y,x=.ref l/\vs=[y]/\H l=some (.lst xs)/\xs.length < sizeLine/\Q .non (upd H l (.lst (xs++[y])))
theorem zX:MtM X "list.append" rAppend:=by
 intro pins s σ H x vs v us Q I rx rv h
 obtain⟨l,xs,y,rfl,rfl,hH,hz,q⟩:=h
 cases rx
 obtain⟨u,rfl,ru⟩:=rv.one
 obtain⟨z,its,n,r,hl,e⟩:=I.lstM hH
 refine Cr F.slot_list_append ⟨_,e,rfl⟩ F.entry_list_append (F.args_list_append_2 _ _) (PySem.list_append l its.toArray n u (by rw[BC];omega)) ⟨e,?_⟩
 refine⟨.non,_,I.lset (its':=its++[u]) hH e (by simp) (r.append (.cons ru .nil)) ?_,rfl,q⟩
 rw[AH,List.length_singleton]
 omega
def rExtend:V->List V->Hp->VK->Prop:=fun x vs H Q=>∃ l b xs zs,x=.ref l/\vs=[.ref b]/\H l=some (.lst xs)/\H b=some (.lst zs)/\xs.length+zs.length<=sizeLine/\Q .non (upd H l (.lst (xs++zs)))
theorem Zs:MtM X "list.extend" rExtend:=by
 intro pins s σ H x vs v us Q I rx rv h
 obtain⟨l,b,xs,zs,rfl,rfl,hH,hB,hz,q⟩:=h
 cases rx
 obtain⟨u,rfl,ru⟩:=rv.one
 cases ru
 obtain⟨z,its,n,r,hl,e⟩:=I.lstM hH
 obtain⟨z2,its2,n2,r2,hl2,e2⟩:=I.lstM hB
 have hsz:its.toArray.size+its2.toArray.size<=sizeLine:=by rw[BC,BC];omega
 have hlong:¬ (!its.toArray.isEmpty && Builtin.List.listTooLong (its.toArray.size+its2.toArray.size))=true:=by
  rw[notLongL hsz,Bool.and_false]
  exact AS
 refine Cr F.slot_list_extend ⟨_,e,rfl⟩ F.entry_list_extend (F.args_list_extend_2 _ _)
  (AutoSeq1.list_extend_list_list_0 l its.toArray n b its2.toArray n2 hlong (by rw[BC];omega) (by omega)) ⟨e,e2,?_⟩
 refine⟨.non,_,I.lset (its':=its++its2) hH e (by simp) (r.append r2) ?_,rfl,q⟩
 rw[AH]
 omega
def rPop:V->List V->Hp->VK->Prop:=fun x vs H Q=>∃ l xs y,x=.ref l/\vs=[]/\H l=some (.lst xs)/\xs[xs.length - 1]? = some y/\Q y (upd H l (.lst xs.dropLast))
theorem mt_pop:MtM X "list.pop" rPop:=by
 intro pins s σ H x vs v us Q I rx rv h
 obtain⟨l,xs,y,rfl,rfl,hH,hy,q⟩:=h
 cases rx
 have hus:=rv.zero
 subst hus
 obtain⟨z,its,n,r,hl,e⟩:=I.lstM hH
 obtain⟨u,hu,ru⟩:=r.get hy
 have hy':its.toArray[its.toArray.size - 1]? = some u:=by
  show its.toArray[its.length - 1]? = some u
  rw[<- B2,<- hl]
  exact hu
 refine Cr F.slot_list_pop ⟨_,e,rfl⟩ F.entry_list_pop (F.args_list_pop_1 _) (MeetsSeq.list_pop_last l its.toArray n u hy' (by rw[BC];omega)) ⟨e,?_⟩
 refine⟨y,_,I.lset (its':=its.dropLast) hH e ?_ r.dropLast ?_,ru,q⟩
 ·show its.toArray.eraseIdxIfInBounds (its.toArray.size - 1)=its.dropLast.toArray
  rw[BC,List.eraseIdxIfInBounds_toArray,xc]
 ·rw[List.length_dropLast]
  omega
def rCat:R2:=fun x y H Q=>∃ l b xs zs,x=.ref l/\y=.ref b/\H l=some (.lst xs)/\H b=some (.lst zs)/\xs.length+zs.length<=sizeLine/\∀ p,H p=none->Q (.ref p) (upd H p (.lst (xs++zs)))
theorem Jl:OpR X (binaryOp .Add) rCat:=by
 intro pins s σ H x y v u Q I rx ry h
 obtain⟨l,b,xs,zs,rfl,rfl,hH,hB,hz,q⟩:=h
 cases rx
 cases ry
 obtain⟨z,its,n,r,hl,e⟩:=I.lstM hH
 obtain⟨z2,its2,n2,r2,hl2,e2⟩:=I.lstM hB
 refine PySem.P.add_list e e2 ?_ (by rw[BC,BC];omega)
 have ea:its.toArray++its2.toArray=(its++its2).toArray:=by simp
 rw[ea]
 exact⟨.ref _,_,I.lnew (t':=s.toks) (r.append r2) (by rw[AH];omega),rfl,q _ I.fresh⟩
end
section
variable {prog : Program} {w : World} {A : Around} {E : Value -> Shared -> Prop} {s : Shared}
set_option maxRecDepth 100000 in
end
section
variable {X : Cx}
end
end L2
namespace Att
open PySem PySem.W PySem.Calls PyProof.Rows
theorem ints_of_wellAll {P:Params} {h:Heap}:∀ (ns:List Int) (vs:List Value),WellAll P h vs (ns.map WData.int)->IntsAre vs ns:=by
 intro ns
 induction ns with
 | nil=>
  intro vs w
  rw[Cg] at w
  cases w
  exact .nil
 | cons n ns ih=>
  intro vs w
  rw[Ag] at w
  cases w with
  | cons a b=>
   cases a
   exact .cons _ _ (ih _ b)
theorem script_of {l:OpenLaw} {n:Nat} (hn:l.most=some n) {P:Params} {h:Heap} {args:List WData} {vals:List Value}
  (hpre:l.row.toRowW.claim.pre args=true) (hwl:WellAll P h vals args) :
  ∃ a vs ns,vals=[Value.ref a]/\args=[WData.list (ns.map WData.int)]/\h.get? a=some { cls:=.type "list",data:=.seq vs.toArray }/\IntsAre vs ns/\ns.length<=n:=by
 have hsh:WShape.hasAll [] args [.list .int]=true:=(pre_splitW hpre).1
 have hc:l.pre.holds [] { args:=args } = true:=(pre_splitW hpre).2
 obtain⟨d,r,rfl,h1,h2⟩:=hasAllW_cons hsh
 obtain rfl:=hasAllW_nil h2
 obtain⟨xs,rfl,h3⟩:=hasW_list h1
 obtain⟨ns,rfl⟩:=items_int h3
 have hlen:ns.length<=n:=by
  unfold OpenLaw.pre at hc
  have h4:(WTm.not (.lt (.lit (.int (n:Int))) (.len (.arg 0)))).holds [] { args:=[.list (ns.map .int)] } = true:=by
   have h4:=(holds_andW hc).1
   rw[hn] at h4
   exact h4
  have h5:=condW_of h4 (w_not (w_lt w_lit (w_len_list (w_arg rfl))))
  rw[AB] at h5
  refine Nat.le_of_not_lt fun q=>?_
  have q':(n:Int) < ((ns.length:Nat):Int):=by omega
  first
   | (rw[Ai q'] at h5;exact absurd h5 (by decide))
   | (simp at h5;omega)
 cases hwl with
 | cons w1 w2=>
  cases w2
  cases w1 with
  | list ho hall=>exact⟨_,_,ns,rfl,rfl,ho,ints_of_wellAll ns _ hall,hlen⟩
theorem post_true (l:OpenLaw) (args:List WData):l.row.toRowW.claim.post args (.bool true) args=true:=
 postW_of (r:=l.row.toRowW) (X:=(true == true))
  (show WShape.has [] (.bool true) .bool=true by first | rfl | decide | simp[WShape.has,WShape.arms,WShape.armsAll])
  (show (WTm.eq .res (.lit (.bool true))).value [] { args:=args,res:=some (.bool true),after:=args } = some (.bool (true == true)) from w_eq_bool (w_res rfl) w_lit) rfl
theorem attach_call {l:OpenLaw} {n:Nat} {q:Program} {loose:List Str} {XP:(Str->Option Value)->Heap->Prop} {YP:World->Heap->Prop} {d:DefRec}
  (hn:l.most=some n) (hdf:d.params.defaults=[])
  (call:∀ (w:World) (s₀ s₁:Shared) (mg mb:Str->Option Value) (fa:Addr) (o:Obj) (pm cd doc:Value) (a:Addr) (vs:List Value) (ns:List Int),
   Ground q loose [] XP w s₀ mg mb s₁.heap->YP w s₁.heap ->
   s₁.heap.get? fa=some o->o.data=.func (docDef d.name d.params d.body d.scope pm cd doc)->s₁.heap.CodeRec cd d.name->mg d.name=some (.ref fa) ->
   s₁.heap.get? a=some { cls:=.type "list",data:=.seq vs.toArray }->IntsAre vs ns->ns.length<=n->s₁.gens = #[] ->
   codeAny (model l.prog w) callerA (.call (.ref fa) ⟨[.ref a],[]⟩) (fun r s'=>r=.ok (.ret (.bool true))/\OldK s₁.heap s'.heap/\s'.os=s₁.os/\AllBare s'.gens) s₁) :
  WalkO q loose XP YP l.row.toRowW d [] (fun f vs=>PySem.call f vs):=by
 intro w s₀ s₁ mg mb G Y fa o pm cd doc dV kV ho hd hcd hD hmg hg args vals as hpre hlay hrd hwl hlo
 obtain rfl:dV=.none:=Dflts.none hD hdf
 obtain rfl:kV=.none:=Dflts.noKw hD
 obtain⟨a,vs,ns,rfl,rfl,hobj,hints,hlen⟩:=script_of hn hpre hwl
 refine enter_call (CL (call w s₀ s₁ mg mb fa o pm cd doc a vs ns G Y ho (fd_plain hd) hcd hmg hobj hints hlen hg) fun r s' hq=>?_)
 obtain⟨rfl,h2,h3,h4⟩:=hq
 exact⟨.inl ⟨.bool true,.bool true,[],rfl,fun _=>rfl,.bool true,post_true l _,fun _=>⟨List.Pairwise.nil,fun _ hm=>(nomatch hm)⟩⟩,h2,h3,h4⟩
section
variable {prog : Program} {w : World} {A : Around} {E : Value -> Shared -> Prop} {s : Shared} {K : Frag}
end
end Att
namespace L2
open PySem PySem.Spec PyProof.Rows
theorem W4:∀ {vs:List Value} {ns:List Int},IntsAre vs ns->qA (ns.map V.int) vs
 | _,_,.nil=>.nil
 | _,_,.cons n t h=>.cons ⟨t,rfl⟩ (W4 h)
def Only (H:Hp):Prop:=∀ b,H b=none\/∃ o xs,H b=some (.frz o (.lst xs))
theorem law_call {P:Program} {w:World} {K:PySem.W.Frag} {mg mb:Str->Option Value} {CX:CXT} {k:Nat} {fa a:Addr} {fd:FuncData} {x:Str} {sp:Sp} {s₁:Shared} {vs:List Value} {ns:List Int}
  (KX:K.In s₁.heap) (hns:s₁.heap.Ns mainGlobals mg) (hb:s₁.heap.Ns builtinsNs mb) (hbb:∀ x:Str,x ≠ "__name__" -> mb x=bootBuiltins x) (hlim:s₁.heap.NoLimit) (hg:s₁.gens = #[])
  (ha:s₁.heap.get? a=some { cls:=.type "list",data:=.seq vs.toArray }) (hi:IntsAre vs ns) (hl:ns.length<=sizeLine) (hr:QI k callerA)
  (F:∀ base:Heap,K.In base->base.Ns mainGlobals mg->jt P w K mg base CX k fa fd [x] sp) (hbind:∀ (s:Shared) (u:Value),BindsTo s fd ⟨[u],[]⟩ [(x,u)])
  (hsp:∀ H:Hp,Only H->SqL K H a (ns.map V.int)->sp [.ref a] H (fun v _=>v=.bl true) fun _ _ _=>False)
  (hCX:∀ H e s',CX [] H s₁ (fun _ _ _=>False) e s'->False) :
  codeAny (model P w) callerA (.call (.ref fa) ⟨[.ref a],[]⟩) (fun r s'=>r=.ok (.ret (.bool true))/\OldK s₁.heap s'.heap/\s'.os=s₁.os/\AllBare s'.gens) s₁:=by
 have rv:=W4 hi
 have lenV:=hi.length
 -- from an abstract heap in which nothing but the script may be tracked
 have core:∀ H:Hp,Only H->SqL K H a (ns.map V.int)->HOk P w H s₁.heap->(∀ b,H b ≠ none->b=a)->(H a ≠ none->K.lookup a=none) ->
   codeAny (model P w) callerA (.call (.ref fa) ⟨[.ref a],[]⟩) (fun r s'=>r=.ok (.ret (.bool true))/\OldK s₁.heap s'.heap/\s'.os=s₁.os/\AllBare s'.gens) s₁:=by
  intro H hO hS hok hA hK
  have base_of:∀ {b:Addr} {o:Obj},s₁.heap.get? b=some o->H b=none->(hidT s₁.heap H).get? b=some o:=fun e n=>hidT_get e n
  have noA:∀ {b:Addr} {o:Obj} {es:Array DictEntry} {ep:Nat},s₁.heap.get? b=some o->o.data=.dict es ep->H b=none:=fun {b o es ep} e d=>by
   cases q:H b with
   | none=>rfl
   | some u=>
    have e':b=a:=hA b (by rw[q];simp)
    subst e'
    rw[ha] at e;cases e
    have d':Data.seq vs.toArray _=Data.dict es ep:=d
    cases d'
  have nsK:∀ {b:Addr} {m:Str->Option Value},s₁.heap.Ns b m->(hidT s₁.heap H).Ns b m:=fun {b m} ⟨o,es,ep,e,d,r⟩=>⟨o,es,ep,base_of e (noA e d),d,r⟩
  have hKb:K.In (hidT s₁.heap H):=fun b o e=>base_of (KX b o e) (by
   cases q:H b with
   | none=>rfl
   | some u=>
    have e':b=a:=hA b (by rw[q];simp)
    subst e'
    rw[hK (by rw[q];simp)] at e;cases e)
  have hM:Mod K mg (hidT s₁.heap H):=⟨hKb,nsK hns,⟨mb,nsK hb,hbb⟩,let ⟨mc,h1,h2⟩:=hlim;⟨mc,nsK h1,h2⟩⟩
  have e0:Env0 P w K mg (hidT s₁.heap H) callerA [] s₁ H:=⟨rfl,hM,fun b o e=>of_hidT e,Nat.le_of_eq (xY _ _),trivial,fun b hb=>absurd (show b ∈ ([]:List Addr) from hb) (by simp),hok,.of_eq hg⟩
  refine CL ((F _ hKb (nsK hns)).run callerA [] s₁ H ⟨[.ref a],[]⟩ [.ref a] [.ref a] _ _ hr e0 (hbind s₁ (.ref a)) (.cons rfl .nil) (hsp H hO hS)) fun r s' h=>?_
  cases r with
  | error e=>exact (hCX H e s' h).elim
  | ok fl=>
   cases fl with
   | next=>exact False.elim h
   | brk=>exact False.elim h
   | cont=>exact False.elim h
   | ret u=>
    obtain⟨v,H',os,bare,un,hok',r',q⟩:=h
    have q':v=.bl true:=q
    subst q'
    obtain rfl:u=Value.bool true:=r'
    refine⟨rfl,OldK.of_keep fun b o e=>?_,os,bare⟩
    cases q:H b with
    | none=>exact un.keep b o e q (by intro z;exact absurd (show b ∈ ([]:List Addr) from z) (by simp)) (by simp)
    | some u=>
     rcases hO b with z | ⟨ob,xs,z⟩
     ·rw[q] at z;cases z
     ·have z2:=un.frzs b ob _ z
      obtain⟨e1,_⟩:=hok b _ z
      obtain⟨e2,_⟩:=hok' b _ z2
      rw[e] at e1;cases e1
      exact e2
 cases hk:K.lookup a with
 | some o=>
  -- the script is one of the module's own objects
  have e:=KX a o hk
  rw[ha] at e
  cases e
  refine core (fun _=>none) (fun _=>.inl rfl) (.inr ⟨_,vs.toArray,_,hk,rfl,rfl,rfl,by rw[BC,lenV];exact hl,by simpa using rv⟩) (fun b u z=>by have z':(none:Option HO)=some u:=z;cases z') (fun b z=>absurd rfl z) fun z=>absurd rfl z
 | none=>
  refine core (fun b=>if b=a then some (.frz { cls:=.type "list",data:=.seq vs.toArray } (.lst (ns.map V.int))) else none) (fun b=>?_) (.inl (.inr ⟨{ cls:=.type "list",data:=.seq vs.toArray },if_pos rfl⟩)) (fun b u z=>?_) (fun b z=>?_) fun _=>hk
  ·by_cases hb:b=a
   ·exact .inr ⟨_,_,if_pos hb⟩
   ·exact .inl (if_neg hb)
  ·by_cases hb:b=a
   ·have z':=(if_pos hb).symm.trans z
    cases z'
    subst hb
    exact⟨ha,by rw[AB];exact hl,vs,_,rv,ha⟩
   ·have z':=(if_neg hb).symm.trans z
    cases z'
  ·by_cases hb:b=a
   ·exact hb
   ·exact absurd (if_neg hb) z
theorem Xr {l:PySem.W.OpenLaw} {n k:Nat} {q:Program} {loose:List Str} {XP:(Str->Option Value)->Heap->Prop} {YP:World->Heap->Prop} {d:DefRec} {K:Params->PySem.W.Frag} {CX:World->CXT} {sp:World->Sp} {x:Str}
  (hn:l.most=some n) (hn2:n<=sizeLine) (hdf:d.params.defaults=[]) (hr:QI k callerA)
  (hY:∀ (w:World) (h:Heap),YP w h->(K w.params).In h)
  (F:∀ (w:World) (mg:Str->Option Value) (fa:Addr) (h:Heap),(K w.params).In h->h.Ns mainGlobals mg->mg d.name=some (.ref fa) ->
   ∃ fd:FuncData,(∀ (s:Shared) (u:Value),BindsTo s fd ⟨[u],[]⟩ [(x,u)]) /\
    ∀ base:Heap,(K w.params).In base->base.Ns mainGlobals mg->jt l.prog w (K w.params) mg base (CX w) k fa fd [x] (sp w))
  (hsp:∀ (w:World) (H:Hp) (a:Addr) (ns:List Int),ns.length<=n->Only H->SqL (K w.params) H a (ns.map V.int)->sp w [.ref a] H (fun v _=>v=.bl true) fun _ _ _=>False)
  (hCX:∀ (w:World) (H:Hp) (s:Shared) (e:Value) (s':Shared),CX w [] H s (fun _ _ _=>False) e s'->False) :
  PySem.W.WalkO q loose XP YP l.row.toRowW d [] (fun f vs=>PySem.call f vs):=by
 refine Att.attach_call hn hdf fun w s₀ s₁ mg mb fa o pm cd doc a vs ns G Y ho hd hcd hmg hobj hints hlen hg=>?_
 have KX:=hY w _ Y
 obtain⟨fd,hb,hF⟩:=F w mg fa _ KX G.T.g hmg
 exact law_call KX G.T.g G.T.b G.T.builtins G.T.nolimit hg hobj hints (Ab hlen hn2) hr hF hb (fun H hO hS=>hsp w H a ns hlen hO hS) fun H e s'=>hCX w H s₁ e s'
end L2
/- THE LAST THEOREM (shape; LID, My.* are yours):
   My.Adr: a structure of the addresses that your layer names (classes, functions); My.Txt K t: a structure (Prop) of the equations over K;
   My.txt_mk : {K} {implicit addresses ..} (e1 : nsIn K mainGlobals "law" = some (some (.ref f))) (e2 : K.lookup f = some ⟨oc, od, .func (fnOf "law" "law" params body scope dV kV doc pm an cdv ct), sl⟩) (e3 : codeIn K cdv "law" = true) .. : ∃ t, My.Txt K t
set_option maxRecDepth 100000 in
set_option maxHeartbeats 0 in
theorem PySem.Challenge.cw_LID_holds : PySem.Challenge.rw_LID.Holds := by
 w_on;o_law;k_head;(case hw=>w_witness2)
 k_fill
 refine L2.Xr (l:=PySem.Challenge.rw_LID) (n:=63) (k:=40) (x := "script") (CX:=fun w=>..) (sp:=fun _=>My.sp_law) rfl (by decide) rfl ⟨rfl,by decide,by decide⟩ (fun w h Y=>PySem.W.kIn_of Y) ?F ?S ?C
 case F=>
  intro w mg fa h KX G hmg
  have T:∃ t,My.Txt (L2.KOf KX) t:=by
   dsimp only[L2.KOf]                          -- K must stand as «<heap const> w.params» for k_is
   refine' My.txt_mk ?e1 ?e2 ?e3 ..
   (case e1=>PySem.W.k_is)                    -- in the order: a name->its address->its object->its parts
   (case e2=>PySem.W.k_is)
   ..
  obtain⟨t,T⟩:=T
  have e0:=hmg.symm.trans (PySem.W.mg_of KX G T.law)
  cases e0                                       -- fa is the law's own address
  exact⟨_,fun s u=>.of_eq rfl,fun base kb nb=>My.law_fn T kb nb⟩     -- if «.of_eq rfl» comes too early: refine' ⟨_,?b,fun base kb nb=>My.law_fn T kb nb⟩;exact fun s u=>.of_eq rfl
 case S=>exact fun w H a ns hl hO hS=>..
 case C=>exact ..
(the tactic k_is has no namespace: write k_is) -/
namespace L2
open PySem PySem.Spec PyProof.Rows
def Zt (s:Stmt):Arguments:=match s with
 | .FunctionDef _ a _ _ _ _ _ _ _ _=>a
 | _=>{ posonlyargs:=[],args:=[],vararg:=none,kwonlyargs:=[],kw_defaults:=[],kwarg:=none,defaults:=[] }
def Za (s:Stmt):List Stmt:=match s with
 | .FunctionDef _ _ b _ _ _ _ _ _ _=>b
 | _=>[]
def zo (s:Stmt):Scope:=match s with
 | .FunctionDef _ _ _ _ _ _ sc _ _ _=>sc
 | _=>{ kind:=.function,names:=[],isGenerator:=false,isCoroutine:=false }
abbrev CX0:CXT:=fun _ _ _ _ _ _=>False
abbrev E0:XK:=fun _ _ _=>False
theorem pass0 {X:Cx}:Xn CX0 X E0:=fun _ _ _ _ _ _ _ h=>h.elim
structure Fun (K:PySem.W.Frag) (x qual:Str) (st:Stmt) (f:Addr) (fd:FuncData):Prop where
 ex:∃ (oc:Value) (od:Option Addr) (kV doc pm:Value) (an:Option Addr) (cdv ct:Value) (osl:Array (Option Value)),
  fd=PySem.W.fnOf x qual (Zt st) (Za st) (zo st) .none kV doc pm an cdv ct/\K.lookup f=some ⟨oc,od,.func fd,osl⟩/\PySem.W.codeIn K cdv qual=true
 kp:PySem.W.keepIn K (.ref f)=true
section
variable {P : Program} {w : World} {K : PySem.W.Frag} {mg : Str -> Option Value} {base : Heap}
theorem Fun.ok {x qual:Str} {st:Stmt} {f:Addr} {fd:FuncData} {N ps:List Str} {k:Nat} {sp:Sp} (F:Fun K x qual st f fd) (S:zC N ps (zo st)) (len:∀ vs H Q E,sp vs H Q E->vs.length=ps.length)
  (hbody:∀ (cdv:Value) (A:Around) (outer:List Env) (s:Shared) (H:Hp) (vs:List V) (Q:VK) (E:XK),QI k (A.deeper (envOfC qual (zo st) s.heap.objs.size f cdv))->sp vs H Q E ->
   ∃ t,PSs (cxOf CX0 P w K mg base N qual (zo st) f cdv A outer s H E).nox (Za st) t/\t { nx:=fun _ H'=>Q .non H',rt:=Q } (start N vs) H):jt P w K mg base CX0 (k+1) f fd ps sp:=by
 obtain⟨oc,od,kV,doc,pm,an,cdv,ct,osl,rfl,lk,hcd⟩:=F.ex
 refine fn_of lk hcd S len fun A outer s H vs Q E hr hsp=>?_
 obtain⟨t,h,q⟩:=hbody cdv A outer s H vs Q E hr hsp
 exact⟨t,h.nox,q⟩
theorem Fun.binds {x qual:Str} {st:Stmt} {f:Addr} {fd:FuncData} {ps:List Str} (F:Fun K x qual st f fd)
  (h:∀ (kV doc pm:Value) (an:Option Addr) (cdv ct:Value) (us:List Value),us.length=ps.length->bindArgs (PySem.W.fnOf x qual (Zt st) (Za st) (zo st) .none kV doc pm an cdv ct) ⟨us,[]⟩=pure (ps.zip us)):Binds K fd ps []:=by
 obtain⟨oc,od,kV,doc,pm,an,cdv,ct,osl,rfl,lk,hcd⟩:=F.ex
 exact .all (h kV doc pm an cdv ct)
theorem fun_mk {x qual:Str} {st:Stmt} {f:Addr} {oc:Value} {od an:Option Addr} {osl:Array (Option Value)} {kV doc pm cdv ct:Value} (l:K.lookup f=some ⟨oc,od,.func (PySem.W.fnOf x qual (Zt st) (Za st) (zo st) .none kV doc pm an cdv ct),osl⟩)
  (c:PySem.W.codeIn K cdv qual=true) (k:PySem.W.keepIn K (.ref f)=true):Fun K x qual st f (PySem.W.fnOf x qual (Zt st) (Za st) (zo st) .none kV doc pm an cdv ct):=⟨⟨oc,od,kV,doc,pm,an,cdv,ct,osl,rfl,l,c⟩,k⟩
end
theorem hu_of {A:Around} {k:Nat} (hr:QI k A):A.units+1 < cLine:=Dx (Nat.add_le_add_left (by decide:1<=64) _) hr.units
theorem zu {n:Nat} (h:n<=1000):n < sizeLine:=Dx h (by decide)
theorem pgl {X:Cx} (i:Nat) (x:Str) (pos:Pos) (hN:X.N.Nodup) (hi:X.N[i]? = some x) (hl:X.env.scope.names.lookup x=some .local):PG X (.Name x pos) (Zq i):=QJ hN hi (.inl hl) (.inr hl)
def vOk (n:List (Str×NameKind)) (x:Str):Bool:=(match n.lookup x with | some .local=>true | some .cell=>true | some .free=>true | _=>false) && (!(x == ("__debug__" : Str)) && !(x == ("__classdict__" : Str)))
theorem pw {X:Cx} (i:Nat) (x:Str) (pos:Pos) (hN:X.N[i]? = some x) (h:vOk X.env.scope.names x=true):PE X (.Name x pos) (tVar i):=by
 unfold vOk at h
 rw[Bg,Bg,EC,EC] at h
 refine pe_var hN ?_ h.2.1 h.2.2
 cases e:X.env.scope.names.lookup x with
 | none=>rw[e] at h;cases h.1
 | some k=>cases k <;> first | exact .inl e | exact .inr (.inl e) | exact .inr (.inr e) | (rw[e] at h;cases h.1)
section
variable {X : Cx}
theorem pv (i:Nat) {x:Str} {pos:Pos} (hN:X.N[i]? = some x:=by rfl) (hv:Vis X.env.scope x:=by first | exact Or.inl rfl | exact Or.inr (Or.inl rfl) | exact Or.inr (Or.inr rfl)) (hd:(x == ("__debug__" : Str))=false:=by decide)
  (hcd:(x == ("__classdict__" : Str))=false:=by decide):PE X (.Name x pos) (tVar i):=pe_var hN hv hd hcd
end
theorem WP {A B:Prop} (h:B):if false=true then A else B:=by
 rw[if_neg AS]
 exact h
theorem W5 {A B:Prop} (h:A):if true=true then A else B:=by
 rw[if_pos rfl]
 exact h
theorem jZ {c A B:Prop} [Decidable c] (h1:c->A) (h2:¬ c->B):if c then A else B:=by
 by_cases h:c
 ·rw[if_pos h]
  exact h1 h
 ·rw[if_neg h]
  exact h2 h
def zD (H H':Hp):Prop:=∀ b o,H b=some o->H' b=some o
theorem zD.refl (H:Hp):zD H H:=fun _ _ h=>h
theorem zD.trans {H H1 H2:Hp} (a:zD H H1) (b:zD H1 H2):zD H H2:=fun c o h=>b c o (a c o h)
theorem zD.free {H H':Hp} (e:zD H H') {l:Addr} (h:H' l=Option.none):H l=Option.none:=by
 cases q:H l with
 | none=>rfl
 | some o=>
  rw[e l o q] at h
  cases h
abbrev NoX:Value->Shared->Prop:=fun _ _=>False
theorem wpX {α:Type} {M:Model} {A:Around} {t:Sem α} {Q:α->Shared->Prop} {E:Value->Shared->Prop} {s:Shared} (h:wpAny M A t Q NoX s):wpAny M A t Q E s:=
 C6 h (fun _ _ q=>q) fun _ _ f=>f.elim
def Xs (ifs:List Expr) (env:Env):Sem Bool:=
 forIn ifs true fun c r=>if r=true then do let ok <- isTrue c env (eval c env);pure (ForInStep.yield ok) else pure (ForInStep.yield r)
theorem Wd {prog:Program} {w:World} {A:Around} {R:Result->Shared->Prop} {s:Shared} {elt tg iter:Expr} {ifs:List Expr} {scope:Scope} {pos:Pos} {it acc:Value} {env:Env} (Iv:Nat->Shared->Prop)
  (turn:∀ n s,Iv n s->wpAny (model prog w) A (pyNext it) (fun r s1=>match r with
   | none=>R (.ok .next) s1
   | some v=>wpAny (model prog w) A (letOwnedTupleGo tg it v) (fun _ s2=>wpAny (model prog w) A (assign tg env v) (fun _ s3=>wpAny (model prog w) A (Xs ifs env) (fun ok s4=>
      if ok=true then wpAny (model prog w) A (eval elt env) (fun x s5=>wpAny (model prog w) A (call (.builtin "list.append") [acc,x]) (fun _ s6=>∃ m,m < n/\Iv m s6) NoX s5) NoX s4
      else ∃ m,m < n/\Iv m s4) NoX s3) NoX s2) NoX s1) NoX s)
  (n:Nat) (h:Iv n s):codeAny (model prog w) A (.compLoop (.ListComp elt [⟨tg,iter,ifs,0⟩] scope pos) 0 it acc env) R s:=by
 refine codeAny_loop rfl Iv (fun n s hI=>?_) n h
 show wpAny (model prog w) A ((compTurn (.ListComp elt [⟨tg,iter,ifs,0⟩] scope pos) 0 it acc env).onRaise (fun x=>do noteFrame x env;theTreesLotGoes x)) _ _ s
 refine wpAny_noted (wpX ?_)
 rw[compTurn_list]
 refine AA (wpAny_standAt (AA (thn (turn n s hI) fun r s1 h1=>?_)))
 cases r with
 | none=>exact AD h1
 | some v=>
  refine AA (thn h1 fun _ s2 h2=>AA (thn h2 fun _ s3 h3=>AA (thn h3 fun ok s4 h4=>?_)))
  cases ok with
  | false=>exact AD ⟨rfl,h4⟩
  | true=>exact AA (AA (thn h4 fun x s5 h5=>AA (thn h5 fun _ s6 h6=>AD (AD ⟨rfl,h6⟩))))
def jC (env:Env) (y:Str×NameKind) (cs:List (Str×Addr)):List (Str×Addr):=if (y.2 == NameKind.free)=true then (y.1,(env.cells.lookup y.1).getD 0) :: cs else cs
def Xt (env:Env) (scope:Scope):List (Str×Addr):=scope.names.foldl (fun c y=>jC env y c) []
theorem Jm {α β:Type} {f:α->β->Sem (ForInStep β)} {g:β->α->β}:∀ (l:List α) (c:β),(∀ x ∈ l,∀ c,f x c=pure (.yield (g c x)))->forIn l c f=pure (l.foldl g c)
 | [],c,_=>rfl
 | x :: l,c,h=>by
  rw[List.forIn_cons,h x AW,pure_bind]
  exact Jm l (g c x) fun y hy=>h y (AY _ hy)
theorem wF {env:Env} {scope:Scope} (h:∀ y ∈ scope.names,y.2=.free->∃ c,env.cells.lookup y.1=some c):closureFor scope env=pure (Xt env scope):=by
 simp only[closureFor]
 rw[Jm (g:=fun c y=>jC env y c) scope.names [] (fun y hy c=>?_)]
 ·rfl
 ·obtain⟨n,k⟩:=y
  by_cases hk:k=.free
  ·subst hk
   obtain⟨a,ha⟩:=h _ hy rfl
   have ha':env.cells.lookup n=some a:=ha
   simp[jC,cellOf,ha']
  ·have hb:(k == NameKind.free)=false:=by simpa using hk
   simp only[jC,hb,Bool.false_eq_true,if_false]
theorem QW {env:Env}:∀ (ns:List (Str×NameKind)) (cs:List (Str×Addr)),(∀ y ∈ ns,y.2=.free->∃ c,env.cells.lookup y.1=some c)->(∀ x c,cs.lookup x=some c->env.cells.lookup x=some c) ->
  ∀ x c,(ns.foldl (fun c y=>jC env y c) cs).lookup x=some c->env.cells.lookup x=some c
 | [],_,_,h=>h
 | y :: ns,cs,hf,h=>by
  refine QW ns (jC env y cs) (fun z hz=>hf z (AY _ hz)) fun x c e=>?_
  unfold jC at e
  split at e
  ·rename_i hk
   have hk':y.2=.free:=by simpa using hk
   obtain⟨a,ha⟩:=hf y AW hk'
   rw[BY] at e
   split at e
   ·rename_i hx
    have hx':x=y.1:=by simpa using hx
    rw[ha] at e
    rw[hx',ha]
    exact e
   ·exact h x c e
  ·exact h x c e
theorem Zu {env:Env} (x:Str):∀ (ns:List (Str×NameKind)) (cs:List (Str×Addr)),((x,NameKind.free) ∈ ns\/∃ c,cs.lookup x=some c)->∃ c,(ns.foldl (fun c y=>jC env y c) cs).lookup x=some c
 | [],_,h=>by
  rcases h with h | h
  ·exact absurd h (by simp)
  ·exact h
 | y :: ns,cs,h=>by
  refine Zu x ns (jC env y cs) ?_
  rcases h with h | ⟨c,h⟩
  ·rcases AV.mp h with e | h
   ·subst e
    exact .inr ⟨(List.lookup x env.cells).getD 0,by simp[jC]⟩
   ·exact .inl h
  ·refine .inr ?_
   unfold jC
   split
   ·rw[BY]
    split
    ·exact⟨_,rfl⟩
    ·exact⟨c,h⟩
   ·exact⟨c,h⟩
def relK (env:Env) (n:Str) (k:NameKind):NameKind:=if (k == NameKind.free && env.scope.kind == .function && env.kindOf n == some .cell)=true then .cell else k
def relP (env:Env) (y:Str×NameKind):Str×NameKind:=if (y.2 == NameKind.free && env.scope.kind == .function && env.kindOf y.1 == some .cell)=true then (y.1,NameKind.cell) else (y.1,y.2)
theorem relP_eq (env:Env) (y:Str×NameKind):relP env y=(y.1,relK env y.1 y.2):=by
 unfold relP relK
 split <;> rfl
theorem wG {env:Env} (x:Str):∀ ns:List (Str×NameKind),(ns.map (relP env)).lookup x=(ns.lookup x).map (relK env x)
 | []=>rfl
 | (n,k) :: r=>by
  have ih:=wG (env:=env) x r
  rw[Ag,relP_eq,BY,BY]
  cases hx:x == n with
  | true=>
   have e:x=n:=by simpa using hx
   subst e
   rfl
  | false=>exact ih
theorem ZW {env : Env} {scope : Scope} (x : Str) : (relabel scope env).names.lookup x = (scope.names.lookup x).map (relK env x) := wG x scope.names
def capOne (N:List Str) (scope:Scope) (p:Option Nat×Str):Bool:=match p.1 with
 | none=>true
 | some j=>decide (N[j]? = some p.2) && decide (scope.names.lookup p.2=some .free)
structure zS (N:List Str) (sc:Scope) (N':List Str) (ix:List (Option Nat)) (scope:Scope):Prop where
 kind:scope.kind=.function
 nocell:∀ y ∈ scope.names,y.2 ≠ .cell
 locs:∀ y ∈ scope.names,y.2=.local->scope.names.lookup y.1=some .local
 frees:∀ y ∈ scope.names,y.2=.free->(sc.names.lookup y.1=some .cell\/sc.names.lookup y.1=some .free)
 nd:N'.Nodup
 len:ix.length=N'.length
 cap:(ix.zip N').all (capOne N scope)=true
def ixSt (ix:List (Option Nat)) (σ:St):St:=ix.map fun o=>o.bind fun i=>(σ[i]?).join
def jl (X:Cx) (N':List Str) (scope:Scope) (C:Addr) (fp:List Addr) (s₀:Shared) (H₀:Hp):Cx where
 prog:=X.prog
 w:=X.w
 K:=X.K
 mg:=X.mg
 base:=X.base
 A:=X.A
 N:=N'
 s₀:=s₀
 H₀:=H₀
 env:=compEnvC scope (Xt X.env scope) C X.env
 outer:=X.stack
 stack:=X.stack
 ex:=fp
 fn:=fun _=>false
 calm:=X.calm
 pn:=[]
 xe:=NoX
section
variable {X : Cx} {N' : List Str} {ix : List (Option Nat)} {scope : Scope} {pins : List (Addr × Obj)} {σ : St} {H : Hp} {s : Shared} {fp : List Addr}
theorem zS.has (S:zS X.N X.env.scope N' ix scope) (ok:X.Ok):∀ y ∈ scope.names,y.2=.free->∃ c,X.env.cells.lookup y.1=some c:=fun y hy hk=>ok.has y.1 (S.frees y hy hk)
theorem zS.sub (S:zS X.N X.env.scope N' ix scope) (ok:X.Ok):∀ x c,(Xt X.env scope).lookup x=some c->X.env.cells.lookup x=some c:=
 QW scope.names [] (S.has ok) fun x c e=>by simp at e
theorem zS.frK (S : zS X.N X.env.scope N' ix scope) {x : Str} (h : (relabel scope X.env).names.lookup x = some .cell \/ (relabel scope X.env).names.lookup x = some .free) : scope.names.lookup x = some .free := by
 rw [ZW] at h
 cases e:scope.names.lookup x with
 | none=>rw[e] at h;simp at h
 | some k=>
  rw[e] at h
  cases k with
  | free=>rfl
  | cell=>exact absurd rfl (S.nocell _ (Ba e))
  | «local»=>simp[relK] at h
  | globalExplicit=>simp[relK] at h
  | globalImplicit=>simp[relK] at h
theorem xf {h1:Heap} {m:Str->Option Value} {tk:Nat} (S:zS X.N X.env.scope N' ix scope) (I:Inv X pins σ H s) (hf:∀ b ∈ fp,Xc X pins H b) (hlt:∀ b ∈ fp,b < s.heap.objs.size)
  (ns:h1.Ns s.heap.objs.size m) (kp:∀ b o,s.heap.get? b=some o->h1.get? b=some o) :
  Inv (jl X N' scope s.heap.objs.size fp s H) [] (ixSt ix σ) H { s with heap:=h1,toks:=tk }:=by
 have sub:=S.sub I.ok
 have cellS:∀ x c,(Xt X.env scope).lookup x=some c->c < s.heap.objs.size:=fun x c e=>by
  obtain⟨v,q⟩:=I.cell x c (sub x c e)
  exact q.lt
 refine⟨⟨I.ok.mod,S.kind,I.ok.glob,I.ok.blt,AK _,fun x y c h1 h2=>I.ok.inj x y c (sub x c h1) (sub y c h2),fun x hx=>?_,fun x c z _=>?_,I.ok.hd,I.ok.frames,.inl rfl,fun b hb=>⟨?_,fun x c e=>?_⟩,I.bs,Ab I.ok.bsz I.sz,fun b o e hb=>?_,fun b hb z=>?_,I.stack,I.stkFree⟩,
  rfl,I.bare,Un.kept kp,⟨m,ns,fun i x v h1 h2 h3=>?_⟩,fun x c e=>?_,I.hok.fresh (AK _),fun x c e=>I.freeC x c (sub x c e),fun p hp=>absurd (show p ∈ ([]:List (Addr×Obj)) from hp) (by simp),I.hok.kept kp,?_⟩
 ·exact Zu x scope.names [] (.inl (Ba (S.frK hx)))
 ·exact absurd (show false=true from z) (by simp)
 ·exact AR (hlt b hb)
 ·exact (hf b hb).2.2.2.2.1 x c (sub x c e)
 ·rcases (hf b hb).2.2.2.1 with z | z
  ·exact I.ok.noex b o e z
  ·exact absurd (Am (AN e) (Ab I.ok.bsz z)) (A6 _)
 ·rcases AV.mp (I.stkSub b z) with e | e
  ·exact (hf b hb).2.1 e
  ·exact (hf b hb).2.2.1 e
 ·have hi:i < ix.length:=by
   have:=(AC.mp h1).1
   rw[S.len];exact this
  have e1:ix[i]? = some ix[i]:=AG hi
  have h2':(ixSt ix σ)[i]? = some (some v):=h2
  rw[ixSt,AJ,e1] at h2'
  have h2'':(ix[i].bind fun j=>(σ[j]?).join)=some v:=Ad h2'
  cases ej:ix[i] with
  | none=>rw[ej] at h2'';cases h2''
  | some j=>
   rw[ej] at h2''
   have h2j:(σ[j]?).join=some v:=h2''
   have hz:(ix[i],x) ∈ ix.zip N':=by
    have ez:(ix.zip N')[i]? = some (ix[i],x):=by rw[List.getElem?_zip_eq_some];exact⟨e1,h1⟩
    exact AI ez
   have cq:=A0.mp S.cap _ hz
   have cq':(decide (X.N[j]? = some x) && decide (scope.names.lookup x=some .free))=true:=by
    unfold capOne at cq
    simp only[ej] at cq
    exact cq
   rw[Bg] at cq'
   have c1:=Ak cq'.1
   have c2:=Ak cq'.2
   have kx:X.env.scope.names.lookup x=some .cell\/X.env.scope.names.lookup x=some .free:=S.frees (x,.free) (Ba c2) rfl
   have hs:σ[j]? = some (some v):=by
    cases q:σ[j]? with
    | none=>rw[q] at h2j;cases h2j
    | some o=>rw[q] at h2j;have:o=some v:=h2j;rw[this]
   obtain⟨m0,hn0,hl0⟩:=I.loc
   obtain⟨u,ru,lk⟩:=hl0 j x v c1 hs (kx.elim (fun z=>.inr (.inl z)) fun z=>.inr (.inr z))
   refine⟨u,ru,.inr ⟨?_,?_⟩⟩
   ·show (relabel scope X.env).names.lookup x = some .cell \/ (relabel scope X.env).names.lookup x = some .free
    rw [ZW, c2]
    simp only[Option.map_some,relK]
    split
    ·exact .inl rfl
    ·exact .inr rfl
   ·rcases lk with ⟨k,_⟩ | ⟨_,c,ec,hc⟩
    ·have k':X.env.scope.names.lookup x=some .local:=k
     rw[k'] at kx
     rcases kx with z | z <;> cases z
    ·obtain⟨c',ec'⟩:=Zu (env:=X.env) x scope.names [] (.inl (Ba c2))
     have:=sub x c' ec'
     rw[ec] at this;cases this
     exact⟨c,ec',hc.keeps kp⟩
 ·obtain⟨v,q⟩:=I.cell x c (sub x c e)
  exact⟨v,q.keeps kp⟩
 ·show (ixSt ix σ).length=N'.length
  rw[ixSt,AB,S.len]
def PF (X:Cx) (ifs:List Expr) (t:TT):Prop:=∀ (pins:List (Addr×Obj)) (s:Shared) (σ:St) (H:Hp) (Q:Bool->Hp->Prop),Inv X pins σ H s->t σ H Q->wpAny (model X.prog X.w) X.A (Xs ifs X.env) (TP X pins σ Q) X.xe s
def tYes:TT:=fun _ H Q=>Q true H
theorem qW:PF X [] tYes:=fun _ _ _ H _ I h=>wpAny_tests_nil ⟨H,I,h⟩
theorem Jn {c:Expr} {t:TT} (hc:PT X c t):PF X [c] t:=fun pins s σ H Q I h=>wpAny_tests_one (hc pins s σ H Q I h)
def Zv (J:It) (g:TG) (tt:TT) (te:TE) (σ0:St) (H1:Hp) (Q:VK) (D:Addr):Prop:=∃ W:Nat->Nat->St->Hp->Prop,(∃ m,W 0 m σ0 (upd H1 D (.lst [])))/\∀ i m σ' H',W i m σ' H' ->
 (J.stop i H'/\Q (.ref D) H')\/(J.go i H'/\∀ x H2,J.yld i H' x H2->g x σ' H2 fun σ2 H3=>tt σ2 H3 fun b H4=>
  if b=true then te σ2 H4 fun v H5=>∃ xs,H5 D=some (.lst xs)/\xs.length < sizeLine/\∃ m',m' < m/\W (i+1) m' σ2 (upd H5 D (.lst (xs++[v]))) else ∃ m',m' < m/\W (i+1) m' σ2 H4)
def tComp (ix:List (Option Nat)) (wi:TI) (g:TG) (tt:TT) (te:TE):TE:=fun σ H Q=>wi σ H fun J H1=>∀ D,H1 D=none->Zv J g tt te (ixSt ix σ) H1 Q D
theorem wH {elt tg iter:Expr} {ifs:List Expr} {pos:Pos} {g:TG} {tt:TT} {te:TE} {Q:VK} {Z:Value->Addr->Result->Shared->Prop} {it:Addr} {tn:Nat->Heap->Prop} {J:It}
  (S:zS X.N X.env.scope N' ix scope) (hc:X.calm=true)
  (hg:∀ C fp s₀ H₀,PG (jl X N' scope C fp s₀ H₀) tg g) (ht:∀ C fp s₀ H₀,PF (jl X N' scope C fp s₀ H₀) ifs tt) (he:∀ C fp s₀ H₀,PE (jl X N' scope C fp s₀ H₀) elt te)
  (I:Inv X pins σ H s) (T:Turn X.prog X.w X.K tg J fp it tn) (st:tn 0 s.heap) (hf:∀ b ∈ fp,Xc X pins H b)
  (h:∀ D,H D=none->∃ W:Nat->Nat->St->Hp->Prop,(∃ m,W 0 m (ixSt ix σ) (upd H D (.lst [])))/\∀ i m σ' H',W i m σ' H' ->
   (J.stop i H'/\Q (.ref D) H')\/(J.go i H'/\∀ x H2,J.yld i H' x H2->g x σ' H2 fun σ2 H3=>tt σ2 H3 fun b H4=>
    if b=true then te σ2 H4 fun v H5=>∃ xs,H5 D=some (.lst xs)/\xs.length < sizeLine/\∃ m',m' < m/\W (i+1) m' σ2 (upd H5 D (.lst (xs++[v]))) else ∃ m',m' < m/\W (i+1) m' σ2 H4))
  (hZ:∀ D C H' s' m,Inv X pins σ H' s'->s'.heap.Ns C m->H' C=none->s.heap.objs.size<=C->Q (.ref D) H'->Z (.ref D) C (.ok .next) s') :
  wpAny (model X.prog X.w) X.A (newList []) (fun acc s3=>wpAny (model X.prog X.w) X.A (newFunctionEnv scope X.env.globals (Xt X.env scope) [] X.env.qual none .none (some X.env)) (fun cenv s4=>
   codeAny (model X.prog X.w) X.A (.compStart (.ListComp elt [⟨tg, iter, ifs, 0⟩] scope pos) 0 (.ref it) acc { cenv with scope := relabel scope X.env }) (Z acc cenv.locals) s4) X.xe s3) X.xe s := by
 refine Ap (wpAny_newFunctionEnv S.nocell (by intro y hy;simp at hy) (fun h1 ns1 sb1=>?_) S.kind)
 have I3:Inv X pins σ (upd H s.heap.objs.size (.lst [])) { s with heap:=s.heap.push { cls:=.type "list",data:=.seq ([]:List Value).toArray },toks:=s.toks }:=I.lnew (ys:=[]) (its:=[]) .nil (A9 _)
 generalize hs3:({ s with heap:=s.heap.push { cls:=.type "list",data:=.seq ([]:List Value).toArray } }:Shared)=s3 at ns1 sb1 ⊢
 have I3:Inv X pins σ (upd H s.heap.objs.size (.lst [])) s3:=by rw[<- hs3];exact I3
 have hsz:s3.heap.objs.size=s.heap.objs.size+1:=by rw[<- hs3];exact Bp _ _
 have st3:tn 0 s3.heap:=by
  rw[<- hs3]
  exact T.keep _ _ _ st fun b _ o e=>AF _ e
 have blw:∀ b ∈ fp,b < s.heap.objs.size:=fun b hb=>by
  obtain⟨o,e,_⟩:=T.obj _ _ st b hb
  exact AN e
 have hf3:∀ b ∈ fp,Xc X pins (upd H s.heap.objs.size (.lst [])) b:=fun b hb=>⟨by rw[zI (AR (blw b hb))];exact (hf b hb).1,(hf b hb).2⟩
 obtain⟨W,⟨m0,w0⟩,turn⟩:=h s.heap.objs.size I.fresh
 have kp:∀ b o,s3.heap.get? b=some o->h1.get? b=some o:=fun b o e=>(sb1.2 b (AR (AN e))).trans (AF _ e)
 have J0:=xf (tk:=s3.toks+([]:List (Str×Value)).length) S I3 hf3 (fun b hb=>by rw[hsz];exact Au (blw b hb)) ns1 kp
 have st4:tn 0 h1:=T.keep _ _ _ st3 fun b _ o e=>kp b o e
 have stat:∀ {H':Hp} {pl:List (Addr×Obj)},(∀ b ∈ fp,H' b=none)->(∀ b ∈ fp,∀ p ∈ pl,p.1 ≠ b)->∀ b ∈ fp,Xc (jl X N' scope s3.heap.objs.size fp s3 (upd H s.heap.objs.size (.lst []))) pl H' b:=fun hn hp b hb=>
  ⟨hn b hb,(J0.ok.exf b hb).1,J0.ok.exfs b hb,.inl hb,(J0.ok.exf b hb).2,fun p q=>hp b hb p q⟩
 have loop:codeAny (model X.prog X.w) X.A (.compLoop (.ListComp elt [⟨tg,iter,ifs,0⟩] scope pos) 0 (.ref it) (.ref s.heap.objs.size) (jl X N' scope s3.heap.objs.size fp s3 (upd H s.heap.objs.size (.lst []))).env) (Z (.ref s.heap.objs.size) s3.heap.objs.size)
   { s3 with heap:=h1,toks:=s3.toks+([]:List (Str×Value)).length }:=by
  refine Wd (fun n s'=>∃ i σ' H',Inv (jl X N' scope s3.heap.objs.size fp s3 (upd H s.heap.objs.size (.lst []))) [] σ' H' s'/\tn i s'.heap/\(∀ b ∈ fp,H' b=none)/\W i n σ' H') ?_ m0
   ⟨0,_,_,J0,st4,fun b hb=>(hf3 b hb).1,w0⟩
  rintro n s5 ⟨i,σ5,H5,I5,st5,fr5,w5⟩
  rcases turn i n σ5 H5 w5 with ⟨stop,q⟩ | ⟨go,step⟩
  ·refine thn (T.done (jl X N' scope s3.heap.objs.size fp s3 (upd H s.heap.objs.size (.lst []))) rfl rfl rfl hc i [] s5 σ5 H5 NoX I5 (stat (pl:=[]) fr5 (fun _ _ p hp=>absurd hp (by simp))) st5 stop) fun r s6 ⟨hr,I6⟩=>?_
   subst hr
   have I7:Inv X pins σ H5 s6:=I3.call' (ch:=fp) I6.os I6.base I6.hok I6.bare fun b hb=>⟨(hf3 b hb).2.2.2.1,(hf3 b hb).2.1,(hf3 b hb).2.2.2.2.1,(hf3 b hb).2.2.2.2.2⟩
   obtain⟨m6,n6,_⟩:=I6.loc
   exact hZ _ _ H5 s6 m6 I7 n6 I6.free (by rw[hsz];exact B8 _) q
  ·refine thn (T.item (jl X N' scope s3.heap.objs.size fp s3 (upd H s.heap.objs.size (.lst []))) rfl rfl rfl hc i [] s5 σ5 H5 NoX I5 (stat (pl:=[]) fr5 (fun _ _ p hp=>absurd hp (by simp))) st5 go) fun r s6 ⟨u,hr,h6⟩=>?_
   subst hr
   refine thn h6 fun _ s7 ⟨x,H7,I7,r7,y7,st7,fr7⟩=>?_
   have I7':=I7.pinned (stat (pl:=[]) fr7 (fun _ _ p hp=>absurd hp (by simp))) (T.obj _ _ st7)
   refine thn (hg _ _ _ _ _ s7 σ5 H7 x u _ I7' r7 (step x H7 y7)) fun _ s8 ⟨σ8,H8,I8,q8⟩=>?_
   refine thn (ht _ _ _ _ _ s8 σ8 H8 _ I8 q8) fun b s9 ⟨H9,I9,q9⟩=>?_
   have again:∀ {σ':St} {H':Hp} {s':Shared} {m':Nat},Inv (jl X N' scope s3.heap.objs.size fp s3 (upd H s.heap.objs.size (.lst []))) ([]++WV fp s7.heap) σ' H' s'->m' < n->W (i+1) m' σ' H' ->
     ∃ m,m < n/\∃ i σ' H',Inv (jl X N' scope s3.heap.objs.size fp s3 (upd H s.heap.objs.size (.lst []))) [] σ' H' s'/\tn i s'.heap/\(∀ b ∈ fp,H' b=none)/\W i m σ' H':=fun {σ' H' s' m'} I' hm w'=>by
    refine⟨m',hm,i+1,σ',H',I'.unpinned,T.keep _ _ _ st7 fun b hb o e=>(I'.pin (b,o) (Aa _ (Aa _ (ZH hb e)))).1,fun b hb=>?_,w'⟩
    obtain⟨o,e,d⟩:=T.obj _ _ st7 b hb
    exact (I'.pin (b,o) (Aa _ (Aa _ (ZH hb e)))).2.1
   cases b with
   | false=>
    obtain⟨m',hm,w'⟩:=(show ∃ m',m' < n/\W (i+1) m' σ8 H9 from q9)
    exact again I9 hm w'
   | true=>
    refine thn (he _ _ _ _ _ s9 σ8 H9 _ I9 q9) fun v s10 ⟨y,H10,I10,r10,q10⟩=>?_
    obtain⟨xs,hx,hl,m',hm,w'⟩:=q10
    refine thn (zX _ s10 σ8 H10 (.ref s.heap.objs.size) [y] (.ref s.heap.objs.size) [v] (fun _ H'=>W (i+1) m' σ8 H') I10 rfl (.cons r10 .nil) ⟨_,xs,y,rfl,rfl,hx,hl,w'⟩) fun _ s11 ⟨_,H11,I11,_,q11⟩=>?_
    exact again I11 hm q11
 exact codeAny_compStart_list loop (T.self _ _ _ _ _ st4 loop)
theorem qm {elt tg iter:Expr} {ifs:List Expr} {pos:Pos} {wi:TI} {g:TG} {tt:TT} {te:TE} (S:zS X.N X.env.scope N' ix scope) (hc:X.calm=true) (hi:PI X tg iter wi)
  (hg:∀ C fp s₀ H₀,PG (jl X N' scope C fp s₀ H₀) tg g) (ht:∀ C fp s₀ H₀,PF (jl X N' scope C fp s₀ H₀) ifs tt) (he:∀ C fp s₀ H₀,PE (jl X N' scope C fp s₀ H₀) elt te)
  (hs:∀ x,foldedSetIterable iter X.env x=pure x:=by intro _;rfl):PE X (.ListComp elt [⟨tg,iter,ifs,0⟩] scope pos) (tComp ix wi g tt te):=by
 intro pins s σ H Q I h
 rw[eval_ListComp]
 refine wpAny_comprehension_free (use:=none) rfl hs (wF (S.has I.ok)) S.kind S.locs (thn (hi pins s σ H _ I h) fun v s1 h1=>thn h1 fun itv s2 h2=>?_)
 obtain⟨it,fp,tn,J,H2,e,I2,T,st2,f2,q⟩:=h2
 subst e
 refine wH (Z:=fun acc C=>compPost (model X.prog X.w) X.A X.xe none (EP X pins σ Q) acc C) S hc hg ht he I2 T st2 f2 q ?_
 intro D C H' s' m I' hn hC hz qD
 refine⟨m,hn,fun h' sb=>?_⟩
 have I'':Inv X pins σ H' { s' with heap:=h',toks:=s'.toks }:=I'.turned (it:=C) (fun b o hb e=>(sb.2 b hb).trans e) hC (fun z=>absurd (Am I2.lt (by rw[<- z];exact hz)) (A6 _))
  (.inr (Ab I2.sz hz)) (fun x c e z=>by obtain⟨v,w⟩:=I2.cell x c e;exact absurd (Am w.lt (by rw[z];exact hz)) (A6 _)) (fun p hp z=>absurd (Am (AN (I2.pin p hp).1) (by rw[z];exact hz)) (A6 _))
 exact⟨.ref D,H',I'',rfl,qD⟩
theorem j4 {i:Nat} {y:Str} {py spos:Pos} {elt tg iter:Expr} {ifs:List Expr} {pos:Pos} {wi:TI} {g:TG} {tt:TT} {te:TE} (S:zS X.N X.env.scope N' ix scope) (hc:X.calm=true) (hi:PI X tg iter wi)
  (hg:∀ C fp s₀ H₀,PG (jl X N' scope C fp s₀ H₀) tg g) (ht:∀ C fp s₀ H₀,PF (jl X N' scope C fp s₀ H₀) ifs tt) (he:∀ C fp s₀ H₀,PE (jl X N' scope C fp s₀ H₀) elt te)
  (hN:X.N.Nodup) (hy:X.N[i]? = some y) (hl:X.env.scope.names.lookup y=some .local) (hsw:swapsWith (.ListComp elt [⟨tg,iter,ifs,0⟩] scope pos) (some (.Name y py)) spos.line X.env=pure true)
  (hs:∀ x,foldedSetIterable iter X.env x=pure x:=by intro _;rfl):PS X (.Assign [.Name y py] (.ListComp elt [⟨tg,iter,ifs,0⟩] scope pos) spos) (tAsg (tComp ix wi g tt te) (Zq i)):=by
 intro pins s σ H D I h
 rw[exec_Assign_Name_used _ _ _ _ hsw]
 refine AA (wpAny_standAt (AA ?_))
 rw[arm_evalThenUse_ListComp]
 refine AA (thn (wpAny_comprehension_free (use:=some (assign (.Name y py) X.env)) (Q:=fun _ s'=>SP X pins D .next s') rfl hs (wF (S.has I.ok)) S.kind S.locs
  (thn (hi pins s σ H _ I h) fun v s1 h1=>thn h1 fun itv s2 h2=>?_)) fun _ s' q=>AD (AD q))
 obtain⟨it,fp,tn,J,H2,e,I2,T,st2,f2,q⟩:=h2
 subst e
 refine wH (Q:=fun x H1=>Zq i x σ H1 D.nx) (Z:=fun acc C=>compPost (model X.prog X.w) X.A X.xe (some (assign (.Name y py) X.env)) (fun _ s'=>SP X pins D .next s') acc C) S hc hg ht he I2 T st2 f2 q ?_
 intro Dl C H' s' m I' hn hC hz qD
 have neL:C ≠ X.env.locals:=fun z=>absurd (Am I2.lt (by rw[<- z];exact hz)) (A6 _)
 have neC:∀ x c,X.env.cells.lookup x=some c->c ≠ C:=fun x c e z=>by obtain⟨v,w⟩:=I2.cell x c e;exact absurd (Am w.lt (by rw[z];exact hz)) (A6 _)
 show wpAny (model X.prog X.w) X.A (assign (.Name y py) X.env (.ref Dl)) _ X.xe s'
 refine wpAny_assign_Name (WU I' hN hy (.inl hl) (show RelV (.ref Dl) (.ref Dl) from rfl) (fun s'' J' ⟨a,sb,ha⟩=>?_) (.inr hl))
 have na:C ≠ a:=by
  rcases ha with z | z
  ·rw[z];exact neL
  ·exact BD (neC y a z)
 refine⟨m,hn.sameBut sb na,fun h' sb'=>?_⟩
 have I'':Inv X pins (σ.set i (some (.ref Dl))) H' { s'' with heap:=h',toks:=s''.toks }:=J'.turned (it:=C) (fun b o hb e=>(sb'.2 b hb).trans e) hC neL (.inr (Ab I2.sz hz)) neC
  (fun p hp z=>absurd (Am (AN (I2.pin p hp).1) (by rw[z];exact hz)) (A6 _))
 exact⟨_,H',I'',qD⟩
end
theorem bt_abs:bootBuiltins "abs" = some (.builtin "abs"):=by decide +kernel
theorem qX:bootBuiltins "len" = some (.builtin "len"):=by decide +kernel
theorem bt_sum:bootBuiltins "sum" = some (.builtin "sum"):=by decide +kernel
theorem Xu:bootBuiltins "all" = some (.builtin "all"):=by decide +kernel
theorem ju:bootBuiltins "isinstance" = some (.builtin "isinstance"):=by decide +kernel
theorem bt_int:bootBuiltins "int" = some (.type "int"):=by decide +kernel
theorem Xv:bootBuiltins "str" = some (.type "str"):=by decide +kernel
theorem qO:bootBuiltins "tuple" = some (.type "tuple"):=by decide +kernel
theorem Z7:bootBuiltins "list" = some (.type "list"):=by decide +kernel
def Def (P:Program) (w:World) (K:PySem.W.Frag) (mg:Str->Option Value) (base:Heap) (k:Nat) (x:Str) (ps:List Str) (sp:Sp):Prop:=
 ∃ (f:Addr) (fd:FuncData),jt P w K mg base CX0 k f fd ps sp/\mg x=some (.ref f)/\PySem.W.keepIn K (.ref f)=true/\Binds K fd ps []
section
variable {X : Cx}
theorem zw {k k':Nat} {x:Str} {ps:List Str} {sp:Sp} {e:Expr} {es:List Expr} {t:TA} {p pos:Pos} (D:Def X.prog X.w X.K X.mg X.base k x ps sp) (hr:QI k' X.A) (hk:k<=k') (hg:Gl X x) (ha:PA X (e :: es) t)
  (hdb:(x == ("__debug__" : Str))=false:=by decide) (he:starEach (e :: es) X.env=(false,eval e X.env) :: starEach es X.env:=by rfl) (hpl:(backTo pos (starEach es X.env)).any (·.1)=false:=by rfl) :
  PE X (.Call (.Name x p) (e :: es) [] pos) (tCall sp [] E0 t):=by
 obtain⟨f,fd,F,m,kp,b⟩:=D
 exact pe_call F (hr.mono hk) hg m kp b .nil pass0 ha hdb he hpl
theorem xg {ys:List Str}:∀ {us:List Value},qA (ys.map V.str) us->StrsAre us ys:=by
 induction ys with
 | nil=>intro us r;rw[Cg] at r;cases r;exact .nil
 | cons y ys ih=>
  intro us r
  rw[Ag] at r
  cases r with
  | cons r1 r2=>
   obtain⟨t,e⟩:=r1
   subst e
   exact .cons y t (ih r2)
theorem Xw:jB X (.builtin "isinstance") (fun xs H Q=>∃ x n t b,xs=[x,.ty n]/\Yx X.K H x t/\PySem.W.kitOne X.K t (.type n)=some b/\Q (.bl b) H):=by
 intro pins s σ H xs us Q I r h
 obtain⟨x,n,t,b,rfl,ty,e,q⟩:=h
 obtain⟨u,w',rfl,r1,r2⟩:=vals2 r
 cases r2
 exact Xm I r1 ty e fun tk=>⟨.bl b,H,I.tok tk,rfl,q⟩
theorem Ql {K:PySem.W.Frag} (n:String):PySem.W.kitOne K (.type n) (.type n)=some true:=by simp[PySem.W.kitOne]
def Its (z:Str):It:=⟨fun i _=>i < z.cps.size,fun i H x H'=>H'=H/\∃ c,z.cps[i]? = some c/\x=.str ⟨#[c]⟩,fun i _=>z.cps.size<=i⟩
def iStr (tl:TE):TI:=fun σ H R=>tl σ H fun x H1=>∃ z,x=.str z/\R (Its z) H1
theorem turn_str {P:Program} {w:World} {K:PySem.W.Frag} {tg:Expr} {z:Str} {tk:Tok} {it:Addr} {ty:String} (hty:ty = "str_ascii_iterator" \/ ty = "str_iterator") :
  Turn P w K tg (Its z) [it] it (fun i h=>h.IsStrIter it ty z tk i/\i<=z.cps.size) where
 mem:=by simp
 obj:=fun i h st b hb=>by
  have e:b=it:=by simpa using hb
  subst e
  obtain⟨⟨o,h1,h2,h3⟩,_⟩:=st
  exact⟨o,h1,fun v q=>by rw[h3] at q;cases q⟩
 keep:=fun i h h' st k=>by
  obtain⟨⟨o,h1,h2⟩,h3⟩:=st
  exact⟨⟨o,k it (by simp) o h1,h2⟩,h3⟩
 item:=by
  intro X hP hw hK hc i pins s σ H E I hf st hg
  subst hP hw hK
  obtain⟨f0,f1,f2,f3,f4,f5⟩:=hf it (by simp)
  have fin:∀ (v:Value) (h':Heap) (tk':Nat),SignAt z i v->h'.IsStrIter it ty z tk (i+1)->(∀ b o,b ∉ [it]->s.heap.get? b=some o->h'.get? b=some o) ->
    ∃ u,some v=some u/\wpAny (model X.prog X.w) X.A (letOwnedTupleGo tg (.ref it) u) (fun _ s2=>∃ x H',Inv X pins σ H' s2/\RelV x u/\(Its z).yld i H x H'/\(s2.heap.IsStrIter it ty z tk (i+1)/\i+1<=z.cps.size)/\∀ b ∈ [it],H' b=none) E { s with heap:=h',toks:=tk' }:=by
   intro v h' tk' hv st' kk
   obtain⟨c,t,hcx,rfl⟩:=hv
   have I1:Inv X pins σ H { s with heap:=h',toks:=tk' }:=I.turned (fun b o hb e=>kk b o (by simpa using hb) e) f0 f1 f3 f4 f5
   obtain⟨o,h1,h2,h3⟩:=id st'
   refine⟨_,rfl,go_of (s:={ s with heap:=h',toks:=tk' }) (n:=ty) h1 h2 h3 ?_ ⟨.str ⟨#[c]⟩,H,I1,⟨t,rfl⟩,⟨rfl,c,hcx,rfl⟩,⟨st',hg⟩,fun b hb=>(hf b hb).1⟩⟩
   rcases hty with rfl | rfl <;> decide
  rcases hty with rfl | rfl
  ·exact (Walks.strAscii (I.ok.hd hc) it z tk).item i s _ _ hg st.1 fun v h' tk' hv st' kk=>fin v h' tk' hv st' kk
  ·exact (Walks.strWide (I.ok.hd hc) it z tk).item i s _ _ hg st.1 fun v h' tk' hv st' kk=>fin v h' tk' hv st' kk
 done:=by
  intro X hP hw hK hc i pins s σ H E I hf st hg
  subst hP hw hK
  obtain⟨f0,f1,f2,f3,f4,f5⟩:=hf it (by simp)
  have e:i=z.cps.size:=EX st.2 hg
  subst e
  rcases hty with rfl | rfl
  ·exact (Walks.strAscii (I.ok.hd hc) it z tk).done s _ _ st.1 fun h' tk' kk=>⟨rfl,I.turned (fun b o hb e=>kk b o (by simpa using hb) e) f0 f1 f3 f4 f5⟩
  ·exact (Walks.strWide (I.ok.hd hc) it z tk).done s _ _ st.1 fun h' tk' kk=>⟨rfl,I.turned (fun b o hb e=>kk b o (by simpa using hb) e) f0 f1 f3 f4 f5⟩
 self:=fun A i s Q E st h=>by
  rcases hty with rfl | rfl
  ·exact wpAny_pyIter_striter_ascii st.1 h
  ·exact wpAny_pyIter_striter_wide st.1 h
theorem pi_str {tg l:Expr} {tl:TE} (hl:PE X l tl):PI X tg l (iStr tl):=by
 intro pins s σ H R I h
 refine thn (hl pins s σ H _ I h) fun v s1 ⟨x,H1,I1,r1,q1⟩=>?_
 obtain⟨z,rfl,q⟩:=q1
 obtain⟨t,rfl⟩:=r1
 have fin:∀ ty:String,ty = "str_ascii_iterator" \/ ty = "str_iterator" -> PIE X pins σ tg R (.ref s1.heap.objs.size) { s1 with heap:=s1.heap.push { cls:=.type ty,data:=.fields #[.str z t,.int 0 0] } }:=fun ty hty=>by
  refine⟨s1.heap.objs.size,[s1.heap.objs.size],_,_,H1,rfl,I1.kept (t':=s1.toks) fun b o e=>AF _ e,turn_str (z:=z) (tk:=t) hty,⟨⟨_,AO _ rfl,rfl,rfl⟩,A9 _⟩,fun b hb=>?_,q⟩
  have e:b=s1.heap.objs.size:=by simpa using hb
  subst e
  exact I1.fpOk (AK _) (I1.hok.fresh (AK _))
 cases ha:z.cps.all (· < 128)
 ·exact wpAny_pyIter_wide ha (fin _ (.inr rfl))
 ·exact wpAny_pyIter_ascii ha (fin _ (.inl rfl))
def rSlS:V->Option Int->Option Int->Hp->VK->Prop:=fun x lo hi H Q=>∃ z,x=.str z/\z.length<=sizeLine/\Q (.str (PySem.Txt.slice z lo hi)) H
theorem sl_str:SlR X rSlS:=by
 intro pins s σ H x v vl vu lo hi sl Q I rx hs pl pu h
 obtain⟨z,rfl,hz,q⟩:=h
 obtain⟨t,rfl⟩:=rx
 refine⟨"str",_,F.slot_str_getitem.lookup,typeIs_str _ _ _,?_⟩
 cases pl with
 | none=>
  cases pu with
  | none=>exact C8 (l:=none) (u:=none) (st:=none) hs rfl (Ds ⟨Ab (DL z _ _) hz,fun t' k=>⟨.str _,H,I.tok k,⟨t',rfl⟩,q⟩⟩)
  | int j uj=>exact C8 (l:=none) (u:=some (j,uj)) (st:=none) hs rfl (Ds ⟨Ab (DL z _ _) hz,fun t' k=>⟨.str _,H,I.tok k,⟨t',rfl⟩,q⟩⟩)
 | int i ui=>
  cases pu with
  | none=>exact C8 (l:=some (i,ui)) (u:=none) (st:=none) hs rfl (Ds ⟨Ab (DL z _ _) hz,fun t' k=>⟨.str _,H,I.tok k,⟨t',rfl⟩,q⟩⟩)
  | int j uj=>exact C8 (l:=some (i,ui)) (u:=some (j,uj)) (st:=none) hs rfl (Ds ⟨Ab (DL z _ _) hz,fun t' k=>⟨.str _,H,I.tok k,⟨t',rfl⟩,q⟩⟩)
theorem sl_any:SlR X (fun x lo hi H Q=>rSlL X.K x lo hi H Q\/(rSlT X.K x lo hi H Q\/rSlS x lo hi H Q)):=sl_list.or (sl_tup.or sl_str)
end
def cW (R:St->Prop) (P:Nat->List V->Hp->Prop) (n:Nat) (D:Addr):Nat->Nat->St->Hp->Prop:=fun i m σ' H=>m=n - i/\i<=n/\R σ'/\∃ ys,P i ys H/\H D=some (.lst ys)
def cYes (R:St->Prop) (P:Nat->List V->Hp->Prop) (n:Nat) (D:Addr) (σ:St) (i:Nat):VK:=fun v H5=>∃ xs,H5 D=some (.lst xs)/\xs.length < sizeLine/\∃ m',m' < n - i/\cW R P n D (i+1) m' σ (upd H5 D (.lst (xs++[v])))
def cNo (R:St->Prop) (P:Nat->List V->Hp->Prop) (n:Nat) (D:Addr) (σ:St) (i:Nat):Hp->Prop:=fun H4=>∃ m',m' < n - i/\cW R P n D (i+1) m' σ H4
theorem WQ {R:St->Prop} {P:Nat->List V->Hp->Prop} {n:Nat} {D:Addr} {σ:St} {i:Nat} {ys:List V} {v:V} {H:Hp} (hi:i < n) (r:R σ) (h:H D=some (.lst ys)) (hl:ys.length < sizeLine) (p:P (i+1) (ys++[v]) (upd H D (.lst (ys++[v])))):cYes R P n D σ i v H:=
 ⟨ys,h,hl,n - (i+1),by omega,rfl,hi,r,_,p,ze⟩
theorem cno {R:St->Prop} {P:Nat->List V->Hp->Prop} {n:Nat} {D:Addr} {σ:St} {i:Nat} {ys:List V} {H:Hp} (hi:i < n) (r:R σ) (h:H D=some (.lst ys)) (p:P (i+1) ys H):cNo R P n D σ i H:=
 ⟨n - (i+1),by omega,rfl,hi,r,_,p,h⟩
theorem Qm {J:It} {g:TG} {tt:TT} {te:TE} {σ0:St} {H1:Hp} {Q:VK} {D:Addr} {n:Nat} {xv:Nat->V} {st:Nat->St} (R:St->Prop) (P:Nat->List V->Hp->Prop) (r0:R σ0) (h0:P 0 [] (upd H1 D (.lst [])))
  (hj:∀ i ys H,i < n->P i ys H->H D=some (.lst ys)->J.go i H/\∀ x H2,J.yld i H x H2->H2=H/\x=xv i) (he:∀ ys H,P n ys H->H D=some (.lst ys)->J.stop n H)
  (hg:∀ i ys σ' H (K:St->Hp->Prop),i < n->R σ'->P i ys H->K (st i) H->g (xv i) σ' H K)
  (hs:∀ i ys H,i < n->P i ys H->H D=some (.lst ys)->tt (st i) H fun b H4=>if b=true then te (st i) H4 (cYes R P n D (st i) i) else cNo R P n D (st i) i H4)
  (hd:∀ ys H,P n ys H->H D=some (.lst ys)->Q (.ref D) H) :
  Zv J g tt te σ0 H1 Q D:=by
 refine⟨cW R P n D,⟨n,by simp[cW,r0];exact⟨_,h0,ze⟩⟩,?_⟩
 rintro i m σ' H' ⟨rfl,hi,r,ys,p,hD⟩
 by_cases hlt:i < n
 ·obtain⟨g1,g2⟩:=hj i ys H' hlt p hD
  refine .inr ⟨g1,fun x H2 y=>?_⟩
  obtain⟨rfl,rfl⟩:=g2 x H2 y
  exact hg i ys σ' H2 _ hlt r p (hs i ys H2 hlt p hD)
 ·have e:i=n:=by omega
  subst e
  exact .inl ⟨he ys H' p hD,hd ys H' p hD⟩
def YA (t:Nat) (σ0:St):St->Prop:=fun σ'=>∀ v,σ'.set t v=σ0.set t v
theorem rset0 {t:Nat} {σ0:St}:YA t σ0 σ0:=fun _=>rfl
theorem jM {t:Nat} {σ0:St} {x:Option V}:YA t σ0 (σ0.set t x):=fun v=>by rw[List.set_set]
theorem ZJ {t:Nat} {tt:TT} {te:TE} {σ0:St} {H1:Hp} {Q:VK} {D:Addr} {lo:Int} {n:Nat} (P:Nat->List V->Hp->Prop) (h0:P 0 [] (upd H1 D (.lst [])))
  (hs:∀ i ys H,i < n->P i ys H->H D=some (.lst ys)->tt (σ0.set t (some (.int (lo+i)))) H fun b H4=>if b=true then te (σ0.set t (some (.int (lo+i)))) H4 (cYes (YA t σ0) P n D (σ0.set t (some (.int (lo+i)))) i) else cNo (YA t σ0) P n D (σ0.set t (some (.int (lo+i)))) i H4)
  (hd:∀ ys H,P n ys H->H D=some (.lst ys)->Q (.ref D) H) :
  Zv (Itr lo n) (Zq t) tt te σ0 H1 Q D:=
 Qm (xv:=fun i=>.int (lo+i)) (st:=fun i=>σ0.set t (some (.int (lo+i)))) (YA t σ0) P rset0 h0 (fun i _ H hi _ _=>⟨hi,fun x H2 y=>y⟩) (fun _ _ _ _=>AK n)
  (fun i _ σ' H K _ r _ k=>by show K (σ'.set t (some (.int (lo+i)))) H;rw[r];exact k) hs hd
theorem jD {K:PySem.W.Frag} {a:Addr} {xs:List V} {t:Nat} {tt:TT} {te:TE} {σ0:St} {H1:Hp} {Q:VK} {D:Addr} (P:Nat->List V->Hp->Prop) (h0:P 0 [] (upd H1 D (.lst []))) (hl:∀ i ys H,P i ys H->H D=some (.lst ys)->SqL K H a xs)
  (hs:∀ i ys H x,xs[i]? = some x->P i ys H->H D=some (.lst ys)->tt (σ0.set t (some x)) H fun b H4=>if b=true then te (σ0.set t (some x)) H4 (cYes (YA t σ0) P xs.length D (σ0.set t (some x)) i) else cNo (YA t σ0) P xs.length D (σ0.set t (some x)) i H4)
  (hd:∀ ys H,P xs.length ys H->H D=some (.lst ys)->Q (.ref D) H) :
  Zv (Itl K a) (Zq t) tt te σ0 H1 Q D:=by
 have get:∀ i,i < xs.length->xs[i]? = some (xs.getD i .non):=fun i hi=>by simp[List.getD,hi]
 refine Qm (xv:=fun i=>xs.getD i .non) (st:=fun i=>σ0.set t (some (xs.getD i .non))) (YA t σ0) P rset0 h0 (fun i ys H hi p hD=>⟨⟨xs,_,hl i ys H p hD,get i hi⟩,fun x H2 y=>⟨y.1,?_⟩⟩) (fun ys H p hD=>⟨xs,hl _ ys H p hD,AK _⟩)
  (fun i _ σ' H K _ r _ k=>by show K (σ'.set t (some (xs.getD i .non))) H;rw[r];exact k) (fun i ys H hi p hD=>hs i ys H _ (get i hi) p hD) hd
 have e:=y.2 xs (hl i ys H p hD)
 rw[get i hi] at e
 exact (Ad e).symm
theorem Jb {K:PySem.W.Frag} {a:Addr} {xs:List V} {t:Nat} {tt:TT} {te:TE} {σ0:St} {H1:Hp} {Q:VK} {D:Addr} (P:Nat->List V->Hp->Prop) (h0:P 0 [] (upd H1 D (.lst []))) (hl:∀ i ys H,P i ys H->H D=some (.lst ys)->SqT K H a xs)
  (hs:∀ i ys H x,xs[i]? = some x->P i ys H->H D=some (.lst ys)->tt (σ0.set t (some x)) H fun b H4=>if b=true then te (σ0.set t (some x)) H4 (cYes (YA t σ0) P xs.length D (σ0.set t (some x)) i) else cNo (YA t σ0) P xs.length D (σ0.set t (some x)) i H4)
  (hd:∀ ys H,P xs.length ys H->H D=some (.lst ys)->Q (.ref D) H) :
  Zv (Itt K a) (Zq t) tt te σ0 H1 Q D:=by
 have get:∀ i,i < xs.length->xs[i]? = some (xs.getD i .non):=fun i hi=>by simp[List.getD,hi]
 refine Qm (xv:=fun i=>xs.getD i .non) (st:=fun i=>σ0.set t (some (xs.getD i .non))) (YA t σ0) P rset0 h0 (fun i ys H hi p hD=>⟨⟨xs,_,hl i ys H p hD,get i hi⟩,fun x H2 y=>⟨y.1,?_⟩⟩) (fun ys H p hD=>⟨xs,hl _ ys H p hD,AK _⟩)
  (fun i _ σ' H K _ r _ k=>by show K (σ'.set t (some (xs.getD i .non))) H;rw[r];exact k) (fun i ys H hi p hD=>hs i ys H _ (get i hi) p hD) hd
 have e:=y.2 xs (hl i ys H p hD)
 rw[get i hi] at e
 exact (Ad e).symm
theorem comp_str {z:Str} {t:Nat} {tt:TT} {te:TE} {σ0:St} {H1:Hp} {Q:VK} {D:Addr} (P:Nat->List V->Hp->Prop) (h0:P 0 [] (upd H1 D (.lst [])))
  (hs:∀ i ys H c,z.cps[i]? = some c->P i ys H->H D=some (.lst ys)->tt (σ0.set t (some (.str ⟨#[c]⟩))) H fun b H4=>if b=true then te (σ0.set t (some (.str ⟨#[c]⟩))) H4 (cYes (YA t σ0) P z.cps.size D (σ0.set t (some (.str ⟨#[c]⟩))) i) else cNo (YA t σ0) P z.cps.size D (σ0.set t (some (.str ⟨#[c]⟩))) i H4)
  (hd:∀ ys H,P z.cps.size ys H->H D=some (.lst ys)->Q (.ref D) H) :
  Zv (Its z) (Zq t) tt te σ0 H1 Q D:=by
 have get:∀ i,i < z.cps.size->z.cps[i]? = some (z.cps.getD i 0):=fun i hi=>by simp[Array.getD,hi]
 refine Qm (xv:=fun i=>.str ⟨#[z.cps.getD i 0]⟩) (st:=fun i=>σ0.set t (some (.str ⟨#[z.cps.getD i 0]⟩))) (YA t σ0) P rset0 h0 (fun i ys H hi p hD=>⟨hi,fun x H2 y=>⟨y.1,?_⟩⟩) (fun ys H p hD=>AK _)
  (fun i _ σ' H K _ r _ k=>by show K (σ'.set t (some (.str ⟨#[z.cps.getD i 0]⟩))) H;rw[r];exact k) (fun i ys H hi p hD=>hs i ys H _ (get i hi) p hD) hd
 obtain⟨c,e,ex⟩:=y.2
 rw[get i hi] at e
 rw[ex,<- Ad e]
theorem yes {σ:St} {H:Hp} {A B:Hp->Prop} (h:A H):tYes σ H fun b H4=>if b=true then A H4 else B H4:=by
 show if true=true then A H else B H
 rw[if_pos rfl]
 exact h
section
variable {X : Cx} (K : PySem.W.Frag)
theorem zn (hK:X.K=K:=by rfl):IxR X (rIx K):=hK ▸ ix_seq
theorem qo (hK:X.K=K:=by rfl):OpR X (compareOp .In) (rIn K false):=hK ▸ Xq
theorem Qn (hK:X.K=K:=by rfl):OpR X (compareOp .NotIn) (rIn K true):=hK ▸ W2
theorem Z8 (hK:X.K=K:=by rfl):SlR X (fun x lo hi H Q=>rSlL K x lo hi H Q\/(rSlT K x lo hi H Q\/rSlS x lo hi H Q)):=hK ▸ sl_any
theorem zT (hK:X.K=K:=by rfl):jB X (.builtin "len") (fun xs H Q=>∃ x n,xs=[x]/\LenV K x H n/\Q (.int n) H):=hK ▸ call_len
theorem Zb (hK:X.K=K:=by rfl):jB X (.type "list") (fun xs H Q=>∃ p ys,xs=[.ref p]/\(SqL K H p ys\/SqT K H p ys)/\∀ l,H l=none->Q (.ref l) (upd H l (.lst ys))):=hK ▸ W3
theorem zL (hK:X.K=K:=by rfl):jB X (.type "tuple") (fun xs H Q=>∃ p ys,xs=[.ref p]/\((SqL K H p ys/\∀ l,H l=none->Q (.ref l) (upd H l (.tup ys)))\/(SqT K H p ys/\Q (.ref p) H))):=hK ▸ Wc
theorem ZK (hK:X.K=K:=by rfl):jB X (.builtin "isinstance") (fun xs H Q=>∃ x n t b,xs=[x,.ty n]/\Yx K H x t/\PySem.W.kitOne K t (.type n)=some b/\Q (.bl b) H):=hK ▸ Xw
theorem zE {tg l:Expr} {tl:TE} (hl:PE X l tl) (hK:X.K=K:=by rfl):PI X tg l (iList K tl):=hK ▸ pi_list hl
theorem qT {tg l:Expr} {tl:TE} (hl:PE X l tl) (hK:X.K=K:=by rfl):PI X tg l (iTup K tl):=hK ▸ pi_tup hl
theorem qE {o e:Expr} {es:List Expr} {to:TE} {t:TA} {name:Str} {apos cpos:Pos} {T id:String} {r:V->List V->Hp->VK->Prop} (pa:PlainAttrs T) (slot:Slot T name id) (hty:typeOf (.builtin id)=pure (.type "method_descriptor")) (hm:MtR X id r) (ho:PE X o to) (ha:PA X (e :: es) t)
  (hbase:attributeBase o name X.env (eval o X.env)=eval o X.env:=by rfl)
  (hfew:((backTo cpos (starEach (e :: es) X.env)).all (fun x=>!x.1) && (backToKw cpos (keywordEach [] X.env)).all (fun x=>x.1.isSome)
   && decide ((e :: es).length+([]:List Keyword).length+(if ([]:List Keyword).isEmpty then 0 else 1) < 30))=true:=by rfl)
  (hline:(apos.endLine == cpos.line)=true:=by rfl) (hs:starEach (e :: es) X.env=(false,eval e X.env) :: starEach es X.env:=by rfl) (hplain:(backTo cpos (starEach es X.env)).any (·.1)=false:=by rfl) (hK:X.K=K:=by rfl) :
  PE X (.Call (.Attribute o name apos) (e :: es) [] cpos) (tBM K T r to t):=hK ▸ pe_bm pa slot hty hm ho ha hbase hfew hline hs hplain
theorem kpe_bm0 {o:Expr} {to:TE} {name:Str} {apos cpos:Pos} {T id:String} {r:V->List V->Hp->VK->Prop} (pa:PlainAttrs T) (slot:Slot T name id) (hty:typeOf (.builtin id)=pure (.type "method_descriptor")) (hm:MtR X id r) (ho:PE X o to)
  (hbase:attributeBase o name X.env (eval o X.env)=eval o X.env:=by rfl) (hline:(apos.endLine == cpos.line)=true:=by rfl) (hK:X.K=K:=by rfl):PE X (.Call (.Attribute o name apos) [] [] cpos) (tBM0 K T r to):=hK ▸ pe_bm0 pa slot hty hm ho hbase hline
theorem Z9 {es:List Expr} {k:Nat} {pos:Pos} {t:TGs} {n:Nat} (hc:X.calm=true) (h:PGs X es t) (hn:(assignEach es X.env).length=n:=by rfl) (hst:(assignEach es X.env).findIdx? (·.1)=none:=by rfl) (hK:X.K=K:=by rfl):PG X (.Tuple es k pos) (gTup K n t):=hK ▸ pg_tup hc h hn hst
end
section
variable {X : Cx}
end
section
variable {X : Cx} {pins : List (Addr × Obj)} {σ : St} {H H' : Hp} {s s' : Shared} {h2 : Heap}
end
section
variable {P : Program} {w : World} {K : PySem.W.Frag} {mg : Str -> Option Value} {base : Heap} {N : List Str} {qual : Str} {scope : Scope} {f : Addr} {cd : Value} {A : Around} {outer : List Env} {s : Shared} {H : Hp} {E : XK}
end
section
variable {X : Cx}
end
section
variable {X : Cx}
end
section
variable {X : Cx} {pins : List (Addr × Obj)} {σ : St} {H : Hp} {s : Shared}
theorem Inv.adopt {e:Addr} {u:HO} (I:Inv X pins σ H s) (hn:H e=none) (h0:X.s₀.heap.get? e=none) (nL:e ≠ X.env.locals) (nC:∀ x c,X.env.cells.lookup x=some c->c ≠ e) (nP:∀ p ∈ X.pn++pins,p.1 ≠ e)
  (ok:qI X.prog X.w (upd H e u) s.heap e u):Inv X pins σ (upd H e u) s:=by
 have ne:∀ {b:Addr} {v:HO},H b=some v->b ≠ e:=fun q=>zH q hn
 refine⟨I.ok,I.os,I.bare,⟨I.base.keep,I.base.slot,fun b o q n hx=>?_,I.base.there,fun b xs q=>?_,fun b o v q=>?_,fun b ps q=>?_⟩,I.loc,I.cell,?_,fun x c q=>?_,fun p hp=>?_,fun a o q=>?_,I.len⟩
 ·have z:b ≠ e:=fun z=>by rw[z,h0] at q;cases q
  rw[zI z]
  exact I.base.free b o q n hx
 ·have q1:=I.base.tups b xs q
  rw[zI (ne q1)]
  exact q1
 ·have q1:=I.base.frzs b o v q
  rw[zI (ne q1)]
  exact q1
 ·obtain⟨more,q1⟩:=I.base.tbls b ps q
  exact⟨more,by rw[zI (ne q1)];exact q1⟩
 ·rw[zI (BD nL)]
  exact I.free
 ·rw[zI (nC x c q)]
  exact I.freeC x c q
 ·obtain⟨p1,p2,p3⟩:=I.pin p hp
  exact⟨p1,by rw[zI (nP p hp)];exact p2,p3⟩
 ·by_cases z:a=e
  ·subst z
   rw[ze] at q
   cases q
   exact ok
  ·rw[zI z] at q
   exact (I.hok a o q).stay (fun _ _ _ r=>r) (fun c r=>by rw[zI (ne r)];exact r) fun c xs r=>by rw[zI (ne r)];exact r
end
section
variable {X : Cx} {pins : List (Addr × Obj)} {R : Value -> St -> Hp -> Prop} {e : Value} {s' : Shared}
end
section
variable {X : Cx} {pins : List (Addr × Obj)} {σ : St} {H : Hp} {s : Shared} {ea : Addr}
end
section
variable {X : Cx} {k k' : Nat} {x : Str} {ps : List Str} {sp : Sp} {e : Expr} {es : List Expr} {t : TA} {p pos : Pos}
end
section
variable {P : Program} {w : World} {K : PySem.W.Frag} {mg : Str -> Option Value} {base : Heap}
end
section
variable {prog : Program} {w : World} {A : Around} {E : Value -> Shared -> Prop} {s : Shared} {K : PySem.W.Frag} {e C : Addr} {h : Heap}
end
def Xx (xs ys:List V):Bool:=(xs.zip ys).all (fun p=>eqV p.1 p.2) && xs.length == ys.length
theorem eqAt_get {A:Around} {s:Shared} {xs ys:List V} {us vs:List Value} (rx:qA xs us) (ry:qA ys vs) (fx:xs.all jY=true) (fy:ys.all jY=true) (j:Nat) (h1:j < us.toArray.size) (h2:j < vs.toArray.size) :
  SeqAt.EqAt A s us.toArray[j] vs.toArray[j] (eqV (xs.getD j .non) (ys.getD j .non)):=by
 have l1:=rx.length
 have l2:=ry.length
 have g1:j < us.length:=by simpa using h1
 have g2:j < vs.length:=by simpa using h2
 have k1:xs[j]? = some (xs.getD j .non):=by simp[List.getD,show j < xs.length by omega]
 have k2:ys[j]? = some (ys.getD j .non):=by simp[List.getD,show j < ys.length by omega]
 obtain⟨u,e1,r1⟩:=rx.get k1
 obtain⟨v,e2,r2⟩:=ry.get k2
 have f1:=A0.mp fx _ (AI k1)
 have f2:=A0.mp fy _ (AI k2)
 have w1:us.toArray[j]=u:=by
  rw[AG g1] at e1
  simpa using Ad e1
 have w2:vs.toArray[j]=v:=by
  rw[AG g2] at e2
  simpa using Ad e2
 rw[w1,w2]
 exact Yz r1 r2 f1 f2
theorem W6:∀ (xs ys:List V),xs.length=ys.length->((List.range xs.length).all fun j=>eqV (xs.getD j .non) (ys.getD j .non))=(xs.zip ys).all fun p=>eqV p.1 p.2
 | [],[],_=>rfl
 | [],_ :: _,h=>by cases h
 | _ :: _,[],h=>by cases h
 | x :: xs,y :: ys,h=>by
  have ih:=W6 xs ys (by simpa using h)
  rw[Aq,Da,CH,DK,DM,CH,<- ih]
  rfl
section
variable {X : Cx}
theorem YB {bs:List Bool}:∀ {us:List Value},qA (bs.map V.bl) us->us=bs.map Value.bool:=by
 induction bs with
 | nil=>intro us r;rw[Cg] at r;cases r;rfl
 | cons b bs ih=>
  intro us r
  rw[Ag] at r
  cases r with
  | cons r1 r2=>rw[Ag,<- ih r2];cases r1;rfl
theorem Jo:∀ bs:List Bool,((List.range bs.length).all fun i=>bs.getD i true)=bs.all id
 | []=>rfl
 | b :: bs=>by
  have ih:=Jo bs
  rw[Aq,Da,CH,DK,CH,<- ih]
  rfl
theorem call_all (hc:X.calm=true):jB X (.builtin "all") (fun xs H Q=>∃ (p:Addr) (bs:List Bool),xs=[.ref p]/\SqL X.K H p (bs.map V.bl)/\Q (.bl (bs.all id)) H):=by
 intro pins s σ H xs us Q I r h
 obtain⟨p,bs,rfl,hq,q⟩:=h
 obtain⟨u,rfl,ru⟩:=vals1 r
 cases ru
 obtain⟨its,rv,pl,_⟩:=I.list hq
 have hl:s.heap.IsList p its.toArray:=pl.isList
 have hlt:p < s.heap.objs.size:=by obtain⟨_,e,_⟩:=hl;exact AN e
 refine call_all_walk (Bo hl ⟨_,_,_,_,_,_,fun i=>bs.getD i true,rfl,Walks.list (A:=X.A.in1) (I.ok.hd hc) _ p (AR hlt) its.toArray,⟨⟨_,AO _ rfl,rfl,rfl⟩,hl.push _⟩,fun i v s' Q' E' hv hQ=>?_,fun h' tk hk=>⟨.bl _,H,I.kept (old_kept hk),rfl,?_⟩⟩)
 ·have hv':its[i]? = some v:=by simpa using hv
  rw[YB rv,AJ] at hv'
  obtain⟨b,hb,rfl⟩:=AX.mp hv'
  have e:bs.getD i true=b:=by simp[List.getD,hb]
  have z:Q' (bs.getD i true) s':=hQ
  rw[e] at z
  exact CJ z
 ·have e1:its.toArray.size=bs.length:=by
   have:=rv.length
   rw[AB] at this
   simp;omega
  rw[e1]
  have e2:=Jo bs
  rw[e2]
  exact q
theorem Jp (K:PySem.W.Frag) (hc:X.calm=true) (hK:X.K=K:=by rfl):jB X (.builtin "all") (fun xs H Q=>∃ (p:Addr) (bs:List Bool),xs=[.ref p]/\SqL K H p (bs.map V.bl)/\Q (.bl (bs.all id)) H):=hK ▸ call_all hc
end
section
variable {X : Cx} {tg : Expr}
end
def Xy {α:Type} [DecidableEq α] (l:List α) (v:α):List α:=if v ∈ l then l else l++[v]
def we {α:Type} [DecidableEq α] (vs:List α):List α:=vs.foldl Xy []
theorem YC {α:Type} [DecidableEq α] {l:List α} {v x:α}:x ∈ Xy l v ↔ x ∈ l\/x=v:=by
 unfold Xy
 split
 ·rename_i h
  constructor
  ·exact .inl
  ·rintro (z | rfl)
   ·exact z
   ·exact h
 ·simp
theorem YD {α:Type} [DecidableEq α] {l:List α} {v:α}:(Xy l v).length=if v ∈ l then l.length else l.length+1:=by
 unfold Xy
 split <;> simp
theorem W7 {α:Type} [DecidableEq α] (vs:List α) (v:α):we (vs++[v])=Xy (we vs) v:=by
 unfold we
 rw[EB]
 rfl
theorem W8 {α:Type} [DecidableEq α]:∀ (vs l:List α),(vs.foldl Xy l).length<=l.length+vs.length
 | [],l=>AK _
 | v :: vs,l=>by
  have h:=W8 vs (Xy l v)
  rw[YD] at h
  rw[B5,Aq]
  split at h <;> omega
theorem dedK_len {α:Type} [DecidableEq α] (vs:List α):(we vs).length<=vs.length:=by
 have:=W8 vs []
 simpa [we] using this
section
variable {prog : Program} {w : World} {A : Around} {E : Value -> Shared -> Prop} {s : Shared}
theorem Xz:∀ {us:List Value} {ys:List Str},StrsAre us ys->∀ (i:Nat) (v:Value),us[i]? = some v->∃ t,v=.str (ys.getD i "") t
 | _,_,.nil,i,v,h=>by simp at h
 | _,_,.cons y t r,0,v,h=>⟨t,(Ad h).symm⟩
 | _,_,.cons y t r,i+1,v,h=>by
  obtain⟨t',e⟩:=Xz r i v (by simpa using h)
  exact⟨t',by rw[e];rfl⟩
def qr (b:Bool):Obj:={ cls:=.type "set",dict:=none,data:=.set #[] 0 (.fresh 0 0 b) }
end
section
variable {X : Cx}
theorem YE:bootBuiltins "set" = some (.type "set"):=by decide +kernel
end
section
variable {prog : Program} {w : World} {A : Around} {E : Value -> Shared -> Prop} {s : Shared}
theorem yQ {it t:Addr} {k:Nat} {items:Array Value} {x:Value} {Q:Value->Shared->Prop} (hi:s.heap.IsTupleIter it t k) (ht:s.heap.IsTuple t items) (hx:items[k]? = some x)
  (q:∀ h',h'.IsTupleIter it t (k+1)->Heap.SameBut it s.heap h'->Q x { s with heap:=h' }):wpAny (model prog w) A (Builtin.SmallTypes.nextOf (.ref it)) Q E s:=by
 obtain⟨oi,a1,a2,a3⟩:=id hi
 obtain⟨ot,b1,_,nt,b3⟩:=ht
 unfold Builtin.SmallTypes.nextOf
 refine AA (wpAny_callSpecial?_slot (name:=Str.ofString "__next__") hi.typeIs B6 (Ay B6 hi.typeIs D0 ?_ (Dw _)))
 refine AA (m:=field (.ref it) 0) (Bq a1 a3 (x:=.ref t) rfl ?_)
 show wpAny _ _ (if (Value.ref t == Value.none)=true then _ else field (.ref it) 1 >>= _) _ _ s
 rw[if_neg (show ¬ ((Value.ref t == Value.none)=true) from AS)]
 refine AA (Bq a1 a3 (x:=.int k 0) rfl (AA (m:=seqItems? (.ref t)) (CS b1 b3 ?_)))
 simp only[Int.toNat_natCast,hx]
 refine AA (BP a1 a3 (by simp) (AD ⟨x,rfl,AD (q _ ⟨_,Aj _ a1 (BS (Az a3 _)),(CN ..).trans a2,?_⟩ (A5 ..))⟩))
 rw[Az a3];simp[rawInt]
theorem yR {it t:Addr} {k:Nat} {items:Array Value} {Q:Value->Shared->Prop} (hh:A.handled=none) (hi:s.heap.IsTupleIter it t k) (ht:s.heap.IsTuple t items) (hx:items[k]? = none)
  (q:∀ h' e,Heap.ExtBut it s.heap h'->(∃ o,h'.get? e=some o/\o.cls=.type "StopIteration")->E (.ref e) { s with heap:=h' }):wpAny (model prog w) A (Builtin.SmallTypes.nextOf (.ref it)) Q E s:=by
 obtain⟨oi,a1,a2,a3⟩:=id hi
 obtain⟨ot,b1,_,nt,b3⟩:=ht
 unfold Builtin.SmallTypes.nextOf
 refine AA (wpAny_callSpecial?_slot (name:=Str.ofString "__next__") hi.typeIs B6 (Ay B6 hi.typeIs D0 ?_ (Dw _)))
 refine AA (m:=field (.ref it) 0) (Bq a1 a3 (x:=.ref t) rfl ?_)
 show wpAny _ _ (if (Value.ref t == Value.none)=true then _ else field (.ref it) 1 >>= _) _ _ s
 rw[if_neg (show ¬ ((Value.ref t == Value.none)=true) from AS)]
 refine AA (Bq a1 a3 (x:=.int k 0) rfl (AA (m:=seqItems? (.ref t)) (CS b1 b3 ?_)))
 simp only[Int.toNat_natCast,hx]
 refine AA (Bd (AA (BP a1 a3 (by simp) (wpAny_bind (m:=newExc (.type "StopIteration") []) ?_))))
 simp only[newExc,newTuple];refine AA (Ap (AA (m:=firstArgMember _ _) (BO (a:=Value.none) (by first | rfl | (simp only[firstArgMember];rfl)) (Ap ?_ (by size_fits)))) (by size_fits))
 simp only[raiseNew];refine AA (Dm ?_)
 first | rw[show A.in1.handled=none from hh] | rw[hh]
 exact AA (AD (D5 (q _ _ (((A5 ..).extBut.push _).push _) ⟨_,AO _ rfl,rfl⟩)))
variable {z TI TO i1 i2 t1 t2 : Addr} {xs ys : Array Value} {k1 k2 : Nat}
end
section
variable {X : Cx}
end
section
variable {X : Cx}
theorem W9:OpR X (compareOp .LtE) (fun x y H Q=>∃ i j,x=.str i/\y=.str j/\Q (.bl (!decide (j.cps.toList < i.cps.toList))) H):=by
 intro pins s σ H x y v u Q I rx ry h
 obtain⟨i,j,rfl,rfl,q⟩:=h
 obtain⟨t,rfl⟩:=rx
 obtain⟨t',rfl⟩:=ry
 exact PySem.P.le_str (qg I q rfl)
end
def yS (H:Hp):Nat->V->V->Prop
 | 0,v,u=>v=u/\jY v=true
 | n+1,v,u=>(v=u/\jY v=true)\/∃ a b xs ys,v=.ref a/\u=.ref b/\H a=some (.tup xs)/\H b=some (.tup ys)/\Paired (yS H n) xs ys
theorem We {v:V} (h:jY v=true):eqV v v=true:=by
 cases v with
 | non=>rfl
 | bl b=>simp[eqV]
 | int i=>simp[eqV]
 | str x=>simp[eqV]
 | _=>cases h
theorem Paired.at {α β:Type} {F:α->β->Prop}:∀ {l₁:List α} {l₂:List β},Paired F l₁ l₂->∀ (i:Nat) (x:α) (y:β),l₁[i]? = some x->l₂[i]? = some y->F x y
 | _,_,.nil,i,x,y,h,_=>by simp at h
 | _,_,.cons r t,0,x,y,h,k=>by simp at h k;subst h k;exact r
 | _,_,.cons r t,i+1,x,y,h,k=>Paired.at t i x y (by simpa using h) (by simpa using k)
section
variable {X : Cx} {pins : List (Addr × Obj)} {σ : St} {H : Hp} {s : Shared}
theorem Jq {A:Around} {n:Nat} {xs ys:List V} {us vs:List Value} (ih:∀ {v u:V} {v' u':Value},RelV v v'->RelV u u'->yS H n v u->SeqAt.EqAt A s v' u' true) (r1:qA xs us) (r2:qA ys vs) (pr:Paired (yS H n) xs ys) (j:Nat) (h1:j < us.toArray.size) (h2:j < vs.toArray.size) :
  SeqAt.EqAt A s us.toArray[j] vs.toArray[j] true:=by
 have l1:=r1.length
 have l2:=r2.length
 have g1:j < us.length:=by simpa using h1
 have g2:j < vs.length:=by simpa using h2
 have k1:xs[j]? = some (xs.getD j .non):=by simp[List.getD,show j < xs.length by omega]
 have k2:ys[j]? = some (ys.getD j .non):=by simp[List.getD,show j < ys.length by omega]
 obtain⟨u,e1,q1⟩:=r1.get k1
 obtain⟨v,e2,q2⟩:=r2.get k2
 have w1:us.toArray[j]=u:=by
  rw[AG g1] at e1
  simpa using Ad e1
 have w2:vs.toArray[j]=v:=by
  rw[AG g2] at e2
  simpa using Ad e2
 rw[w1,w2]
 exact ih q1 q2 (Paired.at pr j _ _ k1 k2)
theorem YF (I:Inv X pins σ H s):∀ (n:Nat) {A:Around} {v u:V} {v' u':Value},A.units+n < cLine->RelV v v'->RelV u u'->yS H n v u->SeqAt.EqAt A s v' u' true
 | 0,A,v,u,v',u',_,r1,r2,h=>by
  obtain⟨rfl,f⟩:=h
  have:=Yz (A:=A) (s:=s) r1 r2 f f
  rw[We f] at this
  exact this
 | n+1,A,v,u,v',u',hu,r1,r2,h=>by
  rcases h with ⟨rfl,f⟩ | ⟨a,b,xs,ys,rfl,rfl,ha,hb,pr⟩
  ·have:=Yz (A:=A) (s:=s) r1 r2 f f
   rw[We f] at this
   exact this
  ·cases r1
   cases r2
   by_cases ab:a=b
   ·subst ab
    exact SeqAt.EqAt.same _
   ·obtain⟨_,us,q1,p1⟩:=I.hok a _ ha
    obtain⟨_,vs,q2,p2⟩:=I.hok b _ hb
    have ln:=Al pr
    have l1:=q1.length
    have l2:=q2.length
    have z:=SeqAt.RcAt.tuples (A:=A) (s:=s) (e:=fun _=>true) p1.isTup p2.isTup (by omega) (Jq (A:=A.in1) (fun {v u v' u'} a1 a2 a3=>YF I n (A:=A.in1) (by show A.units+1+n < cLine;omega) a1 a2 a3) q1 q2 pr)
    have e:((List.range (min us.toArray.size vs.toArray.size)).all (fun _=>true) && us.toArray.size == vs.toArray.size)=true:=by
     simp;omega
    rw[e] at z
    exact SeqAt.EqAt.of_refs ab z
def rNeD (n:Nat):R2:=fun x y H Q=>∃ a b xs ys,x=.ref a/\y=.ref b/\H a=some (.tup xs)/\H b=some (.tup ys)/\Paired (yS H n) xs ys/\Q (.bl false) H
theorem op_neD (n:Nat) {k:Nat} (hr:QI k X.A) (hn:n<=20):OpR X (compareOp .NotEq) (rNeD n):=by
 intro pins s σ H x y v u Q I rx ry h
 obtain⟨a,b,xs,ys,rfl,rfl,ha,hb,pr,q⟩:=h
 cases rx
 cases ry
 have hu:X.A.units+64 < cLine:=hr.units
 obtain⟨_,us,q1,p1⟩:=I.hok a _ ha
 obtain⟨_,vs,q2,p2⟩:=I.hok b _ hb
 have ln:=Al pr
 have l1:=q1.length
 have l2:=q2.length
 have z:=SeqAt.RcNeAt.tuples (A:=X.A) (s:=s) (e:=fun _=>true) p1.isTup p2.isTup (by omega) (Jq (A:=X.A.in1) (fun {v u v' u'} a1 a2 a3=>YF I n (A:=X.A.in1) (by show X.A.units+1+n < cLine;omega) a1 a2 a3) q1 q2 pr)
 have e:(!((List.range (min us.toArray.size vs.toArray.size)).all (fun _=>true) && us.toArray.size == vs.toArray.size))=false:=by
  simp;omega
 rw[e] at z
 exact z X.prog X.w _ _ ⟨.bl _,H,I,rfl,q⟩
end
end L2
namespace L4
open PySem L2
def Off (p:Addr) (H H':Hp):Prop:=∀ b o,b ≠ p->H b=some o->H' b=some o
def Tk (H H':Hp):Prop:=∀ b xs,H b=some (.tup xs)->H' b=some (.tup xs)
theorem Off.refl {p:Addr} {H:Hp}:Off p H H:=fun _ _ _ h=>h
theorem Off.trans {p:Addr} {H H1 H2:Hp} (a:Off p H H1) (b:Off p H1 H2):Off p H H2:=fun c o n h=>b c o n (a c o n h)
theorem Off.put {p:Addr} {H:Hp} {o:HO}:Off p H (upd H p o):=fun c u n h=>by rw[zI n];exact h
theorem Tk.trans {H H1 H2:Hp} (a:Tk H H1) (b:Tk H1 H2):Tk H H2:=fun c xs h=>b c xs (a c xs h)
theorem Tk.put {t:Addr} {H:Hp} {xs:List V} {o:HO} (h:H t=some (.lst xs)):Tk H (upd H t o):=fun c u q=>by rw[zI (Y5 q h (by intro z;cases z))];exact q
theorem zf {H:Hp} {p:Addr} (h:H p=none) (o:HO):zD H (upd H p o):=fun b u q=>by rw[zI (zH q h)];exact q
theorem Off.of {p:Addr} {H H':Hp} (s:zD H H'):Off p H H':=fun b o _ q=>s b o q
theorem Tk.of {H H':Hp} (s:zD H H'):Tk H H':=fun b xs q=>s b _ q
theorem take_snoc {α:Type} {xs:List α} {i:Nat} {x:α} (h:xs[i]? = some x):xs.take (i+1)=xs.take i++[x]:=by rw[DS,h];rfl
theorem zq {n:Nat} (h:n<=1000):n<=sizeLine:=Br (zu h)
end L4
namespace Fr
end Fr
namespace Fr
end Fr
namespace L4
open PySem L2
theorem _root_.L2.zD.put {H H':Hp} {l:Addr} {o:HO} (h:zD H H') (n:H l=none):zD H (upd H' l o):=fun b u e=>by rw[zI (zH e n)];exact h b u e
end L4
namespace L2
open PySem PySem.Spec PyProof.Rows
variable {X : Cx}
end L2
namespace HT
open PySem PyProof.Rows
open PySem.SeqAt
open PySem.AutoSeq1 (wpAny_loadPart')
open PySem.MeetsSeq PySem.MeetsSeq2 PySem.MeetsSeq3
variable {prog : Program} {w : World} {A : Around} {E : Value -> Shared -> Prop} {s : Shared}
theorem getItem_tuple_whole {t sl:Addr} {items:Array Value} {vl vu:Value} {lo hi:Option Int} {Q:Value->Shared->Prop} (ht:IsTup s.heap t items) (hs:s.heap.IsSliceOf sl vl vu .none) (pl:IsPart vl lo) (pu:IsPart vu hi)
  (hw:sIx items.size 0 lo=0/\sIx items.size items.size hi=items.size)
  (h:Q (.ref t) s):wpAny (model prog w) A (getItem (.ref t) (.ref sl)) Q E s:=by
 obtain⟨os,hos,hcs,hds⟩:=id hs
 have hTs:s.TypeIs (.ref sl) "slice":=⟨os,hos,hcs⟩
 unfold getItem
 try with_reducible refine BJ ?_
 first | refine AA (AD ?_) | skip
 refine AA (wpAny_sequenceKey ht.typeIs (by decide) ?_)
 refine AA (wpAny_callSpecial?_slot (name:=Str.ofString "__getitem__") ht.typeIs BU
  (Ay BU ht.typeIs entry_tuple_getitem ?_ (args_tuple_getitem _ _)))
 show wpAny _ _ (Builtin.Tuple.tupleItemsOf (.ref t) >>= _) _ _ s
 refine AA (tupleItemsOf_ ht ?_)
 refine AA (Bm hTs ?_)
 rw[if_pos (by decide)]
 refine AA (sliceApplied_gen hs pl pu ?_)
 have hyes:(((sIx items.size 0 lo:Nat):Int) == 0 && (1:Int) == 1 && (sIx items.size items.size hi - sIx items.size 0 lo) == items.size)=true:=by
  rw[hw.1,hw.2]
  simp
 show wpAny _ _ (if (((sIx items.size 0 lo:Nat):Int) == 0 && (1:Int) == 1 && (sIx items.size items.size hi - sIx items.size 0 lo) == items.size)=true then _ else _) _ _ s
 rw[if_pos hyes]
 refine AA (m:=Builtin.Tuple.tupleIsExact _) (AA (Bm ht.typeIs (AD ?_)))
 rw[if_pos (by decide)]
 first
  | exact AA (Bd (AD ⟨_,rfl,AD h⟩))
  | exact Bd (AD ⟨_,rfl,AD h⟩)
  | exact AA (Bd ⟨_,rfl,AD h⟩)
  | exact AD ⟨_,rfl,AD h⟩
end HT
namespace L2
open PySem PySem.Spec PyProof.Rows
variable {X : Cx}
def rSlTW (K:PySem.W.Frag):V->Option Int->Option Int->Hp->VK->Prop:=fun x lo hi H Q=>∃ a xs,x=.ref a/\SqT K H a xs /\
 (HT.sIx xs.length 0 lo=0/\HT.sIx xs.length xs.length hi=xs.length)/\Q (.ref a) H
theorem sl_tupW:SlR X (rSlTW X.K):=by
 intro pins s σ H x v vl vu lo hi sl Q I rx hs pl pu h
 obtain⟨a,xs,rfl,hx,hw,q⟩:=h
 cases rx
 obtain⟨its,r,ht,hz⟩:=I.tuple hx
 have hlen:its.toArray.size=xs.length:=by rw[BC];exact r.length.symm
 refine⟨"tuple",_,BU.lookup,ht.typeIs,?_⟩
 exact HT.getItem_tuple_whole ht hs pl pu (by rw[hlen];exact hw) ⟨.ref a,H,I,rfl,q⟩
section
variable {X : Cx}
def rCatA (K:PySem.W.Frag):R2:=fun x y H Q=>∃ a b xs ys,x=.ref a/\y=.ref b/\SqT K H a xs/\SqT K H b ys/\xs.length+ys.length<=sizeLine /\
 (xs=[]->Q (.ref b) H)/\(xs ≠ []->ys=[]->Q (.ref a) H)/\(xs ≠ []->ys ≠ []->∀ p,H p=none->Q (.ref p) (upd H p (.tup (xs++ys))))
theorem Wf (K:PySem.W.Frag) (hK:X.K=K:=by rfl):OpR X (binaryOp .Add) (rCatA K):=by
 subst hK
 intro pins s σ H x y v u Q I rx ry h
 obtain⟨a,b,xs,ys,rfl,rfl,ha,hb,hz,q0,q1,q2⟩:=h
 by_cases hx:xs=[]
 ·cases rx
  cases ry
  obtain⟨its,r1,p1,_⟩:=I.tuple ha
  obtain⟨its2,r2,p2,_⟩:=I.tuple hb
  obtain⟨⟨cls,dd,data,sl⟩,ho,hc,n,hd⟩:=id p1
  obtain⟨⟨cls2,dd2,data2,sl2⟩,ho2,hc2,n2,hd2⟩:=id p2
  simp only at hc hd hc2 hd2
  subst hc hd hc2 hd2
  have hv:its=[]:=(qA.nil_iff r1).mpr hx
  exact Eb ⟨_,ho,rfl⟩ ⟨_,ho2,rfl⟩ Dn EM C1 Cy (Ct _ _)
   (tuple_addW0 a b its.toArray its2.toArray n n2 dd dd2 sl sl2 (by simp[hv])) ⟨ho,ho2,⟨.ref b,H,I,rfl,q0 hx⟩⟩
 ·exact op_catT pins s σ H _ _ v u Q I rx ry ⟨a,b,xs,ys,rfl,rfl,ha,hb,hx,hz,q1 hx,q2 hx⟩
end
end L2
namespace L4
open PySem L2
theorem jE:∀ (l ns:List Str),l.Nodup->(∀ x ∈ l,x ∈ ns)->l.length<=ns.length
 | [],ns,_,_=>A9 _
 | x :: l,ns,nd,h=>by
  obtain⟨n1,n2⟩:=Bf.mp nd
  have ih:=jE l (ns.erase x) n2 fun y hy=>(List.mem_erase_of_ne (fun (e:y=x)=>n1 (e ▸ hy))).mpr (h y (AY _ hy))
  have hx:=h x AW
  have e:=DU hx
  have pos:0 < ns.length:=Dc hx
  rw[Aq]
  omega
open PySem L2 PySem.StrLaws
def Small (x:Str):Prop:=∀ c ∈ x.cps.toList,97<=c/\c<=122
theorem jv {α:Type} {K:PySem.W.Frag} {a D:Addr} {t:Nat} {te:TE} {σ0:St} {H1:Hp} {Q:VK} (as:List α) (g h:α->V) (ha:H1 a=some (.lst (as.map g))) (hl:as.length<=1000) (hD:H1 D=none)
  (he:∀ z ∈ as,∀ H' Q',zD H1 H'->(∀ H'',zD H' H''->Q' (h z) H'')->te (σ0.set t (some (g z))) H' Q')
  (q:∀ H',zD H1 H'->H' D=some (.lst (as.map h))->Q (.ref D) H'):Zv (Itl K a) (Zq t) tYes te σ0 H1 Q D:=by
 refine jD (xs:=as.map g) (fun i ys H'=>zD H1 H'/\ys=(as.take i).map h) ⟨zf hD _,rfl⟩ (fun i ys H' hh _=>SqL.of (hh.1 _ _ ha)) ?_ ?_
 ·rintro i ys H' x hx ⟨s1,rfl⟩ hD'
  have hi:i < (as.map g).length:=(AC.mp hx).1
  rw[AJ] at hx
  obtain⟨z,hz,rfl⟩:=AX.mp hx
  refine yes (he z (AI hz) H' _ s1 fun H'' s2=>?_)
  rw[AB] at hi
  refine WQ (by rw[AB];exact hi) jM (s2 _ _ hD') (by rw[AB,An];exact zu (by omega)) ⟨fun b o qb=>?_,?_⟩
  ·rw[zI (zH qb hD)]
   exact s2 b o (s1 b o qb)
  ·rw[take_snoc hz,AL]
   rfl
 ·rintro ys H' ⟨s1,rfl⟩ hD'
  rw[AB,Ae] at hD'
  exact q H' s1 hD'
theorem map_str {z:Str} {D:Addr} {t:Nat} {te:TE} {σ0:St} {H1:Hp} {Q:VK} (h:Nat->V) (hl:z.length<=1000) (hD:H1 D=none)
  (he:∀ c ∈ z.cps.toList,∀ H' Q',zD H1 H'->(∀ H'',zD H' H''->Q' (h c) H'')->te (σ0.set t (some (.str ⟨#[c]⟩))) H' Q')
  (q:∀ H',zD H1 H'->H' D=some (.lst (z.cps.toList.map h))->Q (.ref D) H'):Zv (Its z) (Zq t) tYes te σ0 H1 Q D:=by
 refine comp_str (fun i ys H'=>zD H1 H'/\ys=(z.cps.toList.take i).map h) ⟨zf hD _,rfl⟩ ?_ ?_
 ·rintro i ys H' c hc ⟨s1,rfl⟩ hD'
  have hi:i < z.cps.size:=(Ce.mp hc).1
  have hc':z.cps.toList[i]? = some c:=by simpa using hc
  have hs:z.cps.size=z.length:=rfl
  refine yes (he c (AI hc') H' _ s1 fun H'' s2=>?_)
  refine WQ hi jM (s2 _ _ hD') (by rw[AB,An];exact zu (by omega)) ⟨fun b o qb=>?_,?_⟩
  ·rw[zI (zH qb hD)]
   exact s2 b o (s1 b o qb)
  ·rw[take_snoc hc',AL]
   rfl
 ·rintro ys H' ⟨s1,rfl⟩ hD'
  rw[C3 (by simp)] at hD'
  exact q H' s1 hD'
theorem trues {α:Type} (as:List α):as.map (fun _=>V.bl true)=(as.map fun _=>true).map V.bl:=by rw[A2];rfl
theorem XA {α:Type} (as:List α):(as.map fun _=>true).all id=true:=by
 rw[A0]
 intro x hx
 obtain⟨_,_,rfl⟩:=AM.mp hx
 rfl
theorem zD.rfl' {H:Hp}:zD H H:=fun _ _ h=>h
inductive Th where
 | non
 | bl (b:Bool)
 | int (i:Int)
 | str (x:Str)
 | lst
 | dct
 | tup (ts:List Th)
inductive WR (H:Hp):Th->V->Prop where
 | non:WR H .non .non
 | bl (b:Bool):WR H (.bl b) (.bl b)
 | int (i:Int):WR H (.int i) (.int i)
 | str (x:Str) (h:x.length<=3000):WR H (.str x) (.str x)
 | lst {a:Addr} {xs:List V} (e:H a=some (.lst xs)):WR H .lst (.ref a)
 | dct {a:Addr} {kvs:List (Key×V)} (e:H a=some (.dK kvs)):WR H .dct (.ref a)
 | tup {a:Addr} {ts:List Th} {xs:List V} (e:H a=some (.tup xs)) (hl:ts.length=xs.length) (h8:ts.length<=1000) (hi:∀ (i:Nat) (t:Th) (x:V),ts[i]? = some t->xs[i]? = some x->WR H t x):WR H (.tup ts) (.ref a)
def tyTh:Th->Value
 | .non=>.type "NoneType"
 | .bl _=>.type "bool"
 | .int _=>.type "int"
 | .str _=>.type "str"
 | .lst=>.type "list"
 | .dct=>.type "dict"
 | .tup _=>.type "tuple"
def isStrB:Th->Bool
 | .str _=>true
 | _=>false
theorem yT {K:PySem.W.Frag} (t:Th):PySem.W.kitOne K (tyTh t) (.type "str")=some (isStrB t):=by cases t <;> first | rfl | exact Ql _
open Classical in
def Ths (H:Hp):List Th->List V->Prop:=Paired fun t v=>WR H t v
theorem Ths.at {H:Hp} {ts:List Th} {vs:List V} (h:Ths H ts vs):∀ (i:Nat) (t:Th) (v:V),ts[i]? = some t->vs[i]? = some v->WR H t v:=fun i t v a b=>Paired.at h i t v a b
theorem Ths.len {H:Hp} {ts:List Th} {vs:List V} (h:Ths H ts vs):ts.length=vs.length:=Al h
theorem Ths.tup {H:Hp} {ts:List Th} {vs:List V} {p:Addr} (h:Ths H ts vs) (e:H p=some (.tup vs)) (h8:ts.length<=1000):WR H (.tup ts) (.ref p):=.tup e h.len h8 fun i t v a b=>h.at i t v a b
section
variable {X : Addr -> Prop} {H0 : Hp} {σ : St}
end
theorem XB {α:Type} {H:Hp} (f:α->Th) (g:α->V):∀ (as:List α),(∀ a ∈ as,WR H (f a) (g a))->Ths H (as.map f) (as.map g)
 | [],_=>.nil
 | a :: as,h=>.cons (h a AW) (XB f g as fun b hb=>h b (AY _ hb))
end L4
namespace L2
open PySem PySem.Spec PyProof.Rows
open Builtin
theorem Zn:fillsNumberSlot (.type "tuple") "mul" = pure false:=
 PySem.fillsNumberSlot_seq (id := "tuple.__mul__") (r:=some (.builtin "tuple.__rmul__")) Dq.lookup (by decide +kernel) F.slot_tuple_rmul.lookup (by decide +kernel)
theorem QX:seqRepeat? (.type "tuple")=pure (some (.builtin "tuple.__mul__")):=by
 unfold seqRepeat?
 rw[PySem.seqSlot_of (T := "tuple") (name := "__mul__") (id := "tuple.__mul__") Dq.lookup (by decide +kernel),PySem.seqSlot_of (T := "tuple") (name := "__rmul__") (id := "tuple.__rmul__") F.slot_tuple_rmul.lookup (by decide +kernel)]
 rfl
theorem ZX (a:Int) (t:Tok) (l:Addr) (items:Array Value) (n:Nat) (dd:Option Addr) (sl:Array (Option Value)) :
  Meets (Builtin.«int.__rmul__» ⟨[.int a t,.ref l],[]⟩) (fun _ R s=>s.heap.get? l=some { cls:=.type "tuple",dict:=dd,data:=.seq items n,slots:=sl }/\R (.ok (.ret Value.notImplemented)) s):=
 .of_wp fun prog w A R s h=>by obtain⟨hp,g,d,tk,os⟩:=s;obtain⟨hl,h⟩:=h;wp_walk;exact⟨_,rfl,h⟩
section
variable {X : Cx}
end
end L2
namespace L4
open PySem L2
section
variable {B : Th -> Bool} {H0 H : Hp} {l : Addr} {n : Nat} {σ : St}
end
open PySem L2 PySem.StrLaws
end L4
namespace L2
open PySem PySem.Spec PyProof.Rows
open PySem PySem.Spec PyProof.Rows PySem.Builtin PySem.Builtin.Str
section
variable {X : Cx} {e : Expr} {es : List Expr} {te ta tb : TE} {t : TA} {pos : Pos} {a b : Expr} {st : Stmt} {rest : List Stmt} {ts us : TS}
end
section
variable {X : Cx}
theorem op_mulS:OpR X (binaryOp .Mult) (fun x y H Q=>∃ (i:Str) (n:Int),x=.str i/\y=.int n/\0<=n/\n<=100/\i.length<=10/\Q (.str (Txt.mul i n)) H):=by
 intro pins s σ H x y v u Q I rx ry h
 obtain⟨i,n,rfl,rfl,n0,n1,il,q⟩:=h
 obtain⟨t,rfl⟩:=rx
 obtain⟨t',rfl⟩:=ry
 refine SB.mul ⟨by simp;omega,fun h1 _=>?_,fun h1 _=>?_⟩ fun t' k=>⟨.str _,H,I.tok _,⟨_,rfl⟩,q⟩
 ·have h2:(2 ^ 63 - 1:Int) / 100<=(2 ^ 63 - 1) / n:=by
   rw[Int.le_ediv_iff_mul_le (by omega)]
   have h3:(2 ^ 63 - 1:Int) / 100 * n<=(2 ^ 63 - 1:Int) / 100 * 100:=Int.mul_le_mul_of_nonneg_left n1 (by decide)
   have h4:(2 ^ 63 - 1:Int) / 100 * 100<=2 ^ 63 - 1:=by decide
   omega
  have h5:(10:Int)<=(2 ^ 63 - 1:Int) / 100:=by decide
  omega
 ·have:i.length * n.toNat<=10 * 100:=Do il (by omega)
  unfold tooLong sizeLine
  exact Aw (by omega)
end
end L2
namespace L4
open PySem L2 PySem.StrLaws
section
end
open PySem L2
section
variable {X : Addr -> Prop} {H0 H : Hp} {σ : St} {B : Th -> Bool} {l : Addr} {n : Nat}
theorem ths_of {H:Hp}:∀ {ts:List Th} {xs:List V},ts.length=xs.length->(∀ (i:Nat) (t:Th) (x:V),ts[i]? = some t->xs[i]? = some x->WR H t x)->Ths H ts xs
 | [],[],_,_=>.nil
 | t :: ts,x :: xs,hl,h=>.cons (h 0 t x rfl rfl) (ths_of (by simpa using hl) fun i t' x' a b=>h (i+1) t' x' (by simpa using a) (by simpa using b))
end
section
end
section
variable {X : Addr -> Prop} {H0 : Hp} {σ : St} {K : PySem.W.Frag}
end
section
end
section
end
def okD:Nat->Th->Bool
 | _,.non=>true
 | _,.bl _=>true
 | _,.int _=>true
 | _,.str _=>true
 | n+1,.tup ts=>ts.all (okD n)
 | _,_=>false
theorem ths_in {H:Hp} {ts:List Th} {v:V} (h:WR H (.tup ts) v):∃ a xs,v=.ref a/\H a=some (.tup xs)/\Ths H ts xs:=by
 cases h with
 | tup e hl h8 hi=>exact⟨_,_,rfl,e,ths_of hl hi⟩
theorem YG {H:Hp}:∀ (n:Nat) {t:Th} {v u:V},okD n t=true->WR H t v->WR H t u->yS H n v u
 | 0,t,v,u,ok,h,k=>by
  cases t <;> first | (cases h;cases k;exact⟨rfl,rfl⟩) | cases ok
 | n+1,t,v,u,ok,h,k=>by
  cases t with
  | tup ts=>
   obtain⟨a,xs,rfl,ea,hx⟩:=ths_in h
   obtain⟨b,ys,rfl,eb,hy⟩:=ths_in k
   refine .inr ⟨a,b,xs,ys,rfl,rfl,ea,eb,?_⟩
   have ok':ts.all (okD n)=true:=ok
   clear ea eb h k ok
   induction ts generalizing xs ys with
   | nil=>cases hx;cases hy;exact .nil
   | cons t ts ih=>
    cases hx with
    | cons r1 t1=>
     cases hy with
     | cons r2 t2=>
      rw[CH,Bg] at ok'
      exact .cons (YG n ok'.1 r1 r2) (ih _ t1 _ t2 ok'.2)
  | _=>first | (cases h;cases k;exact .inl ⟨rfl,rfl⟩) | cases ok
end L4
namespace L2
open PySem PySem.Spec PyProof.Rows
section
variable {X : Cx}
end
theorem iteDT {c A B:Prop} [Decidable c] (hc:decide c=true) (h:A):if decide c=true then A else B:=by rw[if_pos hc];exact h
theorem iteDF {c A B:Prop} [Decidable c] (hc:decide c=false) (h:B):if decide c=true then A else B:=by rw[if_neg (by rw[hc];exact AS)];exact h
end L2
namespace L4
open PySem L2
end L4
namespace Fr
end Fr
namespace PySem
open Sem (wp)
section
variable {prog : Program} {w : World} {A : Around} {E : Value -> Shared -> Prop} {s : Shared}
theorem wpAny_collect_range {Q:List Value->Shared->Prop} {it:Addr} {a b c:Int} {t u v:Tok} {n:Nat} (hh:A.handled=none) (hr:IsRange s.heap it a b c t u v) (hsmall:Builtin.Range.small a b c=true)
  (hn:Builtin.Range.rangeSize a b c=n) (hlen:n<=2 ^ 24)
  (hQ:∀ h' tk (acc:Array Value),(∀ b o',s.heap.get? b=some o'->h'.get? b=some o')->ItemsOf (fun i v=>∃ t,v=.int (a+i * c) t) acc n->Q acc.toList { s with heap:=h',toks:=tk }) :
  wpAny (model prog w) A (collect (.ref it)) Q E s:=by
 unfold collect
 refine AA (D6 (BA F.entry_proto_collect ?_))
 rw[Ax F.plain_proto_collect _]
 show wpAny _ A.in1 (newList [] >>= fun l=>again (.builtin "list.__iadd__" ⟨[l,.ref it],[]⟩)) _ _ s
 refine AA (Ap ?_)
 refine AD ⟨BK F.plain_list_iadd _,BA F.entry_list_iadd ?_⟩
 rw[Ax F.plain_list_iadd _]
 show wpAny _ A.in1 (Builtin.List.listExtendWith (.ref s.heap.objs.size) (.ref it) (.ref s.heap.objs.size)) _ _ _
 have hS:(s.heap.push { cls:=.type "list",data:=.seq ([]:List Value).toArray }).get? s.heap.objs.size=some { cls:=.type "list",data:=.seq #[] 0 }:=AO _ rfl
 have fin':∀ (s':Shared),(∃ h' tk acc c',s' = { s with heap:=h',toks:=tk }/\(∀ b o,b ≠ s.heap.objs.size->(s.heap.push { cls:=.type "list",data:=.seq ([]:List Value).toArray }).get? b=some o->h'.get? b=some o)/\h'.get? s.heap.objs.size=some { cls:=.type "list",dict:=none,data:=.seq acc c',slots:=#[] }/\ItemsOf (fun i v=>∃ t,v=.int (a+i * c) t) acc n)->wpAny (model prog w) A (match Value.ref s.heap.objs.size with
   | Value.ref a=>do
    match (<- load a).data with
     | Data.seq xs _=>pure xs.toList
     | _=>unsupported "internal:collect"
   | _=>unsupported "internal:collect") Q E s':=by
  rintro s' ⟨h',tk,acc,c',rfl,kp,e,hacc⟩
  show wpAny _ A (load s.heap.objs.size >>= _) _ _ _
  refine AA (ES e ?_)
  refine AD ?_
  exact hQ h' tk acc (fun b o' hb=>kp b o' (AR (AN hb)) (AF _ hb)) hacc
 refine C6 (wpAny_extend_range (A:=A) (R:=fun r s'=>r=.ok (.ret (.ref s.heap.objs.size))/\∃ h' tk acc c',s' = { s with heap:=h',toks:=tk }/\(∀ b o,b ≠ s.heap.objs.size->(s.heap.push { cls:=.type "list",data:=.seq ([]:List Value).toArray }).get? b=some o->h'.get? b=some o)/\h'.get? s.heap.objs.size=some { cls:=.type "list",dict:=none,data:=.seq acc c',slots:=#[] }/\ItemsOf (fun i v=>∃ t,v=.int (a+i * c) t) acc n)
  (s:={ s with heap:=s.heap.push { cls:=.type "list",data:=.seq ([]:List Value).toArray } }) hh (AF _ hr) hsmall hn hlen _ _ 0 hS fun h' tk acc' c' k1 k2 k3=>⟨rfl,h',tk,acc',c',rfl,k1,k2,k3⟩) (fun fin s' h=>?_) (fun e s' h=>?_)
 ·cases fin with
  | done f=>
   obtain⟨e,h⟩:=h
   cases e
   exact fin' _ h
  | again c'=>exact⟨h.1,CL h.2 fun r s'' hr=>by obtain⟨rfl,hr⟩:=hr;exact fin' _ hr⟩
 ·exact absurd h.1 (by simp)
end
theorem meets_tuple_new_range (l:Addr) (a b c:Int) (t u v:Tok) (n:Nat) (hsmall:Builtin.Range.small a b c=true) (hn:Builtin.Range.rangeSize a b c=n) (hlen:n<=2 ^ 20) :
  Meets (Builtin.«tuple.__new__» ⟨[.type "tuple",.ref l],[]⟩)
   (fun A R s=>A.handled=none/\IsRange s.heap l a b c t u v/\∀ (h':Heap) (tk:Nat) (acc:Array Value),(∀ b o',s.heap.get? b=some o'->h'.get? b=some o')->ItemsOf (fun i v=>∃ t,v=.int (a+i * c) t) acc n->R (.ok (.ret (.ref h'.objs.size))) { s with heap:=h'.push { cls:=.type "tuple",data:=.seq acc },toks:=tk }):=
 .of_wp fun prog w A R s h=>by
  obtain⟨hp,g,d,tk,os⟩:=s;obtain⟨hh,ht,h⟩:=h
  have hsub:=sub_tuple_self
  have hinit:=init_tuple_lookup
  have hmh:=madeHere_tuple
  have hT:Shared.TypeIs ⟨hp,g,d,tk,os⟩ (.ref l) "range":=⟨_,ht,rfl⟩
  wp_walk using Bt ht,Bm hT,wpAny_collect_range (A:=A.in1) hh ht hsmall hn (by omega)
  intro h' tk' acc hk hacc
  show wpAny _ _ (Builtin.Tuple.tupleExact acc.toList.toArray >>= fun v=>ret v) _ _ _
  unfold Builtin.Tuple.tupleExact
  have hsz:acc.size<=sizeLine:=by rw[hacc.1];exact Ab hlen (by decide +kernel)
  refine AA (Ap ?_ (by show acc.toList.toArray.size<=sizeLine;simpa using hsz))
  refine AD ⟨_,rfl,?_⟩
  have e:acc.toList.toArray=acc:=by simp
  rw[e]
  exact h h' tk' acc hk hacc
section
variable {prog : Program} {w : World} {A : Around} {E : Value -> Shared -> Prop} {s : Shared}
theorem call_tuple_range {l:Addr} {a b c:Int} {t u v:Tok} {n:Nat} {Q:Value->Shared->Prop} (hh:A.handled=none) (hr:IsRange s.heap l a b c t u v) (hsmall:Builtin.Range.small a b c=true) (hn:Builtin.Range.rangeSize a b c=n) (hlen:n<=2 ^ 20)
  (h:∀ (h':Heap) (tk:Nat) (acc:Array Value),(∀ b o',s.heap.get? b=some o'->h'.get? b=some o')->ItemsOf (fun i v=>∃ t,v=.int (a+i * c) t) acc n->Q (.ref h'.objs.size) { s with heap:=h'.push { cls:=.type "tuple",data:=.seq acc },toks:=tk }) :
  wpAny (model prog w) A (call (.type "tuple") [.ref l]) Q E s:=
 callType_new F.called_tuple (by decide) (F.typeCall_tuple_1 _) (F.newCall_tuple_1 _) (fun obj=>F.args_object_init_2 obj _) F.entry_tuple_new
  (meets_tuple_new_range l a b c t u v n hsmall hn hlen) ⟨hh,hr,fun h' tk acc hk hacc=>⟨⟨_,AO _ rfl,rfl⟩,h h' tk acc hk hacc⟩⟩
end
end PySem
namespace PySem.SeqAt
open PySem
theorem wpAny_forRange {M:Model} {A:Around} {E:Value->Shared->Prop} {s:Shared} {β:Type} {a b:Nat} (f:Nat->β->Sem (ForInStep β)) (I:Nat->β->Shared->Prop) (Q:β->Shared->Prop)
  (turn:∀ i c s,a<=i->i < b->I i c s->wpAny M A (f i c) (fun r s'=>match r with | .yield c'=>I (i+1) c' s' | .done c'=>Q c' s') E s)
  (fin:∀ c s,I (max a b) c s->Q c s) (c:β) (h:I a c s):wpAny M A (forIn [a:b] c f) Q E s:=by
 rw[Std.Legacy.Range.forIn_eq_forIn_range']
 have hsz:([a:b]:Std.Legacy.Range).size=b - a:=by simp[Std.Legacy.Range.size]
 show wpAny M A (forIn (List.range' a ([a:b]:Std.Legacy.Range).size 1) c f) Q E s
 rw[hsz]
 refine wpAny_forIn_list f (fun l c st=>∃ i,a<=i/\i<=max a b/\l=List.range' i (max a b - i) 1/\I i c st) Q ?_ ?_ _ c ⟨a,AK _,by omega,by congr 1;omega,h⟩
 ·rintro x rest c st ⟨i,hai,hib,hl,hI⟩
  have hlt:i < max a b:=by
   rcases DZ i (max a b) with h' | h'
   ·exact h'
   ·rw[show max a b - i=0 by omega] at hl;simp at hl
  obtain⟨n,hn⟩:∃ n,max a b - i=n+1:=⟨max a b - i - 1,by omega⟩
  rw[hn,List.range'_succ] at hl
  obtain⟨rfl,rfl⟩:=Dt hl
  refine C6 (turn x c st hai (by omega) hI) (fun r st' h'=>?_) fun _ _ h'=>h'
  cases r with
  | done c'=>exact h'
  | yield c'=>exact⟨x+1,by omega,by omega,by congr 1;omega,h'⟩
 ·rintro c st ⟨i,hai,hib,hl,hI⟩
  have:i=max a b:=by
   rcases DZ i (max a b) with h' | h'
   ·obtain⟨n,hn⟩:∃ n,max a b - i=n+1:=⟨max a b - i - 1,by omega⟩
    rw[hn,List.range'_succ] at hl
    cases hl
   ·omega
  rw[this] at hI
  exact fin c st hI
theorem tuple_indexAt (l:Addr) (items:Array Value) (n:Nat) (dd:Option Addr) (sl:Array (Option Value)) (x:Value) (e:Value->Bool) (j:Nat) (hj:j < items.size)
  (hit:e items[j]=true) (hno:∀ m (hm:m < items.size),m < j->e items[m]=false) :
  Meets (Builtin.«tuple.index» ⟨[.ref l,x],[]⟩)
   (fun A R s=>s.heap.get? l=some { cls:=.type "tuple",dict:=dd,data:=.seq items n,slots:=sl }/\(∀ y,y ∈ items->EqAt A.in1 s y x (e y))/\R (.ok (.ret (.int j s.toks))) { s with toks:=s.toks+1 }):=
 .of_wp fun prog w A R s h=>by
  obtain⟨hp,g,d,tk,os⟩:=s;obtain⟨hl,he,h⟩:=h
  wp_walk using Bt hl,wpAny_forRange _ (fun i c s'=>c=(none,())/\s'=⟨hp,g,d,tk,os⟩/\i<=j) _
  case turn=>
   rintro i c s' hi1 hi2 ⟨rfl,rfl,hij⟩
   have hi:i < items.size:=by omega
   rw[Bl hi]
   refine AA (he _ (Array.getElem_mem hi) prog w _ _ ?_)
   rcases DZ i j with h' | h'
   ·rw[hno i hi h']
    wp_walk
    exact⟨rfl,rfl,h'⟩
   ·have e1:i=j:=by omega
    subst e1
    rw[hit]
    wp_walk
    exact⟨_,rfl,h⟩
  case fin=>
   rintro c s' ⟨rfl,rfl,hij⟩
   omega
  case h=>
   exact⟨rfl,rfl,A9 _⟩
end PySem.SeqAt
namespace L2
open PySem PySem.Spec PyProof.Rows
theorem XC {ns:List Int} {us:List Value} (h:IntsAre us ns):qA (ns.map V.int) us:=by
 induction h with
 | nil=>exact .nil
 | cons n t _ ih=>exact .cons ⟨t,rfl⟩ ih
theorem Wg:∀ {xs:List V} {us:List Value},xs.length=us.length->(∀ (i:Nat) x u,xs[i]? = some x->us[i]? = some u->RelV x u)->qA xs us
 | [],[],_,_=>.nil
 | [],_ :: _,h,_=>by cases h
 | _ :: _,[],h,_=>by cases h
 | x :: xs,u :: us,h,k=>.cons (k 0 x u rfl rfl) (Wg (by simpa using h) fun i y v a b=>k (i+1) y v (by simpa using a) (by simpa using b))
theorem xh {n:Nat} {acc:Array Value} (h:ItemsOf (fun i v=>∃ t,v=.int (0+i * 1) t) acc n):qA ((List.range n).map fun (i:Nat)=>V.int (i:Int)) acc.toList:=by
 refine Wg (by rw[AB,AZ];simpa using h.1.symm) fun i x u hx hu=>?_
 rw[AJ] at hx
 obtain⟨j,hj,rfl⟩:=AX.mp hx
 have ej:j=i:=by
  have:=AC.mp hj
  obtain⟨_,e⟩:=this
  rw[List.getElem_range] at e
  exact e.symm
 subst ej
 obtain⟨t,e⟩:=h.2 j u (by simpa using hu)
 rw[e,Bx,Int.mul_one]
 exact⟨t,rfl⟩
section
variable {X : Cx}
def tRng (ta:TA):TE:=fun σ H Q=>ta σ H fun vs H1=>∃ j:Int,vs=[.int j]/\∀ p,H1 p=none->Q (.ref p) (upd H1 p (.rng 0 j))
theorem XD {a:Expr} {ta:TA} {p pos:Pos} (hg:Gl X "range") (hm:X.mg "range" = none) (ha:PA X [a] ta) (hs:starEach [a] X.env=[(false,eval a X.env)]:=by rfl):PE X (.Call (.Name "range" p) [a] [] pos) (tRng ta):=by
 intro pins s σ H Q I h
 refine Call_ (Zo I hg hm boot_range (BH (thn (ha pos pins s σ H _ I h) fun us s1 ⟨vs,H1,I1,r1,q1⟩=>?_) hs rfl))
 obtain⟨j,e,q⟩:=q1
 subst e
 cases r1 with
 | cons r rr=>
  cases rr
  obtain⟨t,rfl⟩:=r
  refine call_range_1 ⟨.ref s1.heap.objs.size,_,I1.laid (t':=_) (o:=.rng 0 j) (fun b o q=>AF _ q) (AK _) ?_,rfl,q _ (I1.hok.fresh (AK _))⟩
  exact⟨_,_,_,AO _ rfl⟩
theorem QK (hc:X.calm=true):jB X (.type "list") (fun xs H Q=>∃ (p:Addr) (j:Int),xs=[.ref p]/\H p=some (.rng 0 j)/\0<=j/\j<=1000/\∀ l,H l=none->Q (.ref l) (upd H l (.lst ((List.range j.toNat).map fun (i:Nat)=>V.int (i:Int))))):=by
 intro pins s σ H xs us Q I r h
 obtain⟨p,j,rfl,hp,j0,j1,q⟩:=h
 obtain⟨u,rfl,rx⟩:=vals1 r
 cases rx
 obtain⟨t,u,v,e⟩:=I.hok p _ hp
 have hn:Builtin.Range.rangeSize 0 j 1=(j.toNat:Nat):=by rw[rangeSize_one];split <;> omega
 refine call_list_range (I.ok.hd hc) e (small_one (by omega) (by omega) (by omega) (by omega)) hn (by omega) fun h' tk acc c' kp he hacc=>?_
 refine⟨.ref s.heap.objs.size,_,I.laid (t':=tk) (o:=.lst ((List.range j.toNat).map fun (i:Nat)=>V.int (i:Int))) kp (AK _) ?_,rfl,q _ (I.hok.fresh (AK _))⟩
 refine⟨by rw[AB,AZ];exact Br (zu (by omega)),acc.toList,c',?_,by simpa using he⟩
 exact xh hacc
end
theorem Inv.changed {X:Cx} {pins:List (Addr×Obj)} {σ:St} {H:Hp} {s:Shared} {ch:List Addr} {h':Heap} {t':Nat} (I:Inv X pins σ H s) (hf:∀ b ∈ ch,Xc X pins H b) (k:∀ c o,c ∉ ch->s.heap.get? c=some o->h'.get? c=some o):Inv X pins σ H { s with heap:=h',toks:=t' }:=by
 have nt:∀ b u,H b=some u->b ∉ ch:=fun b u e hb=>by
  rw[(hf b hb).1] at e
  cases e
 have nl:X.env.locals ∉ ch:=fun hb=>(hf _ hb).2.1 rfl
 refine I.step (g':=s.gens) (d':=s.drawn) (ch:=ch) (fun b hb=>⟨(hf b hb).2.2.2.1,(hf b hb).2.1,(hf b hb).2.2.2.2.1,(hf b hb).2.2.2.2.2⟩) (fun b o _ _ hc e _=>k b o hc e) (fun b o _ _ hc e _=>⟨o.slots,k b o hc e⟩) (fun _ _ _ _ n=>n)
  (fun b o hc e=>⟨o,k b o hc e⟩) (fun _ _ e=>e) (fun _ _ _ e=>e) (fun b ps e=>⟨#[],by rw[e];simp⟩) (fun m hm=>?_) (fun b u e=>?_) I.bare
 ·obtain⟨o,es,ep,ho,r⟩:=hm
  exact⟨o,es,ep,k _ o nl ho,r⟩
 ·refine (I.hok b u e).stay (fun c v hc q=>k c v ?_ q) (fun _ q=>q) fun _ _ q=>q
  rcases hc with z | z
  ·rw[z];exact nt b u e
  ·exact nt c _ z
def Ite (K : PySem.W.Frag) (a : Addr) : It :=
  ⟨fun i H => ∃ xs x, SqL K H a xs /\ xs[i]? = some x,
   fun i H v H' => ∃ T x, H T = none /\ v = .ref T /\ H' = upd H T (.tup [.int (i : Nat), x]) /\ ∀ xs, SqL K H a xs -> xs[i]? = some x,
   fun i H => ∃ xs, SqL K H a xs /\ xs.length <= i⟩
theorem XE {P:Program} {w:World} {K:PySem.W.Frag} {elts:List Expr} {kk:Nat} {pos:Pos} {e it a:Addr} (hei:e ≠ it) :
  Turn P w K (.Tuple elts kk pos) (Ite K a) [e,it] e (fun i h=>(∃ old,IsEnum h e it i old)/\h.IsListIter it a i) where
 mem:=by simp
 obj:=fun i h st b hb=>by
  obtain⟨⟨old,u1⟩,⟨o4,u4,_,d4⟩⟩:=st
  simp only[List.mem_cons,List.not_mem_nil,or_false] at hb
  rcases hb with rfl | rfl
  ·exact⟨_,u1,fun v zz=>by cases zz⟩
  ·exact⟨_,u4,fun v zz=>by rw[d4] at zz;cases zz⟩
 keep:=fun i h h' st k=>by
  obtain⟨⟨old,u1⟩,⟨o4,u4,r4⟩⟩:=st
  exact⟨⟨old,k _ (by simp) _ u1⟩,⟨o4,k _ (by simp) _ u4,r4⟩⟩
 item:=by
  intro X hP hw hK hc i pins s σ H E I hf st hg
  subst hP hw hK
  obtain⟨xs,x,hq,hx⟩:=hg
  obtain⟨⟨old,he⟩,hit⟩:=st
  obtain⟨its,rv,p,hz⟩:=I.list hq
  obtain⟨u,hu,ru⟩:=rv.get hx
  have elt:e < s.heap.objs.size:=AN he
  have ilt:it < s.heap.objs.size:=by
   obtain⟨o,x,_⟩:=hit
   exact AN x
  refine wpAny_pyNext_enum_item (s:=s) he hit p.isList (x:=u) (by simpa using hu) hei fun h' ho hit' hT hsz hk=>⟨_,rfl,wpAny_letOwnedTupleGo_enum ho fun h2 he' hs'=>?_⟩
  have k2:∀ c o,c ∉ [e,it]->s.heap.get? c=some o->h2.get? c=some o:=fun c o hc q=>(hs'.2 c (fun zz=>hc (by simp[zz]))).trans (hk c o (fun zz=>hc (by simp[zz])) (fun zz=>hc (by simp[zz])) q)
  have I1:Inv X pins σ H { s with heap:=h2,toks:=s.toks+1 }:=I.changed (t':=s.toks+1) hf k2
  have at2:h2.get? s.heap.objs.size=some { cls:=.type "tuple",data:=.seq #[.int i s.toks,u] }:=(hs'.2 _ (BF elt)).trans hT
  have Hn:H s.heap.objs.size=none:=I.hok.fresh (AK _)
  have I2:Inv X pins σ (upd H s.heap.objs.size (.tup [.int (i:Nat),x])) { s with heap:=h2,toks:=s.toks+1 }:=by
   refine I1.adopt Hn (DQ I.sz) (BF I.lt) (fun xx cc e zz=>?_) (fun p hp zz=>?_) ⟨by show 2<=sizeLine;decide,[.int i s.toks,u],.cons ⟨_,rfl⟩ (.cons ru .nil),⟨_,at2,rfl,⟨0,rfl⟩,rfl⟩⟩
   ·obtain⟨_,q⟩:=I.cell xx cc e
    exact absurd q.lt (by rw[zz];exact A6 _)
   ·exact absurd (AN (I.pin p hp).1) (by rw[zz];exact A6 _)
  refine⟨.ref s.heap.objs.size,_,I2,rfl,⟨_,x,Hn,rfl,rfl,fun xs' h1=>?_⟩,⟨⟨_,by simpa using he'⟩,hit'.at fun o y=>(hs'.2 it (BD hei)).trans y⟩,fun b hb=>?_⟩
  ·rw[I.list_inj h1 hq]
   exact hx
  ·have:b ≠ s.heap.objs.size:=by
    simp only[List.mem_cons,List.not_mem_nil,or_false] at hb
    rcases hb with rfl | rfl
    ·exact AR elt
    ·exact AR ilt
   rw[zI this]
   exact (hf b hb).1
 done:=by
  intro X hP hw hK hc i pins s σ H E I hf st hg
  subst hP hw hK
  obtain⟨xs,hq,hx⟩:=hg
  obtain⟨⟨old,he⟩,hit⟩:=st
  obtain⟨its,rv,p,hz⟩:=I.list hq
  have l1:=rv.length
  exact wpAny_pyNext_enum_end (I.ok.hd hc) he hit p.isList (by simp;omega) fun h' eb=>⟨rfl,I.changed (t':=s.toks) (ch:=[it]) (fun b hb=>hf b (by simp only[List.mem_cons,List.not_mem_nil,or_false] at hb ⊢;exact .inr hb)) fun c o hc q=>eb c o (fun zz=>hc (by simp[zz])) q⟩
 self:=fun A i s Q E st h=>by
  obtain⟨⟨old,he⟩,_⟩:=st
  exact Df he h
section
variable {X : Cx}
theorem QY:bootBuiltins "enumerate" = some (.type "enumerate"):=by decide +kernel
def iEnum (K:PySem.W.Frag) (ta:TA):TI:=fun σ H R=>ta σ H fun vs H1=>∃ p xs,vs=[.ref p]/\SqL K H1 p xs/\R (Ite K p) H1
theorem kpi_enum (K:PySem.W.Frag) {elts:List Expr} {kk:Nat} {tpos:Pos} {a:Expr} {ta:TA} {p pos:Pos} (hg:Gl X "enumerate") (hm:X.mg "enumerate" = none) (ha:PA X [a] ta) (hs:starEach [a] X.env=[(false,eval a X.env)]:=by rfl) (hK:X.K=K:=by rfl) :
  PI X (.Tuple elts kk tpos) (.Call (.Name "enumerate" p) [a] [] pos) (iEnum K ta):=by
 subst hK
 intro pins s σ H R I h
 refine Call_ (Zo I hg hm QY (BH (thn (ha pos pins s σ H _ I h) fun us s1 ⟨vs,H1,I1,r1,q1⟩=>?_) hs rfl))
 obtain⟨p1,xs,e,hq,q⟩:=q1
 subst e
 obtain⟨u1,rfl,r2⟩:=vals1 r1
 cases r2
 obtain⟨its,rv,pl,_⟩:=I1.list hq
 refine call_enumerate_list pl.isList fun h' he hit hsz kp=>?_
 refine Df he ?_
 have I2:Inv X pins σ H1 { s1 with heap:=h' }:=I1.kept (t':=s1.toks) kp
 refine⟨s1.heap.objs.size+1,[s1.heap.objs.size+1,s1.heap.objs.size],_,Ite X.K p1,H1,rfl,I2,XE (EG _),⟨⟨_,he⟩,hit⟩,fun b hb=>?_,q⟩
 simp only[List.mem_cons,List.not_mem_nil,or_false] at hb
 rcases hb with rfl | rfl
 ·exact I1.fpOk (B8 _) (I1.hok.fresh (B8 _))
 ·exact I1.fpOk (AK _) (I1.hok.fresh (AK _))
end
theorem XF {K:PySem.W.Frag} {a:Addr} {xs:List V} {tt:TT} {te:TE} {H1:Hp} {Q:VK} {D:Addr} {more:St} (P:Nat->List V->Hp->Prop) (h0:P 0 [] (upd H1 D (.lst [])))
  (hp:∀ i zs H,P i zs H->H D=some (.lst zs)->SqL K H a xs)
  (hs:∀ i zs H T x,xs[i]? = some x->P i zs H->H D=some (.lst zs)->H T=none->tt (some (.int (i:Nat)) :: some x :: more) (upd H T (.tup [.int (i:Nat),x])) fun b H4=>if b=true then te (some (.int (i:Nat)) :: some x :: more) H4 (cYes (fun σ=>∃ x y,σ=x :: y :: more) P xs.length D (some (.int (i:Nat)) :: some x :: more) i) else cNo (fun σ=>∃ x y,σ=x :: y :: more) P xs.length D (some (.int (i:Nat)) :: some x :: more) i H4)
  (hd:∀ zs H,P xs.length zs H->H D=some (.lst zs)->Q (.ref D) H) :
  Zv (Ite K a) (gTup K 2 (Y6 (Zq 0) (Y6 (Zq 1) gNil))) tt te (none :: none :: more) H1 Q D:=by
 refine⟨cW (fun σ=>∃ x y,σ=x :: y :: more) P xs.length D,⟨xs.length,(Nat.sub_zero _).symm,A9 _,⟨_,_,rfl⟩,_,h0,ze⟩,?_⟩
 rintro i m σ' H' ⟨rfl,hi,⟨s1,s2,rfl⟩,zs,pp,hD⟩
 have q1:=hp i zs H' pp hD
 by_cases hlt:i < xs.length
 ·have k1:xs[i]? = some (xs.getD i .non):=by simp[List.getD,hlt]
  refine .inr ⟨⟨xs,_,q1,k1⟩,?_⟩
  rintro v H2 ⟨T,x,hT,rfl,rfl,hall⟩
  exact⟨T,_,rfl,SqT.of ze,rfl,_,_,rfl,_,_,rfl,rfl,hs i zs H' T x (hall xs q1) pp hD hT⟩
 ·have e:i=xs.length:=by omega
  subst e
  exact .inl ⟨⟨xs,q1,AK _⟩,hd zs H' pp hD⟩
theorem Qo:bootBuiltins "sorted" = some (.builtin "sorted"):=by decide +kernel
end L2
namespace L4
open PySem L2
abbrev nV (i:Nat):V:=.int (i:Int)
theorem mul_len (x:Str) (n:Int):(Txt.mul x n).length<=x.length * n.toNat:=by
 unfold Txt.mul
 split
 ·exact A9 _
 ·split
  ·rename_i h1 h2
   simp at h2
   rcases h2 with h2 | h2
   ·rw[h2]
    simp
   ·rw[h2]
    simp
  ·have aux:∀ (k:Nat) (a acc:Array Nat),((List.replicate k a).foldl (· ++ ·) acc).size=acc.size+k * a.size:=by
    intro k a
    induction k with
    | zero=>intro acc;simp
    | succ k ih=>
     intro acc
     rw[List.replicate_succ,B5,ih,Array.size_append,Bv]
     omega
   show ((List.replicate n.toNat x.cps).foldl (· ++ ·) #[]).size<=_
   rw[aux]
   simp
   rw[Cf]
   exact AK _
end L4
namespace Tn
def place (m:Nat) (r:List Nat):Nat:=r.foldl (fun p x=>p * m+x) 0
theorem place_snoc (m:Nat) (r:List Nat) (x:Nat):place m (r++[x])=place m r * m+x:=by
 unfold place
 rw[EB]
 rfl
def pls (m:Nat) (gs:List Nat):Nat->List Nat
 | 0=>[0]
 | k+1=>(pls m gs k).flatMap fun p=>gs.map fun g=>p * m+g
theorem flat_get {α β:Type} (f:α->List β) (b:Nat) (hf:∀ x,(f x).length=b):∀ (xs:List α) (i j:Nat) (x:α),xs[i]? = some x->j < b->(xs.flatMap f)[i * b+j]? = (f x)[j]?
 | [],i,j,x,h,_=>by simp at h
 | y :: ys,0,j,x,h,hj=>by
  have e:y=x:=by simpa using h
  subst e
  rw[BR,Nat.zero_mul,Nat.zero_add,List.getElem?_append_left (by rw[hf];exact hj)]
 | y :: ys,i+1,j,x,h,hj=>by
  have h':ys[i]? = some x:=by simpa using h
  have e:(i+1) * b+j=(f y).length+(i * b+j):=by rw[hf,Bv];omega
  rw[BR,e,Eg (by omega),Nat.add_sub_cancel_left]
  exact flat_get f b hf ys i j x h' hj
theorem flat_len {α β:Type} (f:α->List β) (b:Nat) (hf:∀ x,(f x).length=b):∀ (xs:List α),(xs.flatMap f).length=xs.length * b
 | []=>by simp
 | y :: ys=>by rw[BR,AH,hf,flat_len f b hf ys,Aq,Bv];omega
theorem pls_len (m:Nat) (gs:List Nat):∀ k,(pls m gs k).length=gs.length ^ k
 | 0=>rfl
 | k+1=>by
  show ((pls m gs k).flatMap fun p=>gs.map fun g=>p * m+g).length=_
  rw[flat_len _ gs.length (fun x=>by rw[AB]),pls_len m gs k,CQ]
def Rw (m k:Nat) (r:List Nat):Prop:=r.length=k/\∀ x ∈ r,x < m
theorem place_lt {m:Nat}:∀ (k:Nat) (r:List Nat),Rw m k r->place m r < m ^ k:=by
 intro k
 induction k with
 | zero=>
  intro r h
  have:r=[]:=CO.mp h.1
  subst this
  show 0 < m ^ 0
  rw[Nat.pow_zero]
  decide
 | succ k ih=>
  intro r h
  obtain⟨h1,h2⟩:=h
  have hne:r ≠ []:=by intro z;rw[z] at h1;cases h1
  have e:=List.dropLast_concat_getLast hne
  have hr:Rw m k r.dropLast:=⟨by rw[List.length_dropLast,h1];rfl,fun x hx=>h2 x ((List.dropLast_sublist r).subset hx)⟩
  have h3:=ih _ hr
  have h4:=h2 (r.getLast hne) (List.getLast_mem hne)
  rw[<- e,place_snoc,CQ]
  have h5:(place m r.dropLast+1) * m<=m ^ k * m:=BV m h3
  rw[Bv] at h5
  omega
def at' (o:List Nat) (i:Nat):Nat:=o.getD i 0
theorem nodup_len:∀ (m:Nat) (xs:List Nat),xs.Nodup->(∀ x ∈ xs,x < m)->xs.length<=m
 | 0,[],_,_=>AK _
 | 0,x :: xs,_,h=>absurd (h x (AW ..)) (CT _)
 | m+1,xs,nd,h=>by
  have h1:=nodup_len m (xs.erase m) (nd.erase m) fun x hx=>by
   obtain⟨ne,hm⟩:=nd.mem_erase_iff.mp hx
   have:=h x hm
   omega
  by_cases hm:m ∈ xs
  ·rw[DU hm] at h1
   omega
  ·rw[List.erase_of_not_mem hm] at h1
   omega
structure Cs (m k:Nat) (cs:List Nat):Prop where
 len:cs.length=m ^ k
 lt:∀ x ∈ cs,x < m
theorem Cs.at_lt {m k:Nat} {cs:List Nat} (h:Cs m k cs) {p:Nat} (hp:p < m ^ k):at' cs p < m:=by
 unfold at'
 rw[Ao,AG (by rw[h.len];exact hp)]
 exact h.lt _ (Ci _)
theorem sub_range {m:Nat} {ws:List Nat} (hs:ws.Pairwise (· < ·)) (hl:∀ x ∈ ws,x < m):(List.range m).filter (fun i=>decide (i ∈ ws))=ws:=by
 have h1:((List.range m).filter (fun i=>decide (i ∈ ws))).Pairwise (· < ·):=Cd _ Bw
 refine List.Perm.eq_of_pairwise (le:=(· < ·)) (fun a b _ _ x y=>absurd x (Nat.lt_asymm y)) h1 hs ?_
 refine (DN ?_ ?_).mpr fun a=>?_
 ·exact h1.imp fun h=>AR h
 ·exact hs.imp fun h=>AR h
 ·rw[B4,Af,decide_eq_true_iff]
  exact⟨fun h=>h.2,fun h=>⟨hl a h,h⟩⟩
end Tn
namespace L2
open PySem PySem.Spec PyProof.Rows
section
variable {prog : Program} {w : World} {A : Around} {E : Value -> Shared -> Prop} {s : Shared}
variable {z TI TO i1 i2 t1 t2 : Addr} {xs ys : Array Value} {k1 k2 : Nat}
end
section
variable {X : Cx}
end
section
variable {X : Cx}
end
end L2
namespace Tn
theorem pls_lt' {m:Nat} {gs:List Nat} (hl:∀ x ∈ gs,x < m):∀ (k:Nat),∀ p ∈ pls m gs k,p < m ^ k
 | 0,p,hp=>by
  have e:p=0:=by simpa [pls] using hp
  rw[e,Nat.pow_zero]
  decide
 | k+1,p,hp=>by
  obtain⟨q,hq,hp⟩:=BN.mp hp
  obtain⟨g,hg,rfl⟩:=AM.mp hp
  have h1:=pls_lt' hl k q hq
  have h2:=hl g hg
  rw[CQ]
  have h3:(q+1) * m<=m ^ k * m:=BV m h1
  rw[Bv] at h3
  omega
def rowsR (n:Nat):Nat->List (List Nat)
 | 0=>[[]]
 | 1=>(List.range n).map fun i=>[i]
 | 2=>(List.range (n * n)).map fun i=>[i / n,i % n]
 | _=>[]
theorem at_map {gs:List Nat} {i:Nat} (hi:i < gs.length):gs[i]? = some (at' gs i):=by
 unfold at'
 rw[Ao,AG hi]
 rfl
theorem pls_rows {m:Nat} {gs:List Nat}:∀ {k:Nat},k<=2->pls m gs k=(rowsR gs.length k).map fun r=>place m (r.map (at' gs))
 | 0,_=>rfl
 | 1,_=>by
  show ([0].flatMap fun p=>gs.map fun g=>p * m+g)=((List.range gs.length).map fun i=>[i]).map _
  rw[A2]
  refine CB fun i=>?_
  simp only[List.flatMap_cons,List.flatMap_nil,List.append_nil]
  rw[AJ,AJ]
  by_cases hi:i < gs.length
  ·rw[at_map hi,A3 hi]
   rfl
  ·rw[BB (by omega),BB (by rw[AZ];omega)]
   rfl
 | 2,_=>by
  have e1:pls m gs 1=gs.map fun g=>0 * m+g:=by
   show ([0].flatMap fun p=>gs.map fun g=>p * m+g)=_
   simp
  show ((pls m gs 1).flatMap fun p=>gs.map fun g=>p * m+g)=((List.range (gs.length * gs.length)).map fun i=>[i / gs.length,i % gs.length]).map _
  rw[A2]
  refine CB fun i=>?_
  rw[AJ]
  have fl:((pls m gs 1).flatMap fun p=>gs.map fun g=>p * m+g).length=gs.length * gs.length:=by
   rw[flat_len _ gs.length (fun x=>by rw[AB]),e1,AB]
  by_cases hi:i < gs.length * gs.length
  ·have np:0 < gs.length:=by
    rcases Nat.eq_zero_or_pos gs.length with z | z
    ·rw[z] at hi
     omega
    ·exact z
   have h1:i / gs.length < gs.length:=(Nat.div_lt_iff_lt_mul np).mpr hi
   have h2:i % gs.length < gs.length:=Cc _ np
   have e2:(pls m gs 1)[i / gs.length]? = some (0 * m+at' gs (i / gs.length)):=by
    rw[e1,AJ,at_map h1]
    rfl
   have e3:=flat_get (fun p=>gs.map fun g=>p * m+g) gs.length (fun x=>by rw[AB]) (pls m gs 1) (i / gs.length) (i % gs.length) _ e2 h2
   have e4:i / gs.length * gs.length+i % gs.length=i:=by
    rw[Cf]
    exact Nat.div_add_mod i gs.length
   rw[e4] at e3
   rw[e3,AJ,at_map h2,A3 hi]
   rfl
  ·rw[BB (by omega),BB (by rw[AZ];omega)]
   rfl
 | k+3,h=>by omega
end Tn
namespace L2
open PySem PySem.Spec PyProof.Rows
section
variable {X : Cx}
theorem kslT (K:PySem.W.Frag) (hK:X.K=K:=by rfl):SlR X (fun x lo hi H Q=>rSlT K x lo hi H Q\/rSlTW K x lo hi H Q):=by
 subst hK
 exact sl_tup.or sl_tupW
end
theorem XG {K:PySem.W.Frag} {a:Addr} {n:Nat} {xs:List V} {ad:Nat->Addr} {v1 v2 v3:Nat->V} {tt:TT} {te:TE} {H1:Hp} {Q:VK} {D:Addr} {more:St} (P:Nat->List V->Hp->Prop) (h0:P 0 [] (upd H1 D (.lst []))) (hn:xs.length=n) (hx:∀ i,i < n->xs[i]? = some (.ref (ad i)))
  (hl:∀ i ys H,P i ys H->H D=some (.lst ys)->SqT K H a xs) (ht:∀ i ys H,i < n->P i ys H->SqT K H (ad i) [v1 i,v2 i,v3 i])
  (hs:∀ i ys H,i < n->P i ys H->H D=some (.lst ys)->tt (some (v1 i) :: some (v2 i) :: some (v3 i) :: more) H fun b H4=>if b=true then te (some (v1 i) :: some (v2 i) :: some (v3 i) :: more) H4 (cYes (fun σ=>∃ x y z,σ=x :: y :: z :: more) P n D (some (v1 i) :: some (v2 i) :: some (v3 i) :: more) i) else cNo (fun σ=>∃ x y z,σ=x :: y :: z :: more) P n D (some (v1 i) :: some (v2 i) :: some (v3 i) :: more) i H4)
  (hd:∀ ys H,P n ys H->H D=some (.lst ys)->Q (.ref D) H) :
  Zv (Itt K a) (gTup K 3 (Y6 (Zq 0) (Y6 (Zq 1) (Y6 (Zq 2) gNil)))) tt te (none :: none :: none :: more) H1 Q D:=by
 refine Qm (xv:=fun i=>.ref (ad i)) (st:=fun i=>some (v1 i) :: some (v2 i) :: some (v3 i) :: more) (fun σ=>∃ x y z,σ=x :: y :: z :: more) P ⟨_,_,_,rfl⟩ h0 (fun i ys H hi p hD=>⟨⟨xs,_,hl i ys H p hD,hx i hi⟩,fun x H2 y=>⟨y.1,?_⟩⟩) (fun ys H p hD=>⟨xs,hl _ ys H p hD,Nat.le_of_eq hn⟩)
  (fun i ys σ' H K' hi r p k=>?_) hs hd
 ·have e:=y.2 xs (hl i ys H p hD)
  rw[hx i hi] at e
  exact (Ad e).symm
 ·obtain⟨x,y,z,rfl⟩:=r
  exact⟨ad i,_,rfl,ht i ys H hi p,rfl,_,_,rfl,_,_,rfl,_,_,rfl,rfl,k⟩
theorem ya {prog:Program} {w:World} {A:Around} (hh:A.handled=none) (it l:Addr) (hne:l ≠ it) (items:Array Value) :
  Draws prog w A it [it,l] items.size (fun i v=>items[i]? = some v) (fun i h=>h.IsTupleIter it l i/\h.IsTuple l items) where
 live:=fun i h st=>let ⟨⟨o,e,_⟩,_⟩:=st;⟨o,e⟩
 frame:=fun i h h' st k=>by
  obtain⟨⟨o,e,r⟩,⟨o2,e2,r2⟩⟩:=st
  exact⟨⟨o,k it (by simp) _ e,r⟩,⟨o2,k l (by simp) _ e2,r2⟩⟩
 item:=fun i s Q E hi st hQ=>by
  obtain⟨x,hx⟩:∃ x,items[i]? = some x:=⟨items[i],by simp[hi]⟩
  exact yQ st.1 st.2 hx fun h' a sb=>hQ x h' s.toks hx ⟨a,st.2.extBut sb.extBut hne⟩ sb
 done:=fun s Q E st hE=>yR hh st.1 st.2 (by simp) fun h' e a b=>hE h' e a b
theorem ZR (l:Addr) (items:Array Value) (n:Nat) (dct:Option Addr) (sl:Array (Option Value)) :
  Meets (Builtin.«enumerate.__new__» ⟨[.type "enumerate",.ref l],[]⟩) (fun _ R s=>s.heap.get? l=some { cls:=.type "tuple",dict:=dct,data:=.seq items n,slots:=sl } /\
   R (.ok (.ret (.ref (s.heap.push { cls:=.type "tuple_iterator",data:=.fields #[.ref l,.int 0 0] }).objs.size)))
    { s with heap:=(s.heap.push { cls:=.type "tuple_iterator",data:=.fields #[.ref l,.int 0 0] }).push { cls:=.type "enumerate",data:=.fields #[.none,.bool false,.ref s.heap.objs.size,rawInt 0,.none,.none] } }):=
 .of_wp fun prog w A R s h=>by
  obtain⟨hp,g,d,tk,os⟩:=s;obtain⟨hl,h⟩:=h
  have hsub:=sub_enumerate
  have hL:Heap.IsTuple (Shared.heap ⟨hp,g,d,tk,os⟩) l items:=⟨_,hl,rfl,n,rfl⟩
  wp_walk using Bt hl
  refine wpAny_stack_any fun st=>AD ?_
  split
  ·rename_i c _ _ _ _ _
   cases (c == Value.type "enumerate")
   ·wp_walk using Bt hl,DW hL
    exact⟨_,rfl,h⟩
   ·wp_walk using Bt hl,DW hL
    exact⟨_,rfl,h⟩
  ·wp_walk using Bt hl,DW hL
   exact⟨_,rfl,h⟩
theorem ZS {prog:Program} {w:World} {A:Around} {E:Value->Shared->Prop} {s:Shared} {l:Addr} {items:Array Value} {Q:Value->Shared->Prop} (hL:s.heap.IsTuple l items)
  (h:∀ h',IsEnum h' (s.heap.objs.size+1) s.heap.objs.size 0 .none->h'.IsTupleIter s.heap.objs.size l 0->h'.objs.size=s.heap.objs.size+2 ->
   (∀ b o,s.heap.get? b=some o->h'.get? b=some o)->Q (.ref (s.heap.objs.size+1)) { s with heap:=h' }) :
  wpAny (model prog w) A (call (.type "enumerate") [.ref l]) Q E s:=by
 obtain⟨⟨c,dct,dt,sl⟩,hl,hc,n,hd⟩:=hL
 replace hc:c=.type "tuple":=hc
 replace hd:dt=.seq items n:=hd
 subst hc hd
 refine callType_new PySem.F.called_enumerate (by decide) (PySem.F.typeCall_enumerate_1 _) (PySem.F.newCall_enumerate_1 _) (fun obj=>Ef obj _) PySem.F.entry_enumerate_new
  (ZR l items n dct sl) ⟨hl,?_⟩
 have hz:(s.heap.push { cls:=.type "tuple_iterator",data:=.fields #[.ref l,.int 0 0] }).objs.size=s.heap.objs.size+1:=Bp ..
 show _/\_
 rw[hz]
 have he:IsEnum ((s.heap.push { cls:=.type "tuple_iterator",data:=.fields #[.ref l,.int 0 0] }).push
   { cls:=.type "enumerate",data:=.fields #[.none,.bool false,.ref s.heap.objs.size,rawInt 0,.none,.none] }) (s.heap.objs.size+1) s.heap.objs.size 0 .none:=by
  have:=AO (s.heap.push { cls:=.type "tuple_iterator",data:=.fields #[.ref l,.int 0 0] })
   (o:={ cls:=.type "enumerate",data:=.fields #[.none,.bool false,.ref s.heap.objs.size,rawInt 0,.none,.none] }) rfl
  rw[hz] at this;exact this
 refine⟨⟨_,he,rfl⟩,h _ he ⟨_,AF _ (AO _ rfl),rfl,rfl⟩ (by rw[Bp,hz]) fun b o x=>AF _ (AF _ x)⟩
def Itet (K : PySem.W.Frag) (a : Addr) : It :=
  ⟨fun i H => ∃ xs x, SqT K H a xs /\ xs[i]? = some x,
   fun i H v H' => ∃ T x, H T = none /\ v = .ref T /\ H' = upd H T (.tup [.int (i : Nat), x]) /\ ∀ xs, SqT K H a xs -> xs[i]? = some x,
   fun i H => ∃ xs, SqT K H a xs /\ xs.length = i⟩
theorem xi {P:Program} {w:World} {K:PySem.W.Frag} {elts:List Expr} {kk:Nat} {pos:Pos} {e it a:Addr} (hei:e ≠ it) (hai:a ≠ it) (hea:e ≠ a) :
  Turn P w K (.Tuple elts kk pos) (Itet K a) [e,it] e (fun i h=>(∃ old,IsEnum h e it i old)/\h.IsTupleIter it a i) where
 mem:=by simp
 obj:=fun i h st b hb=>by
  obtain⟨⟨old,u1⟩,⟨o4,u4,_,d4⟩⟩:=st
  simp only[List.mem_cons,List.not_mem_nil,or_false] at hb
  rcases hb with rfl | rfl
  ·exact⟨_,u1,fun v zz=>by cases zz⟩
  ·exact⟨_,u4,fun v zz=>by rw[d4] at zz;cases zz⟩
 keep:=fun i h h' st k=>by
  obtain⟨⟨old,u1⟩,⟨o4,u4,r4⟩⟩:=st
  exact⟨⟨old,k _ (by simp) _ u1⟩,⟨o4,k _ (by simp) _ u4,r4⟩⟩
 item:=by
  intro X hP hw hK hc i pins s σ H E I hf st hg
  subst hP hw hK
  obtain⟨xs,x,hq,hx⟩:=hg
  obtain⟨⟨old,he⟩,hit⟩:=st
  obtain⟨its,rv,p,hz⟩:=I.tuple hq
  obtain⟨u,hu,ru⟩:=rv.get hx
  have elt:e < s.heap.objs.size:=AN he
  have ilt:it < s.heap.objs.size:=by
   obtain⟨o,x,_⟩:=hit
   exact AN x
  have hu':its.toArray[i]? = some u:=by simpa using hu
  have hil:i < its.toArray.size:=by
   rcases DZ i its.toArray.size with z | z
   ·exact z
   ·rw[Bi z] at hu';cases hu'
  refine wpAny_pyNext_enum_itemD (s:=s) (ya (A:=X.A.in1) (I.ok.hd hc) it a hai its.toArray) he ⟨hit,show s.heap.IsTuple a its.toArray from p⟩ hil hei (by simp[hei,hea]) fun x' h' tk hP ho hit' hT hsz hk=>?_
  obtain rfl:x'=u:=Ad (hP.symm.trans hu')
  refine⟨_,rfl,wpAny_letOwnedTupleGo_enum ho fun h2 he' hs'=>?_⟩
  have k2:∀ c o,c ∉ [e,it]->s.heap.get? c=some o->h2.get? c=some o:=fun c o hc q=>(hs'.2 c (fun zz=>hc (by simp[zz]))).trans (hk c o (fun zz=>hc (by simp[zz])) (fun zz=>hc (by simp[zz])) q)
  have I1:Inv X pins σ H { s with heap:=h2,toks:=tk+1 }:=I.changed (t':=tk+1) hf k2
  have at2:h2.get? s.heap.objs.size=some { cls:=.type "tuple",data:=.seq #[.int i tk,x'] }:=(hs'.2 _ (BF elt)).trans hT
  have Hn:H s.heap.objs.size=none:=I.hok.fresh (AK _)
  have I2:Inv X pins σ (upd H s.heap.objs.size (.tup [.int (i:Nat),x])) { s with heap:=h2,toks:=tk+1 }:=by
   refine I1.adopt Hn (DQ I.sz) (BF I.lt) (fun xx cc e zz=>?_) (fun p hp zz=>?_) ⟨by show 2<=sizeLine;decide,[.int i tk,x'],.cons ⟨_,rfl⟩ (.cons ru .nil),⟨_,at2,rfl,⟨0,rfl⟩,rfl⟩⟩
   ·obtain⟨_,q⟩:=I.cell xx cc e
    exact absurd q.lt (by rw[zz];exact A6 _)
   ·exact absurd (AN (I.pin p hp).1) (by rw[zz];exact A6 _)
  refine⟨.ref s.heap.objs.size,_,I2,rfl,⟨_,x,Hn,rfl,rfl,fun xs' h1=>?_⟩,⟨⟨_,by simpa using he'⟩,hit'.1.at fun o y=>(hs'.2 it (BD hei)).trans y⟩,fun b hb=>?_⟩
  ·rw[I.tuple_inj h1 hq]
   exact hx
  ·have:b ≠ s.heap.objs.size:=by
    simp only[List.mem_cons,List.not_mem_nil,or_false] at hb
    rcases hb with rfl | rfl
    ·exact AR elt
    ·exact AR ilt
   rw[zI this]
   exact (hf b hb).1
 done:=by
  intro X hP hw hK hc i pins s σ H E I hf st hg
  subst hP hw hK
  obtain⟨xs,hq,hx⟩:=hg
  obtain⟨⟨old,he⟩,hit⟩:=st
  obtain⟨its,rv,p,hz⟩:=I.tuple hq
  have l1:=rv.length
  have hi:i=its.toArray.size:=by simp;omega
  subst hi
  exact wpAny_pyNext_enum_endD (ya (A:=X.A.in1) (I.ok.hd hc) it a hai its.toArray) he ⟨hit,show s.heap.IsTuple a its.toArray from p⟩ fun h' eb=>⟨rfl,I.changed (t':=s.toks) (ch:=[it]) (fun b hb=>hf b (by simp only[List.mem_cons,List.not_mem_nil,or_false] at hb ⊢;exact .inr hb)) fun c o hc q=>eb c o (fun zz=>hc (by simp[zz])) q⟩
 self:=fun A i s Q E st h=>by
  obtain⟨⟨old,he⟩,_⟩:=st
  exact Df he h
section
variable {X : Cx}
def iEnumT (K:PySem.W.Frag) (ta:TA):TI:=fun σ H R=>ta σ H fun vs H1=>∃ p xs,vs=[.ref p]/\SqT K H1 p xs/\R (Itet K p) H1
theorem XH (K:PySem.W.Frag) {elts:List Expr} {kk:Nat} {tpos:Pos} {a:Expr} {ta:TA} {p pos:Pos} (hg:Gl X "enumerate") (hm:X.mg "enumerate" = none) (ha:PA X [a] ta) (hs:starEach [a] X.env=[(false,eval a X.env)]:=by rfl) (hK:X.K=K:=by rfl) :
  PI X (.Tuple elts kk tpos) (.Call (.Name "enumerate" p) [a] [] pos) (iEnumT K ta):=by
 subst hK
 intro pins s σ H R I h
 refine Call_ (Zo I hg hm QY (BH (thn (ha pos pins s σ H _ I h) fun us s1 ⟨vs,H1,I1,r1,q1⟩=>?_) hs rfl))
 obtain⟨p1,xs,e,hq,q⟩:=q1
 subst e
 obtain⟨u1,rfl,r2⟩:=vals1 r1
 cases r2
 obtain⟨its,rv,pl,_⟩:=I1.tuple hq
 have plt:p1 < s1.heap.objs.size:=PyProof.Rows.IsTup.lt pl
 refine ZS (show s1.heap.IsTuple p1 its.toArray from pl) fun h' he hit hsz kp=>?_
 refine Df he ?_
 have I2:Inv X pins σ H1 { s1 with heap:=h' }:=I1.kept (t':=s1.toks) kp
 refine⟨s1.heap.objs.size+1,[s1.heap.objs.size+1,s1.heap.objs.size],_,Itet X.K p1,H1,rfl,I2,xi (EG _) (AR plt) (BF (Au plt)),⟨⟨_,he⟩,hit⟩,fun b hb=>?_,q⟩
 simp only[List.mem_cons,List.not_mem_nil,or_false] at hb
 rcases hb with rfl | rfl
 ·exact I1.fpOk (B8 _) (I1.hok.fresh (B8 _))
 ·exact I1.fpOk (AK _) (I1.hok.fresh (AK _))
end
section
variable {κ : Type} [DecidableEq κ]
def jo (kvs:List (κ×V)) (k:κ):Option V:=(kvs.find? fun kv=>decide (kv.1=k)).map (·.2)
def jX (kvs:List (κ×V)) (k:κ) (v:V):List (κ×V):=
 if (kvs.any fun kv=>decide (kv.1=k))=true then kvs.map (fun kv=>if kv.1=k then (kv.1,v) else kv) else kvs++[(k,v)]
theorem qF {p:κ×V} {r:List (κ×V)} {k:κ} (e:p.1=k):jo (p :: r) k=some p.2:=by simp[jo,List.find?_cons,e]
theorem qG {p:κ×V} {r:List (κ×V)} {k:κ} (e:¬ p.1=k):jo (p :: r) k=jo r k:=by simp[jo,List.find?_cons,e]
theorem ZL (k:κ):∀ kvs:List (κ×V),(kvs.any fun kv=>decide (kv.1=k))=(jo kvs k).isSome
 | []=>rfl
 | p :: r=>by
  rw[By]
  by_cases e:p.1=k
  ·simp only[qF e,decide_eq_true e,Bool.true_or,Option.isSome_some]
  ·rw[qG e,Aw e,Bool.false_or];exact ZL k r
theorem YH (k j:κ) (y:V):∀ kvs:List (κ×V),jo (kvs.map fun kv=>if kv.1=k then (kv.1,y) else kv) j=(jo kvs j).map fun x=>if j=k then y else x
 | []=>rfl
 | p :: r=>by
  have ih:=YH k j y r
  rw[Ag]
  by_cases h:p.1=k
  ·rw[if_pos h]
   by_cases e:p.1=j
   ·rw[qF (p:=(p.1,y)) e,qF e,Di,if_pos (e.symm.trans h)]
   ·rw[qG (p:=(p.1,y)) e,qG e,ih]
  ·rw[if_neg h]
   by_cases e:p.1=j
   ·rw[qF (p:=p) e,qF e,Di,if_neg (fun z=>h (e.trans z))]
   ·rw[qG (p:=p) e,qG e,ih]
theorem yc (k j:κ) (y:V):∀ kvs:List (κ×V),jo kvs k=none->jo (kvs++[(k,y)]) j=if j=k then some y else jo kvs j
 | [],_=>by
  by_cases e:k=j
  ·rw[if_pos e.symm];exact qF (p:=(k,y)) e
  ·rw[if_neg (fun z=>e z.symm)];exact qG (p:=(k,y)) e
 | p :: r,hn=>by
  rw[List.cons_append]
  have hk:¬ p.1=k:=fun z=>by rw[qF z] at hn;cases hn
  rw[qG hk] at hn
  have ih:=yc k j y r hn
  by_cases e:p.1=j
  ·rw[qF e,qF e,if_neg (fun z=>hk (e.trans z))]
  ·rw[qG e,qG e,ih]
theorem Qp (kvs:List (κ×V)) (k j:κ) (y:V):jo (jX kvs k y) j=if j=k then some y else jo kvs j:=by
 unfold jX
 by_cases a:(kvs.any fun kv=>decide (kv.1=k))=true
 ·rw[if_pos a,YH]
  rw[ZL] at a
  by_cases e:j=k
  ·obtain⟨x,hx⟩:=Option.isSome_iff_exists.mp a
   rw[if_pos e,e,hx,Di,if_pos rfl]
  ·rw[if_neg e]
   cases jo kvs j with
   | none=>rfl
   | some x=>rw[Di,if_neg e]
 ·rw[if_neg a]
  refine yc k j y kvs ?_
  rw[ZL] at a
  cases q:jo kvs k with
  | none=>rfl
  | some x=>rw[q] at a;exact (a rfl).elim
theorem Zc (kvs:List (κ×V)) (k:κ) (v:V):(jX kvs k v).length<=kvs.length+1:=by
 unfold jX
 split
 ·rw[AB];omega
 ·rw[AH,Aq,List.length_nil];omega
theorem putK_new {kvs:List (κ×V)} {k:κ} (v:V) (h:jo kvs k=none):jX kvs k v=kvs++[(k,v)]:=by
 unfold jX
 rw[ZL,h]
 exact if_neg (by decide)
theorem xS.isSome_eq {o:Option V} {u:Option Value} (r:xS o u):o.isSome=u.isSome:=by
 cases o with
 | none=>cases u with
  | none=>rfl
  | some _=>exact (show False from r).elim
 | some _=>cases u with
  | none=>exact (show False from r).elim
  | some _=>rfl
theorem KV.val {kvs:List (κ×V)} {vs:List (κ×Value)} (r:KV kvs vs) (k:κ):xS (jo kvs k) (valueAt vs k):=by
 unfold KV at r
 induction r with
 | nil=>exact True.intro
 | @cons p q ps qs h t ih=>
  obtain⟨h1,h2⟩:=h
  by_cases e:p.1=k
  ·have e':q.1=k:=h1.symm.trans e
   have b:valueAt (q :: qs) k=some q.2:=by simp[valueAt,List.find?_cons,e']
   rw[qF e,b];exact h2
  ·have e':¬ q.1=k:=fun z=>e (h1.trans z)
   have b:valueAt (q :: qs) k=valueAt qs k:=by simp[valueAt,List.find?_cons,e']
   rw[qG e,b];exact ih
theorem KV.any {kvs:List (κ×V)} {vs:List (κ×Value)} (r:KV kvs vs) (k:κ):(kvs.any fun kv=>decide (kv.1=k))=vs.any fun kv=>decide (kv.1=k):=by
 unfold KV at r
 induction r with
 | nil=>rfl
 | cons h t ih=>rw[By,By,ih,h.1]
theorem KV.repl {kvs:List (κ×V)} {vs:List (κ×Value)} (r:KV kvs vs) (k:κ) {y:V} {u:Value} (ry:RelV y u) :
  KV (kvs.map fun kv=>if kv.1=k then (kv.1,y) else kv) (vs.map fun kv=>if kv.1=k then (kv.1,u) else kv):=by
 unfold KV at r ⊢
 induction r with
 | nil=>exact .nil
 | @cons p q ps qs h t ih=>
  rw[Ag,Ag]
  refine .cons ?_ ih
  obtain⟨h1,h2⟩:=h
  by_cases e:p.1=k
  ·rw[if_pos e,if_pos (h1.symm.trans e)];exact⟨h1,ry⟩
  ·rw[if_neg e,if_neg (fun z=>e (h1.trans z))];exact⟨h1,h2⟩
theorem KV.put {kvs:List (κ×V)} {vs:List (κ×Value)} (r:KV kvs vs) (k:κ) {y:V} {u:Value} (ry:RelV y u):KV (jX kvs k y) (stored vs k u):=by
 unfold jX stored
 rw[r.any k]
 by_cases e:(vs.any fun kv=>decide (kv.1=k))=true
 ·rw[if_pos e,if_pos e];exact r.repl k ry
 ·rw[if_neg e,if_neg e];exact Paired.snoc r ⟨rfl,ry⟩
theorem KV.length {kvs:List (κ×V)} {vs:List (κ×Value)} (r:KV kvs vs):kvs.length=vs.length:=Al r
end
theorem yU {P:Program} {w:World} {k:Key} {u:Value} (r:RelV (kV k) u):(zU P w).is k u=true:=by
 cases k with
 | inl i=>obtain⟨t,e⟩:=(show ∃ t,u=Value.int i t from r);subst e;exact yM P w i t
 | inr x=>obtain⟨t,e⟩:=(show ∃ t,u=Value.str x t from r);subst e;exact yN P w x t
theorem yd {P:Program} {w:World}:∀ {ks:List Key} {us:List Value},qA (ks.map kV) us->ItemsAre (zU P w) ks us
 | [],_,r=>by rw[Cg] at r;cases r;exact .nil
 | k :: ks,_,r=>by
  rw[Ag] at r
  cases r with
  | cons h t=>exact .cons (yU h) (yd t)
abbrev KT (H:Hp):List (List Key×V)->List (List Key×Addr×Value)->Prop:=Paired fun p q=>p.1=q.1/\H q.2.1=some (.tup (p.1.map kV))/\RelV p.2 q.2.2
theorem KT.val {H:Hp} {kvs:List (List Key×V)} {xs:List (List Key×Addr×Value)} (r:KT H kvs xs) (k:List Key):xS (jo kvs k) ((atKey xs k).map (·.2)):=by
 induction r with
 | nil=>exact True.intro
 | @cons p q ps qs h t ih=>
  obtain⟨h1,_,h2⟩:=h
  by_cases e:p.1=k
  ·have e':q.1=k:=h1.symm.trans e
   have b:atKey (q :: qs) k=some q.2:=by simp[atKey,List.find?_cons,e']
   rw[qF e,b];exact h2
  ·have e':¬ q.1=k:=fun z=>e (h1.trans z)
   have b:atKey (q :: qs) k=atKey qs k:=by simp[atKey,List.find?_cons,e']
   rw[qG e,b];exact ih
theorem KT.repl {H:Hp} {kvs:List (List Key×V)} {xs:List (List Key×Addr×Value)} (r:KT H kvs xs) (k:List Key) {y:V} {u:Value} (ry:RelV y u) :
  KT H (kvs.map fun kv=>if kv.1=k then (kv.1,y) else kv) (xs.map (putAt k u)):=by
 induction r with
 | nil=>exact .nil
 | @cons p q ps qs h t ih=>
  rw[Ag,Ag]
  refine .cons ?_ ih
  obtain⟨h1,h2,h3⟩:=h
  unfold putAt
  by_cases e:p.1=k
  ·rw[if_pos e,if_pos (h1.symm.trans e)];exact⟨h1,h2,ry⟩
  ·rw[if_neg e,if_neg (fun z=>e (h1.trans z))];exact⟨h1,h2,h3⟩
theorem KT.put {H:Hp} {kvs:List (List Key×V)} {xs:List (List Key×Addr×Value)} (r:KT H kvs xs) (k:List Key) {b:Addr} {y:V} {u:Value} (hb:H b=some (.tup (k.map kV))) (ry:RelV y u) :
  KT H (jX kvs k y) (storedH xs k b u):=by
 have e:(kvs.any fun kv=>decide (kv.1=k))=(atKey xs k).isSome:=by
  rw[ZL,(r.val k).isSome_eq,D8]
 unfold jX storedH
 rw[e]
 by_cases q:(atKey xs k).isSome=true
 ·rw[if_pos q,if_pos q];exact r.repl k ry
 ·rw[if_neg q,if_neg q];exact Paired.snoc r ⟨rfl,hb,ry⟩
theorem KT.keeps {H H':Hp} {kvs:List (List Key×V)} {xs:List (List Key×Addr×Value)} (r:KT H kvs xs) (ht:∀ b ys,H b=some (.tup ys)->H' b=some (.tup ys)):KT H' kvs xs:=
 Paired.mapP r fun _ _ z=>⟨z.1,ht _ _ z.2.1,z.2.2⟩
section
variable {P : Program} {w : World} {H : Hp} {h : Heap} {a : Addr}
theorem rd_of {u:HO} (ok:HOk P w H h) (e:Rd H a u):qI P w H h a u:=e.ok ok
theorem yV {kvs:List (Key×V)} (ok:HOk P w H h) (e:Rd H a (.dK kvs)):kvs.length<=sizeLine/\(a == sysModules)=false/\∃ vs,KV kvs vs/\h.DictOf (zU P w) a vs:=
 show qI P w H h a (.dK kvs) from rd_of ok e
theorem dk_of {kvs:List (Key×V)} (ok:HOk P w H h) (e:H a=some (.dK kvs)):kvs.length<=sizeLine/\(a == sysModules)=false/\∃ vs,KV kvs vs/\h.DictOf (zU P w) a vs:=yV ok (.inl e)
theorem Jr {ks:List Key} (ok:HOk P w H h) (e:H a=some (.tup (ks.map kV))):(tupleKind (zU P w)).is h ks a:=by
 obtain⟨_,its,r,o,h1,h2,⟨n,h3⟩,_⟩:=(show qI P w H h a (.tup (ks.map kV)) from ok a _ e)
 exact⟨o,its.toArray,n,h1,h2,h3,by simpa using yd r⟩
theorem XI {kvs:List (List Key×V)} (ok:HOk P w H h) (e:Rd H a (.dT kvs)):kvs.length<=sizeLine/\(a == sysModules)=false /\
  ∃ xs,KT H kvs xs/\h.DictOfH (tupleKind (zU P w)) a xs:=by
 obtain⟨z,y,xs,r,o,es,ep,h1,h2,h3,h4,h5⟩:=(show qI P w H h a (.dT kvs) from rd_of ok e)
 refine⟨z,y,xs,r,o,es,ep,h1,h2,h3,h4,fun x hx=>?_,h5⟩
 have all:∀ {l:List (List Key×V)} {m:List (List Key×Addr×Value)},KT H l m->∀ x ∈ m,(tupleKind (zU P w)).is h x.1 x.2.1:=by
  intro l m q
  induction q with
  | nil=>intro x hx;exact nomatch hx
  | @cons p q ps qs hq t ih=>
   intro x hx
   rcases AV.mp hx with e | hx
   ·subst e
    exact Jr ok (by rw[<- hq.1];exact hq.2.1)
   ·exact ih x hx
 exact all r x hx
theorem dt_of {kvs:List (List Key×V)} (ok:HOk P w H h) (e:H a=some (.dT kvs)):kvs.length<=sizeLine/\(a == sysModules)=false /\
  ∃ xs,KT H kvs xs/\h.DictOfH (tupleKind (zU P w)) a xs:=XI ok (.inl e)
end
def Js (H:Hp) (a:Addr) (y:V) (r:Option V):Prop:=
 (∃ kvs k,Rd H a (.dK kvs)/\y=kV k/\r=jo kvs k)\/∃ kvs k b,Rd H a (.dT kvs)/\y=.ref b/\H b=some (.tup (k.map kV))/\r=jo kvs k
def DPut (H:Hp) (a:Addr) (y v:V) (H':Hp):Prop:=
 (∃ kvs k,H a=some (.dK kvs)/\y=kV k/\kvs.length < sizeLine/\H'=upd H a (.dK (jX kvs k v))) \/
 ∃ kvs k b,H a=some (.dT kvs)/\y=.ref b/\H b=some (.tup (k.map kV))/\kvs.length < sizeLine/\H'=upd H a (.dT (jX kvs k v))
theorem Js.k {H:Hp} {a:Addr} {kvs:List (Key×V)} {k:Key} (e:H a=some (.dK kvs)):Js H a (kV k) (jo kvs k):=.inl ⟨kvs,k,.inl e,rfl,rfl⟩
theorem Js.t {H:Hp} {a b:Addr} {kvs:List (List Key×V)} {k:List Key} (e:H a=some (.dT kvs)) (eb:H b=some (.tup (k.map kV))):Js H a (.ref b) (jo kvs k):=.inr ⟨kvs,k,b,.inl e,rfl,eb,rfl⟩
theorem DPut.k {H:Hp} {a:Addr} {kvs:List (Key×V)} {k:Key} {v:V} (e:H a=some (.dK kvs)) (hl:kvs.length < sizeLine):DPut H a (kV k) v (upd H a (.dK (jX kvs k v))):=.inl ⟨kvs,k,e,rfl,hl,rfl⟩
theorem DPut.t {H:Hp} {a b:Addr} {kvs:List (List Key×V)} {k:List Key} {v:V} (e:H a=some (.dT kvs)) (eb:H b=some (.tup (k.map kV))) (hl:kvs.length < sizeLine) :
  DPut H a (.ref b) v (upd H a (.dT (jX kvs k v))):=.inr ⟨kvs,k,b,e,rfl,eb,hl,rfl⟩
section
variable {X : Cx} {pins : List (Addr × Obj)} {σ : St} {H : Hp} {s : Shared} {a : Addr} {y v : V} {u r : Value} {o : Option V} {A : Around} {E : Value -> Shared -> Prop}
theorem Inv.big (I:Inv X pins σ H s):sysModules < s.heap.objs.size:=by
 have h:mainGlobals < s.heap.objs.size:=(I.mod.glob.keeps I.bk).lt
 exact DJ (by decide) h
theorem XJ {Q:Value->Shared->Prop} (hu:A.units+1 < cLine) (I:Inv X pins σ H s) (g:Js H a y (some v)) (ry:RelV y u) (h:∀ w' s',Inv X pins σ H s'->RelV v w'->Q w' s') :
  wpAny (model X.prog X.w) A (getItem (.ref a) u) Q E s:=by
 rcases g with ⟨kvs,k,e,ey,l⟩ | ⟨kvs,k,b,e,ey,eb,l⟩
 ·subst ey
  obtain⟨z,hd,vs,rel,dd⟩:=yV I.hok e
  obtain⟨w',hw,rw'⟩:=xS.some_of (v:=v) (o:=valueAt vs k) (by rw[l];exact rel.val k)
  exact wpAny_getItem_of (yU ry) dd.mapOf hw (h w' _ (I.tok _) rw')
 ·subst ey
  cases (show u=Value.ref b from ry)
  obtain⟨z,hd,xs,rel,dd⟩:=XI I.hok e
  obtain⟨w',hw,rw'⟩:=xS.some_of (v:=v) (o:=(atKey xs k).map (·.2)) (by rw[l];exact rel.val k)
  obtain⟨p,hp,hp2⟩:=AX.mp hw
  refine wpAny_getItem_heap (C7 hu) (Jr I.hok eb) dd hp ?_
  rw[hp2]
  exact h w' _ (I.tok _) rw'
theorem d_in {Q:Value->Shared->Prop} (hu:A.units+1 < cLine) (I:Inv X pins σ H s) (g:Js H a y o) (ry:RelV y u) (h:∀ s',Inv X pins σ H s'->Q (.bool o.isSome) s') :
  wpAny (model X.prog X.w) A (compareOp .In u (.ref a)) Q E s:=by
 rcases g with ⟨kvs,k,e,ey,l⟩ | ⟨kvs,k,b,e,ey,eb,l⟩
 ·subst ey
  obtain⟨z,hd,vs,rel,dd⟩:=yV I.hok e
  refine wpAny_in_of (yU ry) hd dd.mapOf ?_
  rw[<- (rel.val k).isSome_eq,<- l]
  exact h _ (I.tok _)
 ·subst ey
  cases (show u=Value.ref b from ry)
  obtain⟨z,hd,xs,rel,dd⟩:=XI I.hok e
  refine wpAny_in_heap (C7 hu) (Jr I.hok eb) hd dd ?_
  have q:=(rel.val k).isSome_eq
  rw[D8] at q
  rw[<- q,<- l]
  exact h _ (I.tok _)
theorem d_notIn {Q:Value->Shared->Prop} (hu:A.units+1 < cLine) (I:Inv X pins σ H s) (g:Js H a y o) (ry:RelV y u) (h:∀ s',Inv X pins σ H s'->Q (.bool (!o.isSome)) s') :
  wpAny (model X.prog X.w) A (compareOp .NotIn u (.ref a)) Q E s:=by
 rcases g with ⟨kvs,k,e,ey,l⟩ | ⟨kvs,k,b,e,ey,eb,l⟩
 ·subst ey
  obtain⟨z,hd,vs,rel,dd⟩:=yV I.hok e
  refine wpAny_notIn_of (yU ry) hd dd.mapOf ?_
  rw[<- (rel.val k).isSome_eq,<- l]
  exact h _ (I.tok _)
 ·subst ey
  cases (show u=Value.ref b from ry)
  obtain⟨z,hd,xs,rel,dd⟩:=XI I.hok e
  refine wpAny_notIn_heap (C7 hu) (Jr I.hok eb) hd dd ?_
  have q:=(rel.val k).isSome_eq
  rw[D8] at q
  rw[<- q,<- l]
  exact h _ (I.tok _)
theorem yW {h':Heap} {t':Nat} {ob:HO} (I:Inv X pins σ H s) (mu:Mut (H a)) (hs:Heap.SameBut a s.heap h') (he:∃ q,h'.get? a=some q) (new:qI X.prog X.w (upd H a ob) h' a ob) :
  Inv X pins σ (upd H a ob) { s with heap:=h',toks:=t' }:=
 I.write (x:=a) (e:=a) mu (.inl rfl) (fun b q hb z=>(hs.2 b hb).trans z) he new
theorem dk_new {P:Program} {w:World} {H':Hp} {h':Heap} {kvs:List (Key×V)} {vs:List (Key×Value)} (z:kvs.length<=sizeLine) (hd:(a == sysModules)=false) (rel:KV kvs vs) (dd:h'.DictOf (zU P w) a vs) :
  qI P w H' h' a (.dK kvs):=⟨z,hd,vs,rel,dd⟩
theorem ye {H':Hp} {Q:Unit->Shared->Prop} (hu:A.units+1 < cLine) (I:Inv X pins σ H s) (g:DPut H a y v H') (ry:RelV y u) (rv:RelV v r) (h:∀ s',Inv X pins σ H' s'->Q () s') :
  wpAny (model X.prog X.w) A (setItem (.ref a) u r) Q E s:=by
 rcases g with ⟨kvs,k,e,ey,l,eH⟩ | ⟨kvs,k,b,e,ey,eb,l,eH⟩
 ·subst ey eH
  obtain⟨z,hd,vs,rel,dd⟩:=dk_of I.hok e
  have hz:vs.length<=sizeLine:=by rw[<- rel.length];exact z
  have hl:(jX kvs k v).length<=sizeLine:=by have:=Zc kvs k v;omega
  refine wpAny_setItem_pairs (hsz:=hz) (yU ry) dd fun h' dd' hs=>h _ ?_
  have he:∃ q,h'.get? a=some q:=let ⟨q,_,_,hq,_⟩:=dd';⟨q,hq⟩
  exact yW I (by rw[e];exact True.intro) hs he (dk_new hl hd (rel.put k rv) dd')
 ·subst ey eH
  cases (show u=Value.ref b from ry)
  obtain⟨z,hd,xs,rel,dd⟩:=dt_of I.hok e
  have hz:xs.length<=sizeLine:=by rw[<- Al rel];exact z
  have hl:(jX kvs k v).length<=sizeLine:=by have:=Zc kvs k v;omega
  refine wpAny_setItem_heap (hsz:=hz) (C7 hu) (Jr I.hok eb) dd fun h' dd' hs=>h _ ?_
  obtain⟨q,es,ep,hq,h2,h3,h4,_,h5⟩:=dd'
  refine yW I (by rw[e];exact True.intro) hs ⟨q,hq⟩ ⟨hl,hd,_,(rel.put k eb rv).keeps fun c ys ec=>?_,q,es,ep,hq,h2,h3,h4,h5⟩
  rw[zI (Y5 ec e (fun z=>nomatch z))]
  exact ec
end
section
variable {X : Cx} {pins : List (Addr × Obj)} {σ : St} {H : Hp} {s : Shared} {a : Addr} {kvs : List (Key × V)} {k : Key} {u : Value} {A : Around} {E : Value -> Shared -> Prop}
theorem d_len {Q:Value->Shared->Prop} (I:Inv X pins σ H s) (e:Rd H a (.dK kvs)) (h:∀ t s',Inv X pins σ H s'->Q (.int kvs.length t) s'):wpAny (model X.prog X.w) A (call (.builtin "len") [.ref a]) Q E s:=by
 obtain⟨z,hd,vs,rel,dd⟩:=yV I.hok e
 refine call_len_dict hd dd (by rw[<- rel.length];rw[Dh] at z;omega) ?_
 rw[<- rel.length]
 exact h _ _ (I.tok _)
end
def NoSl (i:Expr):Prop:=∀ ov iv,subscripted i false ov iv=operate [ov,iv] (getItem ov iv)
theorem XL {prog:Program} {w:World} {A:Around} {E:Value->Shared->Prop} {s:Shared} {env:Env} {value slice:Expr} {pos:Pos} {T id:String} {Q:Value->Shared->Prop}
  (hl:typeLookup (.type T) "__getitem__" = pure (some (.builtin id))) (hs:NoSl slice)
  (h:wpAny (model prog w) A (eval value env) (fun o s₁=>wpAny (model prog w) A (eval slice env) (fun i s₂=>s₂.TypeIs o T/\wpAny (model prog w) A (getItem o i) Q E s₂) E s₁) E s) :
  wpAny (model prog w) A (eval (.Subscript value slice pos) env) Q E s:=by
 refine Subscript_ (C6 h (fun o s₁ h₁=>C6 h₁ (fun i s₂ h₂=>?_) fun _ _ x=>x) fun _ _ x=>x)
 obtain⟨hT,h₂⟩:=h₂
 unfold subscriptTail
 refine AA ?_
 rw[getitemInPython_of_ne hT.not_modules]
 refine AA (CZ hT hl ?_)
 have fin:wpAny (model prog w) A (subscripted slice false o i) (fun r s₃=>wpAny (model prog w) A (letTemporaryGo value o r >>= fun _=>pure r) Q E s₃) E s₂:=by
  rw[hs o i]
  exact wpAny_operating (C6 h₂ (fun r s₃ h₃=>AA (wpAny_letTemporaryGo (AD h₃))) fun _ _ x=>x)
 first
  | exact AD (AA fin)
  | exact AA (AD (AA fin))
  | exact AA fin
theorem yX {X:Cx} {pins:List (Addr×Obj)} {σ:St} {H:Hp} {s:Shared} {a:Addr} {y:V} {o:Option V} (I:Inv X pins σ H s) (g:Js H a y o):s.TypeIs (.ref a) "dict":=by
 rcases g with ⟨kvs,k,e,_,_⟩ | ⟨kvs,k,b,e,_,_,_⟩
 ·obtain⟨_,_,vs,_,dd⟩:=yV I.hok e
  exact dd.typeIs
 ·obtain⟨_,_,xs,_,dd⟩:=XI I.hok e
  exact dd.typeIs
def tDGet (td ty:TE):TE:=fun σ H Q=>td σ H fun x H1=>ty σ H1 fun y H2=>∃ a v,x=.ref a/\Js H2 a y (some v)/\Q v H2
def sDPut (td ty tv:TE):TS:=fun D σ H=>tv σ H fun v H1=>td σ H1 fun x H2=>ty σ H2 fun y H3=>∃ a H4,x=.ref a/\DPut H3 a y v H4/\D.nx σ H4
section
variable {X : Cx} {o i e value : Expr} {pos pos' tpos : Pos} {td ty tv : TE}
theorem QL (hu:X.A.units+1 < cLine) (ho:PE X o td) (hi:PE X i ty) (hs:NoSl i):PE X (.Subscript o i pos) (tDGet td ty):=by
 intro pins s σ H Q I h
 refine XL PySem.F.slot_dict_getitem.lookup hs (thn (ho pins s σ H _ I h) fun u s1 ⟨x,H1,I1,rx,q1⟩=>thn (hi pins s1 σ H1 _ I1 q1) fun iv s2 ⟨y,H2,I2,ry,a,v,ex,g,q2⟩=>?_)
 subst ex
 obtain rfl:u=Value.ref a:=rx
 exact⟨yX I2 g,XJ hu I2 g ry fun w' s3 I3 rw'=>⟨v,H2,I3,rw',q2⟩⟩
theorem ps_dput (hu:X.A.units+1 < cLine) (ho:PE X o td) (hi:PE X i ty) (hv:PE X value tv) (hs:swapsWith value (some (.Subscript o i pos')) pos.line X.env=pure false) :
  PS X (.Assign [.Subscript o i pos'] value pos) (sDPut td ty tv):=by
 intro pins s σ H D I h
 refine wpAny_Assign_Subscript (thn (hv pins s σ H _ I h) fun r s1 ⟨v,H1,I1,rv,q1⟩=>thn (ho pins s1 σ H1 _ I1 q1) fun u s2 ⟨x,H2,I2,rx,q2⟩=>thn (hi pins s2 σ H2 _ I2 q2) fun iv s3 ⟨y,H3,I3,ry,a,H4,ex,g,q3⟩=>?_) hs
 subst ex
 obtain rfl:u=Value.ref a:=rx
 exact ye hu I3 g ry rv fun s4 I4=>⟨σ,H4,I4,q3⟩
end
theorem dk_empty {P:Program} {w:World} {H:Hp} (h:Heap) (hb:sysModules < h.objs.size):qI P w H (h.push { cls:=.type "dict",data:=.dict #[] }) h.objs.size (.dK []):=
 ⟨A9 _,beq_eq_false_iff_ne.mpr (BD (AR hb)),[],.nil,Heap.DictOf.new h⟩
theorem dt_empty {P:Program} {w:World} {H:Hp} (h:Heap) (hb:sysModules < h.objs.size):qI P w H (h.push { cls:=.type "dict",data:=.dict #[] }) h.objs.size (.dT []):=
 ⟨A9 _,beq_eq_false_iff_ne.mpr (BD (AR hb)),[],.nil,_,#[],0,AO _ rfl,⟨rfl,rfl,rfl⟩,rfl,rfl,List.nodup_nil⟩
def tDNewK:TE:=fun _ H Q=>∀ p,H p=none->Q (.ref p) (upd H p (.dK []))
section
variable {X : Cx} {pos : Pos}
theorem Wh:PE X (.Dict [] [] pos) tDNewK:=fun pins s σ H Q I h=>
 wpAny_Dict_empty ⟨.ref s.heap.objs.size,_,I.laid (a:=s.heap.objs.size) (o:=.dK []) (t':=s.toks) (fun _ _ q=>AF _ q) (AK _) (dk_empty s.heap I.big),rfl,h _ (I.hok.fresh (AK _))⟩
end
section
variable {X : Cx} {pins : List (Addr × Obj)} {σ : St} {H : Hp} {s : Shared} {a : Addr} {y d : V} {u r : Value} {o : Option V} {A : Around} {E : Value -> Shared -> Prop}
end
section
end
section
variable {X : Cx} {pins : List (Addr × Obj)} {σ : St} {H : Hp} {s : Shared} {a : Addr} {kvs : List (Key × V)} {A : Around} {E : Value -> Shared -> Prop}
theorem d_copyOf {Q:Value->Shared->Prop} (I:Inv X pins σ H s) (e:Rd H a (.dK kvs)) (h:∀ p s',H p=none->Inv X pins σ (upd H p (.dK kvs)) s'->Q (.ref p) s'):wpAny (model X.prog X.w) A (call (.type "dict") [.ref a]) Q E s:=by
 obtain⟨z,hd,vs,rel,dd⟩:=yV I.hok e
 refine kt_call_dict hd dd (by rw[<- rel.length];exact z) fun h' dd' hs=>?_
 refine h _ _ (I.hok.fresh (AK _)) (I.laid (a:=s.heap.objs.size) (o:=.dK kvs) (t':=s.toks) (fun b q hq=>?_) (AK _) (dk_new z (beq_eq_false_iff_ne.mpr (BD (AR I.big))) rel dd'))
 exact (hs.2 b (AR (AN hq))).trans (AF _ hq)
end
section
variable {X : Cx} {pins : List (Addr × Obj)} {σ : St} {H : Hp} {s : Shared} {a : Addr} {y : V} {u : Value} {A : Around} {E : Value -> Shared -> Prop}
end
theorem no_keys:typeLookup (.type "list") "keys" = pure none:=am_miss_of_fast (by decide +kernel)
theorem zK:plainId "dict.update.loop" = true:=by decide +kernel
theorem qB:entryFor table "dict.update.loop" = some Builtin.«dict.update.loop»:=entryFor_of_fast (by kernel_rfl)
theorem QZ:isSubtype (.type "AttributeError") (.type "AttributeError")=pure true:=by rw[BZ];kernel_rfl
theorem keys_by {prog:Program} {w:World} {A:Around} {E:Value->Shared->Prop} {s:Shared} {a:Addr} {o:Obj} {xs:Array Value} {k:Nat} {t:Tok} {Q:Value->Shared->Prop}
  (hx:s.heap.get? a=some o) (hc:o.cls=.type "list") (hdat:o.data=.seq xs k) (hd:o.dict=none) (hA:A.handled=none)
  (h:∀ h' tk e,Heap.NewExcOf s.heap h' e "AttributeError" -> E (.ref e) { s with heap:=h',toks:=tk }) :
  wpAny (model prog w) A (getAttrBy (.ref a) (.str "keys" t) false) Q E s:=by
 obtain⟨c,dct,dat,sl⟩:=o
 simp only at hc hdat hd
 subst hc hdat hd
 obtain⟨hp,g,d,tk,os⟩:=s
 have hT:∀ tk',(⟨hp,g,d,tk',os⟩:Shared).TypeIs (.ref a) "list":=fun _=>⟨_,hx,rfl⟩
 have f1:=QZ
 have f3:=DA.lookup
 have f4:=DA.bind (.ref a)
 have f5:=am_list_getattr_none
 unfold getAttrBy
 repeat (any_goals (first | assumption | exact hT _ | ((with_reducible show wpAny _ _ (call (Value.builtin "list.__getattribute__") _ _) _ _ _);refine Cr DA (hT _) am_entry_list_getattribute (PySem.F.args_list_getattribute_2 _ _) (meets_getattribute_miss_list a xs k sl "keys" _ no_keys (by decide) (by decide)) ⟨hx,hA,fun h' tk' e hx'=>?_⟩) | wp_step))
 obtain⟨t',u',he⟩:=hx'.there
 show wpAny _ _ (getattributeRaised _ _ _ _ _ _ _) _ _ _
 unfold getattributeRaised
 repeat (any_goals (first | assumption | wp_step))
 exact h _ _ _ hx'.of
theorem Jt {prog:Program} {w:World} {A:Around} {E:Value->Shared->Prop} {s:Shared} {a:Addr} {o:Obj} {xs:Array Value} {k:Nat} {Q:Option Value->Shared->Prop}
  (hx:s.heap.get? a=some o) (hc:o.cls=.type "list") (hdat:o.data=.seq xs k) (hd:o.dict=none) (hA:A.handled=none)
  (h:∀ h' tk,(∀ b ob,s.heap.get? b=some ob->h'.get? b=some ob)->Q none { s with heap:=h',toks:=tk }) :
  wpAny (model prog w) A (getAttr? (.ref a) "keys") Q E s:=by
 unfold getAttr? getAttrBy?
 refine AA (wpAny_mkText (AA (Bk (keys_by (s:={ s with toks:=s.toks+1 }) hx hc hdat hd hA fun h' tk e ne=>?_))))
 obtain⟨kp,nw,ob,vs,he,h1,h2⟩:=ne
 refine AA (Bb (T := "AttributeError") (b:=true) ⟨ob,he,h1⟩ QZ ?_)
 exact AD (h h' tk kp)
def putAll (kvs:List (Key×V)) (ps:List (Key×V)):List (Key×V):=ps.foldl (fun acc p=>jX acc p.1 p.2) kvs
section
variable {prog : Program} {w : World} {A : Around} {R : Result -> Shared -> Prop}
def ZY (prog:Program) (w:World) (h:Heap) (v:Value) (k:Key) (x:Value):Prop:=∃ b key,v=.ref b/\h.IsTuple b #[key,x]/\(zU prog w).is k key=true
theorem ZY.keep {prog:Program} {w:World} {h h':Heap} {v x:Value} {k:Key} {b0:Addr} (p:ZY prog w h v k x) (hs:∀ b o,b ≠ b0->h.get? b=some o->h'.get? b=some o) (hn:∀ o,h.get? b0=some o->o.cls ≠ .type "tuple"):ZY prog w h' v k x:=by
 obtain⟨b,key,rfl,⟨o,e,c,r⟩,hk⟩:=p
 exact⟨b,key,rfl,⟨o,hs b o (fun z=>by subst z;exact hn o e c) e,c,r⟩,hk⟩
theorem upd_loop (hh:A.handled=none) (D L it:Addr) (items:Array Value) (hDL:D ≠ L) (hDi:D ≠ it) (hLi:L ≠ it) (ps:List (Key×Value)) (hlen:ps.length=items.size) (hsz:ps.length<=sizeLine) :
  ∀ (n i:Nat) (s:Shared) (acc:List (Key×Value)),n+i=items.size->acc.length<=i->s.heap.IsListIter it L i->s.heap.IsList L items->s.heap.DictOf (zU prog w) D acc ->
  (∀ (j:Nat) (p:Key×Value) (v:Value),ps[j]? = some p->items[j]? = some v->ZY prog w s.heap v p.1 p.2) ->
  (∀ h' tk,h'.DictOf (zU prog w) D ((ps.drop i).foldl (fun (acc:List (Key×Value)) (p:Key×Value)=>stored acc p.1 p.2) acc)->(∀ b o,b ≠ D->b ≠ it->s.heap.get? b=some o->h'.get? b=some o)->R (.ok (.ret .none)) { s with heap:=h',toks:=tk }) ->
  codeAny (model prog w) A (.builtin "dict.update.loop" ⟨[.ref D,.ref it,rawInt i,.none],[]⟩) R s:=by
 intro n
 induction n with
 | zero=>
  intro i s acc hn hacc hit hl hd hp hR
  refine BA qB ?_
  rw[Ax zK _]
  show wpAny _ A.in1 (pyNext (.ref it) >>= _) _ _ s
  refine AA (Bs (show A.in1.handled=none from hh) hit hl (by simp;omega) fun h' eb=>?_)
  show wpAny _ _ (Builtin.Dict.addKeywords D [] >>= _) _ _ _
  refine AA (AD (AD (hR h' s.toks ?_ fun b o _ h2 e=>eb b o h2 e)))
  rw[Dd (by omega)]
  exact hd.extBut eb hDi
 | succ n ih=>
  intro i s acc hn hacc hit hl hd hp hR
  have hi:i < items.size:=by omega
  obtain⟨v,hv⟩:∃ v,items[i]? = some v:=⟨items[i],by simp[hi]⟩
  obtain⟨p,hpi⟩:∃ p,ps[i]? = some p:=⟨ps[i]'(by omega),by rw[AG (by omega)]⟩
  refine BA qB ?_
  rw[Ax zK _]
  show wpAny _ A.in1 (pyNext (.ref it) >>= _) _ _ s
  refine AA (Bn hit hl hv fun h1 hit1 hs1=>?_)
  obtain⟨oi,hoi,hci,_⟩:=hit
  have hp1:∀ (j:Nat) (p:Key×Value) (v:Value),ps[j]? = some p->items[j]? = some v->ZY prog w h1 v p.1 p.2:=fun j p v a b=>(hp j p v a b).keep (b0:=it) (fun b o hb e=>hs1.extBut b o hb e) fun o e=>by
   rw[hoi] at e;cases e;rw[hci];decide
  obtain⟨b,key,rfl,hb,hk⟩:=hp1 i p v hpi hv
  obtain⟨ot,e1,e2,nt,e3⟩:=id hb
  have hd1:=hd.extBut hs1.extBut hDi
  refine AA (BJ (AA (DV ?_)))
  unfold Builtin.Dict.pairItems
  refine AA (Bm (T := "tuple") ⟨ot,e1,e2⟩ ?_)
  rw[if_pos (by decide)]
  refine AA (CS e1 e3 (AD ?_))
  show wpAny _ _ (holding [key,p.2] (dictSet D key p.2)) _ _ _
  refine BJ (wpAny_dictSet_pairs (hsz:=by omega) hk hd1 fun h2 hd2 hs2=>?_)
  refine AD ⟨BK zK _,?_⟩
  have hl1:h1.IsList L items:=hl.extBut hs1.extBut hLi
  have hle:(stored acc p.1 p.2).length<=i+1:=by
   unfold stored
   split
   ·rw[AB];omega
   ·rw[AH];simp;omega
  obtain⟨oD,_,_,hoD,hcD,_⟩:=hd1
  have:=ih (i+1) { s with heap:=h2,toks:=s.toks+1 } (stored acc p.1 p.2) (by omega) hle (hit1.extBut hs2.extBut (BD hDi)) (hl1.extBut hs2.extBut (BD hDL)) hd2 (fun j p v a b=>(hp1 j p v a b).keep (b0:=D) (fun b o hb e=>hs2.extBut b o hb e) fun o e=>by
    rw[hoD] at e;cases e;rw[hcD.1];decide) fun h' tk hd' hk'=>?_
  ·simpa using this
  ·refine hR h' tk ?_ fun b o h1 h2 e=>hk' b o h1 h2 (hs2.extBut b o h1 (hs1.extBut b o h2 e))
   have e4:ps.drop i=p :: ps.drop (i+1):=by
    rw[AC] at hpi
    obtain⟨h5,h6⟩:=hpi
    rw[<- h6]
    exact B3 h5
   rw[e4,B5]
   exact hd'
theorem Ju {E:Value->Shared->Prop} {Q:Value->Shared->Prop} {s:Shared} {L:Addr} {o:Obj} {items:Array Value} {k:Nat} {ps:List (Key×Value)} (hh:A.handled=none) (hx:s.heap.get? L=some o) (hc:o.cls=.type "list") (hdat:o.data=.seq items k) (hdn:o.dict=none)
  (hlen:ps.length=items.size) (hsz:ps.length<=sizeLine) (hp:∀ (j:Nat) (p:Key×Value) (v:Value),ps[j]? = some p->items[j]? = some v->ZY prog w s.heap v p.1 p.2)
  (h:∀ h' tk,h'.DictOf (zU prog w) s.heap.objs.size (ps.foldl (fun (acc:List (Key×Value)) (p:Key×Value)=>stored acc p.1 p.2) [])->(∀ b o,s.heap.get? b=some o->h'.get? b=some o)->Q (.ref s.heap.objs.size) { s with heap:=h',toks:=tk }) :
  wpAny (model prog w) A (call (.type "dict") [.ref L]) Q E s:=by
 refine callType_codes (Q₁:=fun obj s₁=>obj=.ref s.heap.objs.size/\s₁ = { s with heap:=s.heap.push { cls:=.type "dict",data:=.dict #[] } }) PySem.F.kt_called_dict (Ee _) PySem.F.entry_dict_init (kt_code_dict_new _ ⟨rfl,rfl⟩) ?_
 rintro obj s₁ ⟨rfl,rfl⟩
 have hnew:(s.heap.push { cls:=.type "dict",data:=.dict #[] }).DictOf (zU prog w) s.heap.objs.size []:=Heap.DictOf.new s.heap
 have hx1:=AF { cls:=.type "dict",data:=.dict #[] } hx
 have Llt:L < s.heap.objs.size:=AN hx
 refine⟨hnew.typeIs,PySem.F.args_dict_init_2 _ _,?_⟩
 unfold Builtin.«dict.__init__»
 refine AA ?_
 unfold Builtin.Dict.selfAndRest
 refine AA (Dv hnew.typeIs ?_)
 show wpAny _ _ (pure (s.heap.objs.size,[Value.ref L])) _ _ _
 refine AD ?_
 show wpAny _ _ (Builtin.Dict.updateFrom "dict.__init__" s.heap.objs.size (.ref L) [] .none) _ _ _
 unfold Builtin.Dict.updateFrom
 refine AA (Bm (T := "list") ⟨o,hx1,hc⟩ ?_)
 rw[if_pos (by decide)]
 refine AA (Jt hx1 hc hdat hdn (show A.in1.in1.handled=none from hh) fun h' tk kp=>?_)
 rw[if_pos (by rfl)]
 have hL':h'.IsList L items:=⟨o,kp _ _ hx1,hc,k,hdat⟩
 refine AA (Bd (AA (Bo hL' ?_)))
 have Dget:∃ od,h'.get? s.heap.objs.size=some od:=⟨_,kp _ _ (AO _ rfl)⟩
 have Dlt:s.heap.objs.size < h'.objs.size:=let ⟨_,e⟩:=Dget;AN e
 refine AD ⟨BK zK _,?_⟩
 have it0:(h'.push { cls:=.type "list_iterator",data:=.fields #[.ref L,.int 0 0] }).IsListIter h'.objs.size L 0:=⟨_,AO _ rfl,rfl,rfl⟩
 have hd':(h'.push { cls:=.type "list_iterator",data:=.fields #[.ref L,.int 0 0] }).DictOf (zU prog w) s.heap.objs.size []:=by
  obtain⟨od,es,ep,e,r⟩:=hnew
  exact⟨od,es,ep,AF _ (kp _ _ e),r⟩
 refine upd_loop (A:=A.in1) (show A.in1.handled=none from hh) s.heap.objs.size L h'.objs.size items (BF Llt) (AR Dlt) (AR (DJ Llt Dlt)) ps hlen hsz items.size 0 { s with heap:=h'.push { cls:=.type "list_iterator",data:=.fields #[.ref L,.int 0 0] },toks:=tk } [] rfl (AK _) it0 ⟨o,AF _ (kp _ _ hx1),hc,k,hdat⟩ hd' (fun j p v a b=>?_) fun h2 tk2 hd2 hk2=>?_
 ·obtain⟨bb,key,e1,⟨ot,e2,r⟩,e3⟩:=hp j p v a b
  exact⟨bb,key,e1,⟨ot,AF _ (kp _ _ (AF _ e2)),r⟩,e3⟩
 ·refine⟨rfl,h h2 tk2 ?_ fun b ob e=>hk2 b ob (AR (AN e)) (AR (DJ (AN e) Dlt)) (AF _ (kp _ _ (AF _ e)))⟩
  rw[DP] at hd2
  exact hd2
end
def Prs (H:Hp):List V->List (Key×V)->Prop:=Paired fun x p=>∃ b,x=.ref b/\H b=some (.tup [kV p.1,p.2])
theorem prs_at {P:Program} {w:World} {H:Hp} {h:Heap} (ok:HOk P w H h) {xs:List V} {ps:List (Key×V)} (r:Prs H xs ps):∀ {us:List Value},qA xs us->∃ rs:List (Key×Value),KV ps rs/\∀ (j:Nat) (p:Key×Value) (v:Value),rs[j]? = some p->us[j]? = some v->ZY P w h v p.1 p.2:=by
 unfold Prs at r
 induction r with
 | nil=>
  intro us rv
  exact⟨[],.nil,fun j p v e=>by simp at e⟩
 | @cons x p xs ps hx t ih=>
  intro us rv
  cases rv with
  | @cons _ u _ us hu rv=>
   obtain⟨rs,r1,r2⟩:=ih rv
   obtain⟨b,rfl,hb⟩:=hx
   obtain⟨_,its,ri,o,e1,e2,⟨n,e3⟩,_⟩:=(show qI P w H h b (.tup [kV p.1,p.2]) from ok b _ hb)
   cases ri with
   | @cons _ ku _ _ hk ri=>
    cases ri with
    | @cons _ vu _ _ hv ri=>
     cases ri
     refine⟨(p.1,vu) :: rs,.cons ⟨rfl,hv⟩ r1,fun j q v ej ev=>?_⟩
     cases j with
     | zero=>
      cases (Ad ej)
      cases (Ad ev)
      obtain rfl:u=Value.ref b:=hu
      exact⟨b,ku,rfl,⟨o,e1,e2,n,e3⟩,yU hk⟩
     | succ j=>exact r2 j q v ej ev
theorem XM {ps:List (Key×V)} {rs:List (Key×Value)} (r:KV ps rs):∀ {acc:List (Key×V)} {bcc:List (Key×Value)},KV acc bcc->KV (putAll acc ps) (rs.foldl (fun (acc:List (Key×Value)) (p:Key×Value)=>stored acc p.1 p.2) bcc):=by
 unfold KV at r
 induction r with
 | nil=>exact fun q=>q
 | @cons p q ps qs h t ih=>
  intro acc bcc ra
  obtain⟨h1,h2⟩:=h
  show KV (putAll (jX acc p.1 p.2) ps) _
  rw[B5,<- h1]
  exact ih (KV.put ra p.1 h2)
theorem jw:∀ (ps acc:List (Key×V)),(putAll acc ps).length<=acc.length+ps.length
 | [],acc=>AK _
 | p :: ps,acc=>by
  have h1:=jw ps (jX acc p.1 p.2)
  have h2:=Zc acc p.1 p.2
  show (putAll (jX acc p.1 p.2) ps).length<=_
  rw[Aq];omega
theorem Jv:bootBuiltins "dict" = some (.type "dict"):=by decide +kernel
section
variable {X : Cx}
def tDictP (K:PySem.W.Frag) (ta:TA):TE:=fun σ H Q=>ta σ H fun vs H1=>∃ p xs ps,vs=[.ref p]/\H1 p=some (.lst xs)/\Prs H1 xs ps/\∀ D,H1 D=none->Q (.ref D) (upd H1 D (.dK (putAll [] ps)))
theorem pe_dictP (K:PySem.W.Frag) {a:Expr} {ta:TA} {p pos:Pos} (hg:Gl X "dict") (hm:X.mg "dict" = none) (ha:PA X [a] ta) (hs:starEach [a] X.env=[(false,eval a X.env)]:=by rfl) (hc:X.calm=true:=by rfl) (hK:X.K=K:=by rfl) :
  PE X (.Call (.Name "dict" p) [a] [] pos) (tDictP K ta):=by
 subst hK
 intro pins s σ H Q I h
 refine Call_ (Zo I hg hm Jv (BH (thn (ha pos pins s σ H _ I h) fun us s1 ⟨vs,H1,I1,r1,q1⟩=>?_) hs rfl))
 obtain⟨p1,xs,ps,e,hq,hps,q⟩:=q1
 subst e
 obtain⟨u1,rfl,r2⟩:=vals1 r1
 cases r2
 obtain⟨hz,its,n,rv,eo⟩:=(show qI X.prog X.w H1 s1.heap p1 (.lst xs) from I1.hok p1 _ hq)
 obtain⟨rs,rk,hpa⟩:=prs_at I1.hok hps rv
 have l1:rs.length=its.toArray.size:=by
  have a1:=rk.length
  have a2:=Al hps
  have a3:=rv.length
  simp;omega
 have l2:ps.length<=sizeLine:=by
  have a2:=Al hps
  omega
 refine Ju (ps:=rs) (I1.ok.hd hc) eo rfl rfl rfl l1 (by have:=rk.length;omega) (fun j p v a b=>hpa j p v a (by simpa using b)) fun h' tk hd' kp=>?_
 have hb:(s1.heap.objs.size == sysModules)=false:=beq_eq_false_iff_ne.mpr (BD (AR I1.big))
 have hl:(putAll [] ps).length<=sizeLine:=by
  have:=jw ps []
  simp at this;omega
 exact⟨.ref s1.heap.objs.size,_,I1.laid (a:=s1.heap.objs.size) (o:=.dK (putAll [] ps)) (t':=tk) kp (AK _) ⟨hl,hb,_,XM rk .nil,hd'⟩,rfl,q _ (I1.hok.fresh (AK _))⟩
def tKGet (td ty:TE):TE:=fun σ H Q=>td σ H fun x H1=>ty σ H1 fun y H2=>∃ a kvs k v,x=.ref a/\H2 a=some (.dK kvs)/\y=kV k/\jo kvs k=some v/\Q v H2
theorem Jw {o i:Expr} {pos:Pos} {td ty:TE} (ho:PE X o td) (hi:PE X i ty) (hs:NoSl i):PE X (.Subscript o i pos) (tKGet td ty):=by
 intro pins s σ H Q I h
 refine XL PySem.F.slot_dict_getitem.lookup hs (thn (ho pins s σ H _ I h) fun u s1 ⟨x,H1,I1,rx,q1⟩=>thn (hi pins s1 σ H1 _ I1 q1) fun iv s2 ⟨y,H2,I2,ry,a,kvs,k,v,ex,ea,ey,l,q2⟩=>?_)
 subst ex ey
 obtain rfl:u=Value.ref a:=rx
 obtain⟨z,hd,vs,rel,dd⟩:=dk_of I2.hok ea
 obtain⟨w',hw,rw'⟩:=xS.some_of (v:=v) (o:=valueAt vs k) (by rw[<- l];exact rel.val k)
 exact⟨dd.typeIs,wpAny_getItem_of (yU ry) dd.mapOf hw ⟨v,H2,I2.tok _,rw',q2⟩⟩
end
open PySem PySem.Spec PyProof.Rows L4
theorem Prs.tk {H H':Hp} (s:Tk H H') {xs:List V} {ps:List (Key×V)} (h:Prs H xs ps):Prs H' xs ps:=by
 unfold Prs at h ⊢
 induction h with
 | nil=>exact .nil
 | cons r _ ih=>
  obtain⟨b,e,hb⟩:=r
  exact .cons ⟨b,e,s _ _ hb⟩ ih
theorem Prs.snoc {H:Hp} {xs:List V} {ps:List (Key×V)} {p:Key×V} {b:Addr} (h:Prs H xs ps) (hb:H b=some (.tup [kV p.1,p.2])):Prs H (xs++[.ref b]) (ps++[p]):=by
 unfold Prs at h ⊢
 induction h with
 | nil=>exact .cons ⟨b,rfl,hb⟩ .nil
 | cons r _ ih=>exact .cons r ih
section
variable {prog : Program} {w : World} {K : Type} [DecidableEq K] {knd : KeyKind prog w K} {A : Around} {E : Value -> Shared -> Prop} {s : Shared}
end
section
variable {X : Cx}
theorem QM:jB X (.type "dict") (fun xs H Q=>∃ g kvs,xs=[.ref g]/\H g=some (.dK kvs)/\∀ p,H p=none->Q (.ref p) (upd H p (.dK kvs))):=by
 intro pins s σ H xs us Q I rv h
 obtain⟨g,kvs,rfl,hg,q⟩:=h
 obtain⟨u1,rfl,r2⟩:=vals1 rv
 cases r2
 exact d_copyOf I (.inl hg) fun p s' hp I'=>⟨.ref p,_,I',rfl,q p hp⟩
end
theorem Jx:Manifest.owners.lookup (String.ofList ['d','e','s','r','e','v','e','r'].reverse)=some Manifest.sig_reversed:=by kernel_rfl
theorem qY:Slot "reversed" "__next__" "reversed.__next__":=
 .of (owner := "reversed") (n := "__next__") (by rw[C5,CD];kernel_rfl) (by decide +kernel) (by decide +kernel) (by decide +kernel)
  (by first | exact .inl (by decide +kernel) | exact .inr (by decide +kernel)) (by rw[BZ];kernel_rfl)
theorem ZZ:entryFor table "reversed.__next__" = some Builtin.«reversed.__next__»:=entryFor_of_tree (by kernel_rfl)
theorem Zw (a:Value):argsOk "reversed.__next__" ⟨[a],[]⟩:=by
 unfold argsOk;rw[signature?_of (id := "reversed.__next__") (n:=['_','_','t','x','e','n','_','_']) (o:=['d','e','s','r','e','v','e','r']) (by kernel_rfl) Jx];kernel_rfl
theorem Zd:Slot "reversed" "__length_hint__" "reversed.__length_hint__":=
 .of (owner := "reversed") (n := "__length_hint__") (by rw[C5,CD];kernel_rfl) (by decide +kernel) (by decide +kernel) (by decide +kernel)
  (by first | exact .inl (by decide +kernel) | exact .inr (by decide +kernel)) (by rw[BZ];kernel_rfl)
theorem wf:entryFor table "reversed.__length_hint__" = some Builtin.«reversed.__length_hint__»:=entryFor_of_tree (by kernel_rfl)
theorem Jy (a:Value):argsOk "reversed.__length_hint__" ⟨[a],[]⟩:=by
 unfold argsOk;rw[signature?_of (id := "reversed.__length_hint__") (n:=['_','_','t','n','i','h','_','h','t','g','n','e','l','_','_']) (o:=['d','e','s','r','e','v','e','r']) (by kernel_rfl) Jx];kernel_rfl
theorem Qq:Slot "reversed" "__iter__" "reversed.__iter__":=
 .of (owner := "reversed") (n := "__iter__") (by rw[C5,CD];kernel_rfl) (by decide +kernel) (by decide +kernel) (by decide +kernel)
  (by first | exact .inl (by decide +kernel) | exact .inr (by decide +kernel)) (by rw[BZ];kernel_rfl)
theorem Jz (a:Value):argsOk "reversed.__iter__" ⟨[a],[]⟩:=by
 unfold argsOk;rw[signature?_of (id := "reversed.__iter__") (n:=['_','_','r','e','t','i','_','_']) (o:=['d','e','s','r','e','v','e','r']) (by kernel_rfl) Jx];kernel_rfl
theorem wg:entryFor table "reversed.__iter__" = some Builtin.«dict_keyiterator.__iter__»:=
 entryFor_alias (id' := "dict_keyiterator.__iter__") (by kernel_rfl) (by first | rfl | decide +kernel | (unfold String.splitOn;simp +decide [String.splitOnAux])) (by decide +kernel) (by kernel_rfl)
theorem xj:typeLookup (.type "tuple") "__reversed__" = pure none:=am_miss_of_fast (by decide +kernel)
theorem xk:typeLookup (.type "reversed") "__len__" = pure none:=am_miss_of_fast (by decide +kernel)
theorem Wi:Slot "reversed" "__init__" "object.__init__":=
 .of (owner := "object") (n := "__init__") (by rw[C5,CD];kernel_rfl) (by decide +kernel) (by decide +kernel) (by decide +kernel)
  (by first | exact .inl (by decide +kernel) | exact .inr (by decide +kernel)) (by rw[BZ];kernel_rfl)
theorem xm:TypeCalled "reversed" "reversed.__new__" "object.__init__":=
 ⟨by decide +kernel,by decide +kernel,⟨_,_,PySem.F.mro_reversed⟩,PySem.F.made_reversed,by decide +kernel,by rw[BZ];kernel_rfl,Wi⟩
theorem yf:isSubtype (.type "tuple") (.type "dict")=pure false:=by rw[BZ];kernel_rfl
theorem seq_nat' {v n:Nat} (h:v < n):seqIndex? (v:Int) n=some v:=by
 unfold seqIndex?
 have h1:¬ ((v:Int) < 0):=by omega
 simp only[h1,if_false]
 rw[if_pos (by simp;omega)]
 rfl
def revO (t:Addr) (i:Int):Obj:={ cls:=.type "reversed",data:=.fields #[.ref t,rawInt i] }
def Qa (h:Heap) (a t:Addr) (i:Int):Prop:=∃ o,h.get? a=some o/\o.cls=.type "reversed" /\ o.data=.fields #[.ref t,rawInt i]
theorem Qa.typeIs {s:Shared} {a t:Addr} {i:Int} (x:Qa s.heap a t i):s.TypeIs (.ref a) "reversed":=let ⟨o,ho,hc,_⟩:=x;⟨o,ho,hc⟩
theorem Qa.at {h h':Heap} {a t:Addr} {i:Int} (x:Qa h a t i) (e:∀ o,h.get? a=some o->h'.get? a=some o):Qa h' a t i:=let ⟨o,ho,r⟩:=x;⟨o,e _ ho,r⟩
theorem Wj (t:Addr) (items:Array Value) (hz:(items.size:Int) < 2 ^ 63) :
  Meets (Builtin.«reversed.__new__» ⟨[.type "reversed",.ref t],[]⟩) (fun _ R s=>IsTup s.heap t items/\∀ tk,R (.ok (.ret (.ref s.heap.objs.size))) { s with heap:=s.heap.push (revO t ((items.size:Int) - 1)),toks:=tk }):=
 .of_wp fun prog w A R s h=>by
  obtain⟨ht,h⟩:=h
  have hT:s.TypeIs (.ref t) "tuple":=ht.typeIs
  unfold Builtin.«reversed.__new__»
  refine AA (BO (newClass_reversed _) ?_)
  try dsimp only
  refine AA (BO (a:=()) (by first | rfl | kernel_rfl) ?_)
  refine AA (BO (a:=()) (by first | rfl | kernel_rfl) ?_)
  try dsimp only
  refine AA (CZ hT xj ?_)
  try dsimp only
  refine AA ?_
  refine AA (m:=isInstance (.ref t) (.type "dict")) (Bb (T := "tuple") (b:=false) hT yf ?_)
  rw[if_neg AS]
  refine AA (m:=specialOf (.ref t) "__getitem__") (CZ hT Ed.lookup ?_)
  refine BO (a:=true) (by first | rfl | kernel_rfl) ?_
  show wpAny _ _ (call (.builtin "len") [.ref t] >>= _) _ _ _
  refine AA (len_tuple ht hz ?_)
  show wpAny _ _ (asInt? (.int items.size (s.toks+1)) >>= _) _ _ _
  refine AA (BO (a:=some (items.size:Int)) rfl ?_)
  show wpAny _ _ (newObj (.type "reversed") (.fields #[.ref t,rawInt ((items.size:Int) - 1)]) >>= _) _ _ _
  refine AA (Ap (AD ?_) (by size_fits))
  exact⟨_,rfl,h _⟩
section
variable {prog : Program} {w : World} {A : Around} {E : Value -> Shared -> Prop} {s : Shared}
theorem Qb {t:Addr} {items:Array Value} {Q:Value->Shared->Prop} (ht:IsTup s.heap t items) (hz:(items.size:Int) < 2 ^ 63)
  (h:∀ tk,Q (.ref s.heap.objs.size) { s with heap:=s.heap.push (revO t ((items.size:Int) - 1)),toks:=tk }):wpAny (model prog w) A (call (.type "reversed") [.ref t]) Q E s:=by
 refine callType_new xm (by decide) (PySem.F.typeCall_reversed_1 _) (PySem.F.newCall_reversed_1 _) (fun obj=>Ef obj _) PySem.F.entry_reversed_new (Wj t items hz) ⟨ht,fun tk=>?_⟩
 exact⟨⟨_,AO _ rfl,rfl⟩,h tk⟩
theorem Wm {it t:Addr} {i:Nat} {items:Array Value} {x:Value} {Q:Option Value->Shared->Prop} (hit:Qa s.heap it t (i:Int)) (ht:IsTup s.heap t items) (hx:items[i]? = some x) (hz:(items.size:Int) < 2 ^ 63)
  (hQ:∀ h' tk,Qa h' it t ((i:Int) - 1)->Heap.SameBut it s.heap h'->Q (some x) { s with heap:=h',toks:=tk }):wpAny (model prog w) A (pyNext (.ref it)) Q E s:=by
 obtain⟨o,ho,hc,hd⟩:=id hit
 have hi:i < items.size:=by
  rcases DZ i items.size with z | z
  ·exact z
  ·rw[Bi z] at hx;cases hx
 unfold pyNext
 refine AA (Bk (wpAny_callSpecial?_slot (name:=Str.ofString "__next__") hit.typeIs qY
  (Ay qY hit.typeIs ZZ ?_ (Zw _))))
 unfold Builtin.«reversed.__next__»
 refine AA (BO (a:=(Value.ref it,[])) rfl ?_)
 try dsimp only
 refine AA (Bq ho hd (x:=.ref t) rfl ?_)
 refine AA (Bq ho hd (x:=rawInt (i:Int)) rfl ?_)
 show wpAny _ _ (if (i:Int) < 0 then _ else _) _ _ s
 rw[if_neg (by omega)]
 show wpAny _ _ (specialOf (.ref t) "__getitem__" >>= _) _ _ s
 refine AA (CZ ht.typeIs Ed.lookup ?_)
 show wpAny _ _ (mkInt (i:Int) >>= _) _ _ _
 refine AA (wpAny_mkInt ?_)
 refine AA (Bk (getItem_tuple (s:={ s with toks:=s.toks+1 }) ht (by omega) (by omega) (j:=i) (seq_nat' hi) hx ?_))
 show wpAny _ _ (field (.ref it) 1 >>= _) _ _ _
 refine AA (Bq ho hd (x:=rawInt (i:Int)) rfl ?_)
 show wpAny _ _ (setField (.ref it) 1 (rawInt ((i:Int) - 1)) >>= _) _ _ _
 refine AA (BP ho hd (by simp) (AD ⟨x,rfl,AD (hQ _ _ ?_ (A5 ..))⟩))
 exact⟨_,Aj _ ho (BS (Az hd _)),(CN ..).trans hc,by
  rw[Az hd];simp⟩
theorem yg {it t:Addr} {Q:Option Value->Shared->Prop} (hh:A.handled=none) (hit:Qa s.heap it t (-1))
  (hQ:∀ h',Heap.ExtBut it s.heap h'->Q none { s with heap:=h' }):wpAny (model prog w) A (pyNext (.ref it)) Q E s:=by
 obtain⟨o,ho,hc,hd⟩:=id hit
 unfold pyNext
 refine AA (Bk (wpAny_callSpecial?_slot (name:=Str.ofString "__next__") hit.typeIs qY
  (Ay qY hit.typeIs ZZ ?_ (Zw _))))
 unfold Builtin.«reversed.__next__»
 refine AA (BO (a:=(Value.ref it,[])) rfl ?_)
 try dsimp only
 refine AA (Bq ho hd (x:=.ref t) rfl ?_)
 refine AA (Bq ho hd (x:=rawInt (-1)) rfl ?_)
 show wpAny _ _ (if (-1:Int) < 0 then _ else _) _ _ s
 rw[if_pos (by decide)]
 refine AA (Bd ?_)
 refine AA ?_
 refine AA (m:=setField (.ref it) 1 (rawInt (-1))) (BP ho hd (by simp) ?_)
 have ho2:=Aj (Obj.mapFields fun vs=>vs.set! 1 (rawInt (-1))) ho (BS (Az hd _))
 have hd2:=Az hd (fun vs=>vs.set! 1 (rawInt (-1)))
 refine BP ho2 hd2 (by simp) ?_
 refine AA ?_
 show wpAny _ _ (newExc (.type "StopIteration") [] >>= _) _ _ _
 refine AA ?_
 simp only[newExc,newTuple]
 refine AA (Ap ?_ (by size_fits))
 refine AA (m:=firstArgMember _ _) (BO (a:=Value.none) (by first | rfl | (simp only[firstArgMember];rfl)) ?_)
 refine Ap ?_ (by size_fits)
 simp only[raiseNew]
 refine AA (Dm ?_)
 first | rw[show A.in1.handled=none from hh] | rw[hh]
 refine AA (AD (D5 ?_))
 refine AA (Bb (T := "StopIteration") (b:=true) ⟨_,AO _ rfl,rfl⟩ D7 ?_)
 refine AD (hQ _ ?_)
 intro b o' hb e
 exact AF _ (AF _ ((BI _ _ (BD hb)).trans ((BI _ _ (BD hb)).trans e)))
theorem wI {it t:Addr} {i:Int} {Q:Value->Shared->Prop} (hit:Qa s.heap it t i) (h:Q (.ref it) s):wpAny (model prog w) A (pyIter (.ref it)) Q E s:=by
 refine Ck hit.typeIs Qq (Ay Qq hit.typeIs wg ?_ (Jz _))
 show wpAny _ _ (ret (.ref it)) _ _ s
 exact AD ⟨_,rfl, "reversed",_,hit.typeIs,qY.lookup,h⟩
theorem hint_rev {it t:Addr} {i:Nat} {items:Array Value} {Q:Bool->Shared->Prop} (hit:Qa s.heap it t ((i:Int) - 1)) (ht:IsTup s.heap t items) (hi:i<=items.size) (hz:items.size<=1000)
  (h:∀ b tk,Q b { s with toks:=tk }):wpAny (model prog w) A (Builtin.List.listLengthHint (.ref it)) Q E s:=by
 obtain⟨o,ho,hc,hd⟩:=id hit
 unfold Builtin.List.listLengthHint
 refine AA (CZ hit.typeIs xk ?_)
 show wpAny _ _ (specialOf (Value.ref it) (Str.ofString "__length_hint__") >>= _) _ _ _
 refine AA (CZ hit.typeIs Zd.lookup ?_)
 generalize hid:("reversed.__length_hint__" : String)=id0
 wp_delta
 rw[show splitId id0=some ("reversed", "__length_hint__") from by subst hid;decide +kernel]
 subst hid
 refine AA (Bb (T := "reversed") (b:=true) hit.typeIs PySem.F.sub_reversed_self ?_)
 refine BE (fun hab=>absurd hab (by decide)) (fun _=>?_)
 refine BE (fun hab=>absurd hab (by decide +kernel)) (fun _=>?_)
 refine AA (Bd ?_)
 refine AA (BO (Zd.bind _) ?_)
 have htl:Builtin.List.listTooLong ((i:Int).toNat)=false:=by simp[Builtin.List.listTooLong,sizeLine];omega
 have hfi:Builtin.List.listFitsIndex (i:Int)=true:=by simp[Builtin.List.listFitsIndex];omega
 refine AA (Bk (Ay Zd hit.typeIs wf ?_ (Jy _)))
 unfold Builtin.«reversed.__length_hint__»
 refine AA (BO (a:=Value.ref it) rfl ?_)
 refine AA (Bq ho hd (x:=.ref t) rfl ?_)
 show wpAny _ _ (if (Value.ref t == Value.none)=true then _ else call (.builtin "len") [.ref t] >>= _) _ _ s
 rw[if_neg (show ¬ ((Value.ref t == Value.none)=true) from AS)]
 refine AA (len_tuple ht (by omega) ?_)
 show wpAny _ _ (asInt? (.int items.size (s.toks+1)) >>= _) _ _ _
 refine AA (BO (a:=some (items.size:Int)) rfl ?_)
 refine AA (Bq ho hd (x:=rawInt ((i:Int) - 1)) rfl ?_)
 show wpAny _ _ (if ((items.size:Nat):Int) < ((i:Int) - 1)+1 then _ else _) _ _ _
 rw[if_neg (by omega)]
 rw[show (i:Int) - 1+1=(i:Int) by omega]
 show wpAny _ _ (mkInt (i:Int) >>= fun v=>ret v) _ _ _
 refine AA (wpAny_mkInt (AD ⟨_,rfl,?_⟩))
 have h0:¬ ((i:Int) < 0):=by omega
 dsimp only
 generalize (i:Int)=k at *
 refine AA (m:=asInt? (Value.int k _)) (AD ?_)
 refine BE (fun hab=>absurd hab (by rw[hfi];decide)) (fun _=>?_)
 refine BE (fun hab=>absurd hab h0) (fun _=>?_)
 exact BE (fun hab=>absurd hab (by rw[htl];decide)) (fun _=>AD (h _ _))
end
theorem Walks.rev {prog:Program} {w:World} {A:Around} (hh:A.handled=none) (I l:Addr) (hne:l ≠ I) (items:Array Value) (hz:(items.size:Int) < 2 ^ 63) :
  Walks prog w A I [I,l] [I] items.size (fun i v=>items[items.size - 1 - i]? = some v) (fun i h=>i<=items.size/\Qa h I l ((items.size:Int) - 1 - (i:Int))/\IsTup h l items) where
 sub:=fun b hb=>by simp at hb;simp[hb]
 frame:=fun _ _ _ x hk=>⟨x.1,x.2.1.at fun o e=>hk I (by simp) o e,let ⟨o,e,r⟩:=x.2.2;⟨o,hk l (by simp) o e,r⟩⟩
 item:=fun i s Q E hi x hQ=>by
  have e:(items.size:Int) - 1 - (i:Int)=((items.size - 1 - i:Nat):Int):=by omega
  have hit:=x.2.1
  rw[e] at hit
  have hx:items[items.size - 1 - i]? = some (items[items.size - 1 - i]'(by omega)):=Bl (by omega)
  refine Wm hit x.2.2 hx hz fun h' tk hit' hs'=>?_
  have e2:((items.size - 1 - i:Nat):Int) - 1=(items.size:Int) - 1 - ((i+1:Nat):Int):=by omega
  rw[e2] at hit'
  exact hQ _ h' tk hx ⟨hi,hit',let ⟨o,e,r⟩:=x.2.2;⟨o,(hs'.2 l hne).trans e,r⟩⟩ fun b o hb eo=>hs'.extBut b o (fun h=>hb (by simp[h])) eo
 done:=fun s Q E x hQ=>by
  have e:(items.size:Int) - 1 - (items.size:Int) = -1:=by omega
  have hit:=x.2.1
  rw[e] at hit
  exact yg hh hit fun h' he'=>hQ h' s.toks fun b o hb eo=>he' b o (fun h=>hb (by simp[h])) eo
 self:=fun _ _ _ _ x hQ=>wI x.2.1 hQ
section
variable {prog : Program} {w : World} {A : Around} {s : Shared}
theorem xn {R:Result->Shared->Prop} {it t:Addr} {items:Array Value} (hh:A.handled=none) (hit:Qa s.heap it t ((items.size:Int) - 1)) (ht:IsTup s.heap t items) (hne:t ≠ it) (hz:items.size<=1000)
  (S:Addr) (res:Value) (c₀:Nat) (hS:s.heap.get? S=some { cls:=.type "list",data:=.seq #[] c₀ })
  (hR:∀ h' tk acc' c',(∀ b o,b ≠ S->b ≠ it->s.heap.get? b=some o->h'.get? b=some o)->h'.get? S=some { cls:=.type "list",dict:=none,data:=.seq acc' c',slots:=#[] } ->
   ItemsOf (fun i v=>items[items.size - 1 - i]? = some v) acc' items.size->R (.ok (.ret res)) { s with heap:=h',toks:=tk }) :
  wpAny (model prog w) A.in1 (Builtin.List.listExtendWith (.ref S) (.ref it) res)
   (fun fin s'=>match fin with | .done f=>R (.ok f) s' | .again c'=>c'.quiet=true/\codeAny (model prog w) A c' R s') (fun e s'=>R (.error e) s') s:=by
 have hSit:S ≠ it:=fun e=>by
  obtain⟨o,ho,hc,_⟩:=hit
  rw[e,ho] at hS
  have:=Ad hS
  rw[this] at hc
  exact absurd hc (show ¬ (Value.type "list" = Value.type _) by decide)
 have hSt:S ≠ t:=fun e=>by
  obtain⟨o,ho,hc,_⟩:=ht
  rw[e,ho] at hS
  have:=Ad hS
  rw[this] at hc
  exact absurd hc (show ¬ (Value.type "list" = Value.type _) by decide)
 have hSf:S ∉ [it,t]:=fun hm=>by
  rcases AV.mp hm with h | h
  ·exact hSit h
  ·exact hSt (AE.mp h)
 have W:=(Walks.rev (prog:=prog) (w:=w) (A:=A.in1) hh it t hne items (by omega)).toS
 have key:∀ (h:Heap) (c₁ tk:Nat),Qa h it t ((items.size:Int) - 1)->IsTup h t items->(∀ b o,b ≠ S->s.heap.get? b=some o->h.get? b=some o) ->
   h.get? S=some { cls:=.type "list",data:=.seq #[] c₁ }->codeAny (model prog w) A (.builtin "list.extend.loop" ⟨[.ref S,.ref it,res],[]⟩) R { s with heap:=h,toks:=tk }:=by
  intro h c₁ tk hit' ht' hk hS₁
  refine codeAny_extend_loopS W (by rw[Dh];omega) S hSf res items.size 0 _ #[] c₁ rfl (A9 _) ⟨A9 _,by simpa using hit',ht'⟩ hS₁ (ItemsOf.nil _) fun s' acc' c' hm hS' hacc=>?_
  rw[Moved.eq_with hm]
  refine hR s'.heap s'.toks acc' c' (fun b o hb hi e=>hm.heap b o (fun hmem=>?_) (hk b o hb e)) hS' hacc
  rcases AV.mp hmem with e' | hmem
  ·exact hb e'
  ·exact hi (AE.mp hmem)
 unfold Builtin.List.listExtendWith
 refine AA (Bm (T := "reversed") hit.typeIs ?_)
 have h1:Builtin.List.listSameRef (.ref S) (.ref it)=false:=by simp[Builtin.List.listSameRef,hSit]
 have h2:(Value.type "reversed" == Value.type "list")=false:=by decide
 have h3:(Value.type "reversed" == Value.type "tuple")=false:=by decide
 simp only[h1,h2,h3,Bool.or_false,Bool.false_eq_true,if_false]
 refine AA (wI hit ?_)
 refine AA (BJ (hint_rev (i:=items.size) hit ht (AK _) hz fun b tk=>?_))
 refine BE (fun _=>?_) (fun _=>AD ⟨BK Cm _,key _ c₀ _ hit ht (fun b o _ e=>e) hS⟩)
 refine AA (Bd ?_)
 refine AA ?_
 show wpAny _ _ (updateSeq S (·.push .none) >>= fun _=>updateSeq S (·.pop)) _ _ _
 refine AA (CY hS rfl ?_)
 have hS₂:=Aj (Obj.mapSeq (·.push Value.none)) hS rfl
 refine CY (hz:=by seq_fits) hS₂ rfl ?_
 have hS₃:=Aj (Obj.mapSeq (·.pop)) hS₂ rfl
 have oth:∀ b o,b ≠ S->s.heap.get? b=some o->((s.heap.update S (Obj.mapSeq (·.push Value.none))).update S (Obj.mapSeq (·.pop))).get? b=some o:=fun b o hb e=>(BI _ _ (BD hb)).trans ((BI _ _ (BD hb)).trans e)
 refine AD ⟨BK Cm _,key _ _ _ (hit.at fun o e=>oth it o (BD hSit) e) (let ⟨o,e,r⟩:=ht;⟨o,oth t o (BD hSt) e,r⟩) oth hS₃⟩
theorem init_rev {R:Result->Shared->Prop} {it t:Addr} {items:Array Value} (hh:A.handled=none) (hit:Qa s.heap it t ((items.size:Int) - 1)) (ht:IsTup s.heap t items) (hne:t ≠ it) (hz:items.size<=1000) (S:Addr) (hS:s.heap.get? S=some { cls:=.type "list",data:=.seq #[] })
  (hSt:S ≠ t) (hSi:S ≠ it) (hR:∀ h' tk acc' c',(∀ b o,b ≠ S->b ≠ it->s.heap.get? b=some o->h'.get? b=some o)->h'.get? S=some { cls:=.type "list",dict:=none,data:=.seq acc' c',slots:=#[] } ->
   ItemsOf (fun i v=>items[items.size - 1 - i]? = some v) acc' items.size->R (.ok (.ret .none)) { s with heap:=h',toks:=tk }) :
  wpAny (model prog w) A.in1 (Builtin.«list.__init__» ⟨[.ref S,.ref it],[]⟩)
   (fun fin s'=>match fin with | .done f=>R (.ok f) s' | .again c'=>c'.quiet=true/\codeAny (model prog w) A c' R s') (fun e s'=>R (.error e) s') s:=by
 show wpAny _ _ (do let old <- Builtin.List.listItems (.ref S);Builtin.List.listUpdate (.ref S) (fun _=>#[]);letGo old.toList.reverse;Builtin.List.listExtendWith (.ref S) (.ref it) .none) _ _ s
 refine AA ?_
 unfold Builtin.List.listItems
 refine AA (CS hS rfl (AD ?_))
 show wpAny _ _ (updateSeq S (fun _=>#[]) >>= fun _=>letGo (#[]:Array Value).toList.reverse >>= fun _=>Builtin.List.listExtendWith (.ref S) (.ref it) .none) _ _ s
 refine AA (CY hS rfl ?_)
 have hS₂:=Aj (Obj.mapSeq (fun _=>(#[]:Array Value))) hS rfl
 have oth:∀ b o,b ≠ S->s.heap.get? b=some o->(s.heap.update S (Obj.mapSeq (fun _=>(#[]:Array Value)))).get? b=some o:=
  fun b o hb e=>(BI _ _ (BD hb)).trans e
 refine AA (wpAny_letGo ?_)
 refine xn hh (hit.at fun o e=>oth it o (BD hSi) e) (let ⟨o,e,r⟩:=ht;⟨o,oth t o (BD hSt) e,r⟩) hne hz S .none _ hS₂ fun h' tk acc' c' hk hS' hacc=>?_
 exact hR h' tk acc' c' (fun b o hb hi e=>hk b o hb hi (oth b o hb e)) hS' hacc
theorem Wn {E:Value->Shared->Prop} {Q:Value->Shared->Prop} {it t:Addr} {items:Array Value} (hh:A.handled=none) (hit:Qa s.heap it t ((items.size:Int) - 1)) (ht:IsTup s.heap t items) (hne:t ≠ it) (hz:items.size<=1000)
  (hQ:∀ h' tk acc' c',(∀ b o,b ≠ it->s.heap.get? b=some o->h'.get? b=some o) ->
   h'.get? s.heap.objs.size=some { cls:=.type "list",dict:=none,data:=.seq acc' c',slots:=#[] }->ItemsOf (fun i v=>items[items.size - 1 - i]? = some v) acc' items.size->Q (.ref s.heap.objs.size) { s with heap:=h',toks:=tk }) :
  wpAny (model prog w) A (call (.type "list") [.ref it]) Q E s:=by
 refine callType_codes (Q₁:=fun obj s₁=>obj=.ref s.heap.objs.size/\s₁ = { s with heap:=s.heap.push { cls:=.type "list",data:=.seq #[] } }) PySem.F.called_list (PySem.F.typeCall_list_1 _) PySem.F.entry_list_init
  (code_list_new _ ⟨rfl,rfl⟩) fun obj s₁ h₁=>?_
 obtain⟨rfl,rfl⟩:=h₁
 have hS:(s.heap.push { cls:=.type "list",data:=.seq #[] }).get? s.heap.objs.size=some { cls:=.type "list",data:=.seq #[] }:=AO _ rfl
 have lt1:it < s.heap.objs.size:=let ⟨_,e,_⟩:=hit;AN e
 have lt2:t < s.heap.objs.size:=let ⟨_,e,_⟩:=ht;AN e
 refine⟨⟨_,hS,rfl⟩,PySem.F.args_list_init_2 _ _,init_rev (A:=A.in1) hh (hit.at fun o e=>AF _ e) (let ⟨o,e,r⟩:=ht;⟨o,AF _ e,r⟩) hne hz _ hS (BF lt2) (BF lt1) fun h' tk acc' c' hk hS' hacc=>?_⟩
 exact⟨rfl,hQ h' tk acc' c' (fun b o hi e=>hk b o (AR (AN e)) hi (AF _ e)) hS' hacc⟩
end
theorem yY:bootBuiltins "reversed" = some (.type "reversed"):=by decide +kernel
theorem vals_rev {xs:List V} {its:List Value} {acc:Array Value} (r:qA xs its) (h:ItemsOf (fun i v=>its.toArray[its.toArray.size - 1 - i]? = some v) acc its.toArray.size):qA xs.reverse acc.toList:=by
 have l:=r.length
 refine Wg (by rw[Cp];have:=h.1;simp at this ⊢;omega) fun i x u hx hu=>?_
 have hi:i < xs.length:=by
  have:=(AC.mp hx).1
  rw[Cp] at this
  exact this
 rw[List.getElem?_reverse hi] at hx
 obtain⟨u',hu',ru⟩:=r.get hx
 have e:=h.2 i u (by simpa using hu)
 have e2:its[its.length - 1 - i]? = some u:=by simpa using e
 rw[<- l,hu'] at e2
 rw[<- Ad e2]
 exact ru
section
variable {X : Cx}
def tListRev (K:PySem.W.Frag) (ta:TA):TE:=fun σ H Q=>ta σ H fun vs H1=>∃ p xs,vs=[.ref p]/\SqT K H1 p xs/\xs.length<=1000/\∀ l,H1 l=none->Q (.ref l) (upd H1 l (.lst xs.reverse))
theorem xo (K:PySem.W.Frag) {a:Expr} {ta:TA} {p p2 pos pos2:Pos} (hg:Gl X "list") (hm:X.mg "list" = none) (hg2:Gl X "reversed") (hm2:X.mg "reversed" = none) (ha:PA X [a] ta) (hs:starEach [a] X.env=[(false,eval a X.env)]:=by rfl) (hs2:starEach [.Call (.Name "reversed" p2) [a] [] pos2] X.env=[(false,eval (.Call (.Name "reversed" p2) [a] [] pos2) X.env)]:=by rfl) (hc:X.calm=true:=by rfl) (hK:X.K=K:=by rfl) :
  PE X (.Call (.Name "list" p) [.Call (.Name "reversed" p2) [a] [] pos2] [] pos) (tListRev K ta):=by
 subst hK
 intro pins s σ H Q I h
 refine Call_ (Zo I hg hm Z7 (BH ?_ hs2 rfl))
 rw[hs2]
 show wpAny _ _ (spliced [(false,eval (.Call (.Name "reversed" p2) [a] [] pos2) X.env)]) _ _ s
 refine Calls.spliced_cons ?_
 refine Call_ (Zo I hg2 hm2 yY (BH (thn (ha pos2 pins s σ H _ I h) fun us s1 ⟨vs,H1,I1,r1,q1⟩=>?_) hs rfl))
 obtain⟨p1,xs,e,hq,hz,q⟩:=q1
 subst e
 obtain⟨u1,rfl,r2⟩:=vals1 r1
 cases r2
 obtain⟨its,rv,pl,_⟩:=I1.tuple hq
 have lv:=rv.length
 have plt:p1 < s1.heap.objs.size:=PyProof.Rows.IsTup.lt pl
 have sz:its.toArray.size<=1000:=by simp;omega
 refine Qb pl (by omega) fun tk=>?_
 refine Calls.spliced_nil ?_
 have I2:Inv X pins σ H1 { s1 with heap:=s1.heap.push (revO p1 ((its.toArray.size:Int) - 1)),toks:=tk }:=I1.kept (t':=tk) fun _ _ e=>AF _ e
 have hsz:(s1.heap.push (revO p1 ((its.toArray.size:Int) - 1))).objs.size=s1.heap.objs.size+1:=Bp ..
 refine Wn (s:={ s1 with heap:=s1.heap.push (revO p1 ((its.toArray.size:Int) - 1)),toks:=tk }) (I1.ok.hd hc) (it:=s1.heap.objs.size) (t:=p1) (items:=its.toArray) ⟨_,AO _ rfl,rfl,rfl⟩ (let ⟨o,e,r⟩:=pl;⟨o,AF _ e,r⟩) (AR plt) sz fun h' tk2 acc c' kp he hacc=>?_
 have he':h'.get? (s1.heap.objs.size+1)=some { cls:=.type "list",dict:=none,data:=.seq acc c',slots:=#[] }:=by
  have:({ s1 with heap:=s1.heap.push (revO p1 ((its.toArray.size:Int) - 1)),toks:=tk }:Shared).heap.objs.size=s1.heap.objs.size+1:=hsz
  rw[this] at he
  exact he
 have I3:Inv X pins σ H1 { s1 with heap:=h',toks:=tk2 }:=by
  refine I1.changed (t':=tk2) (ch:=[]) (fun b hb=>by cases hb) fun c o _ e=>kp c o (AR (AN e)) (AF _ e)
 have Hn:H1 (s1.heap.objs.size+1)=none:=I1.hok.fresh (B8 _)
 have I4:Inv X pins σ (upd H1 (s1.heap.objs.size+1) (.lst xs.reverse)) { s1 with heap:=h',toks:=tk2 }:=by
  refine I3.adopt Hn (DQ (B7 I1.sz)) (BF (Au I1.lt)) (fun xx cc e zz=>?_) (fun p hp zz=>?_) ⟨by rw[Cp];exact Br (zu (by omega)),acc.toList,c',vals_rev rv hacc,by simpa using he'⟩
  ·obtain⟨_,q⟩:=I1.cell xx cc e
   exact absurd q.lt (by rw[zz];exact Nat.not_lt.mpr (B8 _))
  ·exact absurd (AN (I1.pin p hp).1) (by rw[zz];exact Nat.not_lt.mpr (B8 _))
 rw[hsz]
 exact⟨.ref (s1.heap.objs.size+1),_,I4,rfl,q _ Hn⟩
open Classical in
def sKPut (td ty tv:TE):TS:=fun D σ H=>tv σ H fun v H1=>td σ H1 fun x H2=>ty σ H2 fun y H3=>∃ a kvs k,x=.ref a/\y=kV k/\H3 a=some (.dK kvs)/\kvs.length < sizeLine/\D.nx σ (upd H3 a (.dK (jX kvs k v)))
theorem yZ {o i value:Expr} {pos pos':Pos} {td ty tv:TE} {j:Nat} (hr:QI j X.A) (ho:PE X o td) (hi:PE X i ty) (hv:PE X value tv) (hs:swapsWith value (some (.Subscript o i pos')) pos.line X.env=pure false) :
  PS X (.Assign [.Subscript o i pos'] value pos) (sKPut td ty tv):=by
 intro pins s σ H D I h
 have hu:X.A.units+64 < cLine:=hr.units
 refine wpAny_Assign_Subscript (thn (hv pins s σ H _ I h) fun r s1 ⟨v,H1,I1,rv,q1⟩=>thn (ho pins s1 σ H1 _ I1 q1) fun u s2 ⟨x,H2,I2,rx,q2⟩=>thn (hi pins s2 σ H2 _ I2 q2) fun iv s3 ⟨y,H3,I3,ry,a,kvs,k,ex,ey,e,l,q3⟩=>?_) hs
 subst ex ey
 obtain rfl:u=Value.ref a:=rx
 exact ye (by omega) I3 (DPut.k e l) ry rv fun s4 I4=>⟨σ,_,I4,q3⟩
end
section
variable {X : Cx}
def rNeNil (K:PySem.W.Frag):R2:=fun x y H Q=>∃ p q xs,x=.ref p/\y=.ref q/\SqL K H p xs/\SqL K H q []/\Q (.bl (!xs.isEmpty)) H
theorem op_neNil (K:PySem.W.Frag) {k:Nat} (hr:QI k X.A) (hK:X.K=K:=by rfl):OpR X (compareOp .NotEq) (rNeNil K):=by
 subst hK
 intro pins s σ H x y v u Q I rx ry h
 obtain⟨p,q,xs,rfl,rfl,h1,h2,hq⟩:=h
 cases rx
 cases ry
 obtain⟨us,r1,pl1,_⟩:=I.list h1
 obtain⟨vs,r2,pl2,_⟩:=I.list h2
 have hu:X.A.units < cLine:=Nat.lt_of_succ_lt (hu_of hr)
 cases r2
 cases xs with
 | nil=>
  cases r1
  exact SeqAt.RcNeAt.lists (e:=fun _=>true) pl1.isList pl2.isList rfl hu (fun j h _=>absurd h (CT _)) X.prog X.w _ _ ⟨.bl _,H,I,rfl,hq⟩
 | cons x xs=>
  have l1:=r1.length
  exact SeqAt.RcNeAt.lists_lengths pl1.isList pl2.isList (by simp at l1 ⊢;intro z;rw[z] at l1;cases l1) hu X.prog X.w _ _ ⟨.bl _,H,I,rfl,hq⟩
end
end L2
namespace L4
open PySem L2
end L4
namespace L2
open PySem PySem.Spec PyProof.Rows
section
variable {prog : Program} {w : World} {A : Around} {R : Result -> Shared -> Prop}
abbrev TK (prog:Program) (w:World):HeapKind prog w (List Key):=tupleKind (zU prog w)
theorem yh {h h':Heap} {ks:List Key} {a b0:Addr} (x:(TK prog w).is h ks a) (hs:∀ b o,b ≠ b0->h.get? b=some o->h'.get? b=some o) (hn:∀ o,h.get? b0=some o->o.cls ≠ .type "tuple"):(TK prog w).is h' ks a:=by
 obtain⟨o,items,n,e,c,r⟩:=x
 exact⟨o,items,n,hs a o (fun z=>by subst z;exact hn o e c) e,c,r⟩
theorem wJ {h h':Heap} {d b0:Addr} {xs:List (List Key×Addr×Value)} (m:h.DictOfH (TK prog w) d xs) (hd:d ≠ b0) (hs:∀ b o,b ≠ b0->h.get? b=some o->h'.get? b=some o) (hn:∀ o,h.get? b0=some o->o.cls ≠ .type "tuple"):h'.DictOfH (TK prog w) d xs:=by
 obtain⟨o,es,ep,ho,hc,hd',he,his,hn'⟩:=m
 exact⟨o,es,ep,hs d o hd ho,hc,hd',he,fun x hx=>yh (his x hx) hs hn,hn'⟩
def Qc (prog:Program) (w:World) (h:Heap) (v:Value) (p:List Key×Addr×Value):Prop:=∃ b,v=.ref b/\h.IsTuple b #[.ref p.2.1,p.2.2]/\(TK prog w).is h p.1 p.2.1
theorem Qc.keep {h h':Heap} {v:Value} {p:List Key×Addr×Value} {b0:Addr} (x:Qc prog w h v p) (hs:∀ b o,b ≠ b0->h.get? b=some o->h'.get? b=some o) (hn:∀ o,h.get? b0=some o->o.cls ≠ .type "tuple"):Qc prog w h' v p:=by
 obtain⟨b,rfl,⟨o,e,c,r⟩,hk⟩:=x
 exact⟨b,rfl,⟨o,hs b o (fun z=>by subst z;exact hn o e c) e,c,r⟩,yh hk hs hn⟩
def XN (acc ps:List (List Key×Addr×Value)):List (List Key×Addr×Value):=ps.foldl (fun acc p=>storedH acc p.1 p.2.1 p.2.2) acc
theorem y0 (acc:List (List Key×Addr×Value)) (k:List Key) (a:Addr) (v:Value):(storedH acc k a v).length<=acc.length+1:=by
 unfold storedH
 split
 ·rw[AB];omega
 ·rw[AH];simp
theorem XO (hh:A.handled=none) (hu:A.units+1 < cLine) (D L it:Addr) (items:Array Value) (hDL:D ≠ L) (hDi:D ≠ it) (hLi:L ≠ it) (ps:List (List Key×Addr×Value)) (hlen:ps.length=items.size) (hsz:ps.length<=sizeLine) :
  ∀ (n i:Nat) (s:Shared) (acc:List (List Key×Addr×Value)),n+i=items.size->acc.length<=i->s.heap.IsListIter it L i->s.heap.IsList L items->s.heap.DictOfH (TK prog w) D acc ->
  (∀ (j:Nat) (p:List Key×Addr×Value) (v:Value),ps[j]? = some p->items[j]? = some v->Qc prog w s.heap v p) ->
  (∀ h' tk,h'.DictOfH (TK prog w) D (XN acc (ps.drop i))->(∀ b o,b ≠ D->b ≠ it->s.heap.get? b=some o->h'.get? b=some o)->R (.ok (.ret .none)) { s with heap:=h',toks:=tk }) ->
  codeAny (model prog w) A (.builtin "dict.update.loop" ⟨[.ref D,.ref it,rawInt i,.none],[]⟩) R s:=by
 intro n
 induction n with
 | zero=>
  intro i s acc hn hacc hit hl hd hp hR
  obtain⟨oi,hoi,hci,_⟩:=id hit
  refine BA qB ?_
  rw[Ax zK _]
  show wpAny _ A.in1 (pyNext (.ref it) >>= _) _ _ s
  refine AA (Bs (show A.in1.handled=none from hh) hit hl (by simp;omega) fun h' eb=>?_)
  show wpAny _ _ (Builtin.Dict.addKeywords D [] >>= _) _ _ _
  refine AA (AD (AD (hR h' s.toks ?_ fun b o _ h2 e=>eb b o h2 e)))
  rw[Dd (by omega)]
  exact wJ hd hDi (fun b o hb e=>eb b o hb e) fun o e=>by rw[hoi] at e;cases e;rw[hci];decide
 | succ n ih=>
  intro i s acc hn hacc hit hl hd hp hR
  have hi:i < items.size:=by omega
  obtain⟨v,hv⟩:∃ v,items[i]? = some v:=⟨items[i],by simp[hi]⟩
  obtain⟨p,hpi⟩:∃ p,ps[i]? = some p:=⟨ps[i]'(by omega),by rw[AG (by omega)]⟩
  refine BA qB ?_
  rw[Ax zK _]
  show wpAny _ A.in1 (pyNext (.ref it) >>= _) _ _ s
  refine AA (Bn hit hl hv fun h1 hit1 hs1=>?_)
  obtain⟨oi,hoi,hci,_⟩:=hit
  have nti:∀ o,s.heap.get? it=some o->o.cls ≠ .type "tuple":=fun o e=>by rw[hoi] at e;cases e;rw[hci];decide
  have hp1:∀ (j:Nat) (p:List Key×Addr×Value) (v:Value),ps[j]? = some p->items[j]? = some v->Qc prog w h1 v p:=fun j p v a b=>(hp j p v a b).keep (b0:=it) (fun b o hb e=>hs1.extBut b o hb e) nti
  obtain⟨b,rfl,hb,hk⟩:=hp1 i p v hpi hv
  obtain⟨ot,e1,e2,nt,e3⟩:=id hb
  have hd1:=wJ hd hDi (fun b o hb e=>hs1.extBut b o hb e) nti
  refine AA (BJ (AA (DV ?_)))
  unfold Builtin.Dict.pairItems
  refine AA (Bm (T := "tuple") ⟨ot,e1,e2⟩ ?_)
  rw[if_pos (by decide)]
  refine AA (CS e1 e3 (AD ?_))
  show wpAny _ _ (holding [.ref p.2.1,p.2.2] (dictSet D (.ref p.2.1) p.2.2)) _ _ _
  refine BJ (wpAny_dictSet_heap (s:={ s with heap:=h1 }) (hsz:=by omega) (C7 hu) hk hd1 fun h2 hd2 hs2=>?_)
  refine AD ⟨BK zK _,?_⟩
  have hl1:h1.IsList L items:=hl.extBut hs1.extBut hLi
  have hle:(storedH acc p.1 p.2.1 p.2.2).length<=i+1:=Ab (y0 ..) (by omega)
  obtain⟨oD,_,_,hoD,hcD,_⟩:=id hd1
  have:=ih (i+1) { s with heap:=h2,toks:=s.toks+(TK prog w).draws p.1 } (storedH acc p.1 p.2.1 p.2.2) (by omega) hle (hit1.extBut hs2.extBut (BD hDi)) (hl1.extBut hs2.extBut (BD hDL)) hd2 (fun j p v a b=>(hp1 j p v a b).keep (b0:=D) (fun b o hb e=>hs2.extBut b o hb e) fun o e=>by
    rw[hoD] at e;cases e;rw[hcD.1];decide) fun h' tk hd' hk'=>?_
  ·simpa using this
  ·refine hR h' tk ?_ fun b o h1 h2 e=>hk' b o h1 h2 (hs2.extBut b o h1 (hs1.extBut b o h2 e))
   have e4:ps.drop i=p :: ps.drop (i+1):=by
    rw[AC] at hpi
    obtain⟨h5,h6⟩:=hpi
    rw[<- h6]
    exact B3 h5
   unfold XN
   rw[e4,B5]
   exact hd'
theorem Q2 {E:Value->Shared->Prop} {Q:Value->Shared->Prop} {s:Shared} {L:Addr} {o:Obj} {items:Array Value} {k:Nat} {ps:List (List Key×Addr×Value)} (hh:A.handled=none) (hu:A.units+2 < cLine) (hx:s.heap.get? L=some o) (hc:o.cls=.type "list") (hdat:o.data=.seq items k) (hdn:o.dict=none)
  (hlen:ps.length=items.size) (hsz:ps.length<=sizeLine) (hp:∀ (j:Nat) (p:List Key×Addr×Value) (v:Value),ps[j]? = some p->items[j]? = some v->Qc prog w s.heap v p)
  (h:∀ h' tk,h'.DictOfH (TK prog w) s.heap.objs.size (XN [] ps)->(∀ b o,s.heap.get? b=some o->h'.get? b=some o)->Q (.ref s.heap.objs.size) { s with heap:=h',toks:=tk }) :
  wpAny (model prog w) A (call (.type "dict") [.ref L]) Q E s:=by
 refine callType_codes (Q₁:=fun obj s₁=>obj=.ref s.heap.objs.size/\s₁ = { s with heap:=s.heap.push { cls:=.type "dict",data:=.dict #[] } }) PySem.F.kt_called_dict (Ee _) PySem.F.entry_dict_init (kt_code_dict_new _ ⟨rfl,rfl⟩) ?_
 rintro obj s₁ ⟨rfl,rfl⟩
 have hnew:(s.heap.push { cls:=.type "dict",data:=.dict #[] }).DictOf (zU prog w) s.heap.objs.size []:=Heap.DictOf.new s.heap
 have hnewH:(s.heap.push { cls:=.type "dict",data:=.dict #[] }).DictOfH (TK prog w) s.heap.objs.size []:=⟨_,#[],0,AO _ rfl,⟨rfl,rfl,rfl⟩,rfl,rfl,fun x hx=>(by cases hx),.nil⟩
 have hx1:=AF { cls:=.type "dict",data:=.dict #[] } hx
 have Llt:L < s.heap.objs.size:=AN hx
 refine⟨hnew.typeIs,PySem.F.args_dict_init_2 _ _,?_⟩
 unfold Builtin.«dict.__init__»
 refine AA ?_
 unfold Builtin.Dict.selfAndRest
 refine AA (Dv hnew.typeIs ?_)
 show wpAny _ _ (pure (s.heap.objs.size,[Value.ref L])) _ _ _
 refine AD ?_
 show wpAny _ _ (Builtin.Dict.updateFrom "dict.__init__" s.heap.objs.size (.ref L) [] .none) _ _ _
 unfold Builtin.Dict.updateFrom
 refine AA (Bm (T := "list") ⟨o,hx1,hc⟩ ?_)
 rw[if_pos (by decide)]
 refine AA (Jt hx1 hc hdat hdn (show A.in1.in1.handled=none from hh) fun h' tk kp=>?_)
 rw[if_pos (by rfl)]
 have hL':h'.IsList L items:=⟨o,kp _ _ hx1,hc,k,hdat⟩
 refine AA (Bd (AA (Bo hL' ?_)))
 have Dget:∃ od,h'.get? s.heap.objs.size=some od:=⟨_,kp _ _ (AO _ rfl)⟩
 have Dlt:s.heap.objs.size < h'.objs.size:=let ⟨_,e⟩:=Dget;AN e
 refine AD ⟨BK zK _,?_⟩
 have it0:(h'.push { cls:=.type "list_iterator",data:=.fields #[.ref L,.int 0 0] }).IsListIter h'.objs.size L 0:=⟨_,AO _ rfl,rfl,rfl⟩
 have hd':(h'.push { cls:=.type "list_iterator",data:=.fields #[.ref L,.int 0 0] }).DictOfH (TK prog w) s.heap.objs.size []:=by
  obtain⟨od,es,ep,e,h1,h2,h3,_,h5⟩:=hnewH
  exact⟨od,es,ep,AF _ (kp _ _ e),h1,h2,h3,(fun x hx=>by cases hx),h5⟩
 refine XO (A:=A.in1) (show A.in1.handled=none from hh) (show A.units+1+1 < cLine from hu) s.heap.objs.size L h'.objs.size items (BF Llt) (AR Dlt) (AR (DJ Llt Dlt)) ps hlen hsz items.size 0 { s with heap:=h'.push { cls:=.type "list_iterator",data:=.fields #[.ref L,.int 0 0] },toks:=tk } [] rfl (AK _) it0 (hL'.push _) hd' (fun j p v a b=>?_) fun h2 tk2 hd2 hk2=>?_
 ·obtain⟨bb,e1,⟨ot,e2,r⟩,⟨o3,i3,n3,e3,r3⟩⟩:=hp j p v a b
  exact⟨bb,e1,⟨ot,AF _ (kp _ _ (AF _ e2)),r⟩,⟨o3,i3,n3,AF _ (kp _ _ (AF _ e3)),r3⟩⟩
 ·refine⟨rfl,h h2 tk2 ?_ fun b ob e=>hk2 b ob (AR (AN e)) (AR (DJ (AN e) Dlt)) (AF _ (kp _ _ (AF _ e)))⟩
  rw[DP] at hd2
  exact hd2
end
def y4 (H:Hp):List V->List (List Key×V)->Prop:=Paired fun x p=>∃ b kb,x=.ref b/\H b=some (.tup [.ref kb,p.2])/\H kb=some (.tup (p.1.map kV))
def putAllT (kvs ps:List (List Key×V)):List (List Key×V):=ps.foldl (fun acc p=>jX acc p.1 p.2) kvs
theorem prsT_at {P:Program} {w:World} {H:Hp} {h:Heap} (ok:HOk P w H h) {xs:List V} {ps:List (List Key×V)} (r:y4 H xs ps):∀ {us:List Value},qA xs us->∃ rs:List (List Key×Addr×Value),KT H ps rs/\∀ (j:Nat) (p:List Key×Addr×Value) (v:Value),rs[j]? = some p->us[j]? = some v->Qc P w h v p:=by
 unfold y4 at r
 induction r with
 | nil=>
  intro us rv
  exact⟨[],.nil,fun j p v e=>by simp at e⟩
 | @cons x p xs ps hx t ih=>
  intro us rv
  cases rv with
  | @cons _ u _ us hu rv=>
   obtain⟨rs,r1,r2⟩:=ih rv
   obtain⟨b,kb,rfl,hb,hkb⟩:=hx
   obtain⟨_,its,ri,o,e1,e2,⟨n,e3⟩,_⟩:=(show qI P w H h b (.tup [.ref kb,p.2]) from ok b _ hb)
   cases ri with
   | @cons _ ku _ _ hk ri=>
    cases ri with
    | @cons _ vu _ _ hv ri=>
     cases ri
     obtain rfl:ku=Value.ref kb:=hk
     refine⟨(p.1,kb,vu) :: rs,.cons ⟨rfl,hkb,hv⟩ r1,fun j q v ej ev=>?_⟩
     cases j with
     | zero=>
      cases (Ad ej)
      cases (Ad ev)
      obtain rfl:u=Value.ref b:=hu
      exact⟨b,rfl,⟨o,e1,e2,n,e3⟩,Jr ok hkb⟩
     | succ j=>exact r2 j q v ej ev
theorem put_allT {H:Hp} {ps:List (List Key×V)} {rs:List (List Key×Addr×Value)} (r:KT H ps rs):∀ {acc:List (List Key×V)} {bcc:List (List Key×Addr×Value)},KT H acc bcc->KT H (putAllT acc ps) (XN bcc rs):=by
 unfold KT at r
 induction r with
 | nil=>exact fun q=>q
 | @cons p q ps qs h t ih=>
  intro acc bcc ra
  obtain⟨h1,h2,h3⟩:=h
  show KT H (putAllT (jX acc p.1 p.2) ps) (XN (storedH bcc q.1 q.2.1 q.2.2) qs)
  rw[<- h1]
  exact ih (KT.put ra p.1 h2 h3)
theorem Z0:∀ (ps acc:List (List Key×V)),(putAllT acc ps).length<=acc.length+ps.length
 | [],acc=>AK _
 | p :: ps,acc=>by
  have h1:=Z0 ps (jX acc p.1 p.2)
  have h2:=Zc acc p.1 p.2
  show (putAllT (jX acc p.1 p.2) ps).length<=_
  rw[Aq];omega
section
variable {X : Cx}
def tDictPT (ta:TA):TE:=fun σ H Q=>ta σ H fun vs H1=>∃ p xs ps,vs=[.ref p]/\H1 p=some (.lst xs)/\y4 H1 xs ps/\∀ D,H1 D=none->Q (.ref D) (upd H1 D (.dT (putAllT [] ps)))
theorem XQ {k:Nat} (hr:QI k X.A) {a:Expr} {ta:TA} {p pos:Pos} (hg:Gl X "dict") (hm:X.mg "dict" = none) (ha:PA X [a] ta) (hs:starEach [a] X.env=[(false,eval a X.env)]:=by rfl) (hc:X.calm=true:=by rfl) :
  PE X (.Call (.Name "dict" p) [a] [] pos) (tDictPT ta):=by
 intro pins s σ H Q I h
 have hu:X.A.units+64 < cLine:=hr.units
 refine Call_ (Zo I hg hm Jv (BH (thn (ha pos pins s σ H _ I h) fun us s1 ⟨vs,H1,I1,r1,q1⟩=>?_) hs rfl))
 obtain⟨p1,xs,ps,e,hq,hps,q⟩:=q1
 subst e
 obtain⟨u1,rfl,r2⟩:=vals1 r1
 cases r2
 obtain⟨hz,its,n,rv,eo⟩:=(show qI X.prog X.w H1 s1.heap p1 (.lst xs) from I1.hok p1 _ hq)
 obtain⟨rs,rk,hpa⟩:=prsT_at I1.hok hps rv
 have a1:ps.length=rs.length:=Al rk
 have a2:=Al hps
 have l1:rs.length=its.toArray.size:=by
  have a3:=rv.length
  simp;omega
 refine Q2 (ps:=rs) (I1.ok.hd hc) (by omega) eo rfl rfl rfl l1 (by omega) (fun j p v a b=>hpa j p v a (by simpa using b)) fun h' tk hd' kp=>?_
 have hb:(s1.heap.objs.size == sysModules)=false:=beq_eq_false_iff_ne.mpr (BD (AR I1.big))
 have hl:(putAllT [] ps).length<=sizeLine:=by
  have:=Z0 ps []
  simp at this;omega
 have Hn:H1 s1.heap.objs.size=none:=I1.hok.fresh (AK _)
 obtain⟨od,es,ep,f1,f2,f3,f4,_,f6⟩:=hd'
 exact⟨.ref s1.heap.objs.size,_,I1.laid (a:=s1.heap.objs.size) (o:=.dT (putAllT [] ps)) (t':=tk) kp (AK _) ⟨hl,hb,_,(put_allT rk .nil).keeps fun b ys e=>by rw[zI (zH e Hn)];exact e,od,es,ep,f1,f2,f3,f4,f6⟩,rfl,q _ Hn⟩
theorem hu1 {k:Nat} {A:Around} (hr:QI k A):A.units+1 < cLine:=by
 have:A.units+64 < cLine:=hr.units
 omega
def rTNotIn:R2:=fun y x H Q=>∃ a b kvs k,x=.ref a/\y=.ref b/\H a=some (.dT kvs)/\H b=some (.tup (k.map kV))/\Q (.bl (!(jo kvs k).isSome)) H
theorem yi {j:Nat} (hr:QI j X.A):OpR X (compareOp .NotIn) rTNotIn:=by
 intro pins s σ H x y v u Q I rx ry h
 obtain⟨a,b,kvs,k,rfl,rfl,ha,hb,q⟩:=h
 have hu:X.A.units+64 < cLine:=hr.units
 obtain rfl:u=Value.ref a:=ry
 exact d_notIn (by omega) I (Js.t ha hb) rx fun s' I'=>⟨.bl _,H,I',rfl,q⟩
end
open PySem
abbrev Rs (xs:Array Nat):Prop:=xs.toList.Pairwise (· < ·)
def wK (xs:List Nat) (j:Nat):Nat:=(xs.filter fun x=>decide (x < j)).length
theorem YI (xs:List Nat) (j:Nat):wK xs j<=xs.length:=CU _ _
theorem Ze:∀ (xs:List Nat) (j i:Nat) (x:Nat),xs.Pairwise (· < ·)->xs[i]? = some x->(x < j ↔ i < wK xs j)
 | [],j,i,x,_,h=>by simp at h
 | y :: xs,j,0,x,hp,h=>by
  obtain rfl:y=x:=by simpa using h
  unfold wK
  rw[CP]
  by_cases hy:y < j
  ·simp[hy]
  ·have:xs.filter (fun x=>decide (x < j))=[]:=by
    rw[List.filter_eq_nil_iff]
    intro z hz
    have:=(Cv.mp hp).1 z hz
    simp
    omega
   simp[hy,this]
 | y :: xs,j,i+1,x,hp,h=>by
  have h':xs[i]? = some x:=by simpa using h
  have ih:=Ze xs j i x (Cv.mp hp).2 h'
  have hyx:=(Cv.mp hp).1 x (AI h')
  unfold wK at ih ⊢
  rw[CP]
  by_cases hy:y < j
  ·simp only[hy,decide_true,if_true,List.length_cons]
   rw[ih]
   omega
  ·simp only[hy,decide_false,Bool.false_eq_true,if_false]
   constructor
   ·intro hx
    omega
   ·intro hi
    have:=ih.mpr (by omega)
    omega
theorem Wo {xs:Array Nat} {j:Nat} (hr:Rs xs):∀ (fuel lo hi:Nat),hi - lo<=fuel->lo<=wK xs.toList j->wK xs.toList j<=hi->hi<=xs.size->SetTable.below.go xs j fuel lo hi=wK xs.toList j
 | 0,lo,hi,h1,h2,h3,h4=>by
  unfold SetTable.below.go
  omega
 | fuel+1,lo,hi,h1,h2,h3,h4=>by
  unfold SetTable.below.go
  by_cases hlt:lo < hi
  ·rw[if_pos hlt]
   have hm:(lo+hi) / 2 < xs.size:=by omega
   have hx:xs.toList[(lo+hi) / 2]? = some xs[(lo+hi) / 2]:=by simp[hm]
   have hc:=Ze xs.toList j _ _ hr hx
   have eg:xs.getD ((lo+hi) / 2) j=xs[(lo+hi) / 2]:=by simp[Array.getD,hm]
   dsimp only
   rw[eg]
   by_cases hy:xs[(lo+hi) / 2] < j
   ·rw[if_pos hy]
    have:=hc.mp hy
    exact Wo hr fuel _ _ (by omega) (by omega) h3 h4
   ·rw[if_neg hy]
    have:¬ (lo+hi) / 2 < wK xs.toList j:=fun z=>hy (hc.mpr z)
    exact Wo hr fuel _ _ (by omega) h2 (by omega) (by omega)
  ·rw[if_neg hlt]
   omega
theorem Qr {xs:Array Nat} (hr:Rs xs) (j:Nat):SetTable.below xs j=wK xs.toList j:=by
 unfold SetTable.below
 have:=YI xs.toList j
 exact Wo hr _ _ _ (by omega) (A9 _) (by simpa using this) (AK _)
theorem at_below {xs:Array Nat} (hr:Rs xs) {j:Nat}:xs[SetTable.below xs j]? = some j ↔ j ∈ xs.toList:=by
 rw[Qr hr]
 constructor
 ·intro h
  have:xs.toList[wK xs.toList j]? = some j:=by simpa using h
  exact AI this
 ·intro h
  obtain⟨i,hi⟩:=Bc.mp h
  have h1:¬ i < wK xs.toList j:=fun z=>A6 _ ((Ze _ _ _ _ hr hi).mpr z)
  have hil:=(AC.mp hi).1
  have hcl:wK xs.toList j<=i:=by omega
  have hc:wK xs.toList j < xs.toList.length:=by omega
  have hx:xs.toList[wK xs.toList j]? = some xs.toList[wK xs.toList j]:=AG hc
  have h2:¬ xs.toList[wK xs.toList j] < j:=fun z=>A6 _ ((Ze _ _ _ _ hr hx).mp z)
  have e:wK xs.toList j=i:=by
   rcases Nat.lt_or_eq_of_le hcl with h3 | h3
   ·exfalso
    have:=Co.mp hr (wK xs.toList j) i hc hil h3
    have ei:xs.toList[i]=j:=(AC.mp hi).2
    omega
   ·exact h3
  rw[e]
  simpa using hi
theorem wL {xs:Array Nat} (hr:Rs xs) {i x:Nat} (h:xs[i]? = some x):SetTable.below xs (x+1)=i+1:=by
 rw[Qr hr]
 have hx:xs.toList[i]? = some x:=by simpa using h
 have h1:=(Ze _ (x+1) _ _ hr hx).mp (BM _)
 by_cases h2:i+1 < xs.toList.length
 ·have hy:xs.toList[i+1]? = some xs.toList[i+1]:=AG h2
  have h3:¬ xs.toList[i+1] < x+1:=by
   have hil:=(AC.mp hx).1
   have:=Co.mp hr i (i+1) hil h2 (BM _)
   have ei:xs.toList[i]=x:=(AC.mp hx).2
   omega
  have hn:¬ i+1 < wK xs.toList (x+1):=fun z=>h3 ((Ze _ (x+1) _ _ hr hy).mpr z)
  omega
 ·have:=YI xs.toList (x+1)
  omega
theorem Qs {α:Type} (xs:Array α) (p:Nat) (x:α):(SetTable.insertAt xs p x).toList=xs.toList.take p++x :: xs.toList.drop p:=by
 unfold SetTable.insertAt
 simp
 exact C3 (by simp)
theorem wM {xs:Array Nat} (hr:Rs xs) {j:Nat} (hj:j ∉ xs.toList):Rs (SetTable.insertAt xs (SetTable.below xs j) j):=by
 unfold Rs
 rw[Qs,Qr hr]
 have hle:=YI xs.toList j
 rw[B9]
 refine⟨hr.sublist (List.take_sublist _ _),?_,?_⟩
 ·rw[Cv]
  refine⟨fun y hy=>?_,hr.sublist (List.drop_sublist _ _)⟩
  obtain⟨i,hi⟩:=Bc.mp hy
  rw[List.getElem?_drop] at hi
  have h1:¬ y < j:=fun z=>by
   have:=(Ze _ j _ _ hr hi).mp z
   omega
  have h2:y ≠ j:=fun z=>hj (z ▸ AI hi)
  omega
 ·intro a ha b hb
  obtain⟨i,hi⟩:=Bc.mp ha
  have hil:=(AC.mp hi).1
  rw[An] at hil
  rw[List.getElem?_take_of_lt (by omega)] at hi
  have haj:a < j:=(Ze _ j _ _ hr hi).mpr (by omega)
  rcases AV.mp hb with rfl | hb
  ·exact haj
  ·obtain⟨i',hi'⟩:=Bc.mp hb
   rw[List.getElem?_drop] at hi'
   have h1:¬ b < j:=fun z=>by
    have:=(Ze _ j _ _ hr hi').mp z
    omega
   omega
structure Z1 (t:SetTable) (b:Bool):Prop where
 dum:t.dummies = #[]
 rs:Rs t.place
 led:t.led=b
theorem Z1.plainOff {t:SetTable} {b:Bool} (h:Z1 t b):Z1 { t with plain:=false } b:=⟨h.dum,h.rs,h.led⟩
theorem rs_range (n:Nat):Rs (Array.range n):=by
 unfold Rs
 rw[Array.toList_range]
 exact Bw
theorem Z1.standIn {t:SetTable} {b:Bool} (h:Z1 t b) (n:Nat):Z1 (t.standIn n) b:=⟨rfl,rs_range n,h.led⟩
theorem Z1.fresh (b:Bool):Z1 (.fresh 0 0 b) b:=⟨rfl,List.Pairwise.nil,rfl⟩
theorem y8 (j:Nat):SetTable.has #[] j=false:=by
 unfold SetTable.has
 simp
theorem xp {t:SetTable} {b:Bool} (h:Z1 t b) {j:Nat} (e:t.slot j=.empty):j ∉ t.place.toList:=fun hm=>by
 unfold SetTable.slot at e
 have:=(at_below h.rs).mpr hm
 dsimp only at e
 rw[this] at e
 simp at e
theorem Ya {t:SetTable} {b:Bool} (h:Z1 t b) {j:Nat}:t.slot j ≠ .dummy:=fun e=>by
 unfold SetTable.slot at e
 rw[h.dum,y8] at e
 dsimp only at e
 split at e
 ·cases e
 ·simp at e
theorem XR (t:SetTable) (p:SetTable.Probe):(t.advance p).dummy=p.dummy:=by
 unfold SetTable.advance
 split <;> rfl
theorem wN {t:SetTable} {b:Bool} (h:Z1 t b) {f:Nat->Int} {x:Int}:∀ (fuel:Nat) (p:SetTable.Probe) (j:Nat) (d:Option Nat),p.dummy=none->SetTable.probe.go t f x fuel p=some (.empty j d)->d=none/\t.slot j=.empty
 | 0,p,j,d,_,e=>by
  unfold SetTable.probe.go at e
  cases e
 | fuel+1,p,j,d,hp,e=>by
  unfold SetTable.probe.go at e
  cases hs:t.slot p.j with
  | empty=>
   rw[hs] at e
   dsimp only at e
   injection e with e
   injection e with e1 e2
   rw[<- e1,<- e2]
   exact⟨hp,hs⟩
  | dummy=>exact absurd hs (Ya h)
  | live i=>
   rw[hs] at e
   dsimp only at e
   split at e
   ·cases e
   ·exact wN h fuel _ j d (by rw[XR];exact hp) e
theorem XS {t:SetTable} {b:Bool} (h:Z1 t b) {x:Int} {sl:Nat} {wd:Bool} (e:t.freeSlot x=some (sl,wd)):wd=false/\sl ∉ t.place.toList:=by
 unfold SetTable.freeSlot SetTable.probe at e
 split at e
 ·rename_i j d hg
  obtain⟨rfl,hs⟩:=wN h _ _ j d rfl hg
  injection e with e
  injection e with e1 e2
  rw[<- e1,<- e2]
  exact⟨rfl,xp h hs⟩
 ·cases e
theorem Z1.put {t:SetTable} {b:Bool} (h:Z1 t b) {sl:Nat} (hs:sl ∉ t.place.toList):Z1 (t.put sl).1 b:=by
 unfold SetTable.put
 refine⟨?_,wM h.rs hs,h.led⟩
 dsimp only
 rw[h.dum,y8]
 rfl
theorem Z1.orStandIn {t:SetTable} {b:Bool} (h:Z1 t b) (n:Nat):Z1 (t.orStandIn n) b:=by
 unfold SetTable.orStandIn
 split
 ·exact h
 ·exact h.standIn n
theorem XT {t:SetTable} {b:Bool} (h:Z1 t b) (es:Array (Int×Value)) (x:Int) (v:Value):Z1 (layNew t es x v).2.1 b:=by
 unfold layNew
 split
 ·rename_i sl wd hf
  exact (h.put (XS h hf).2).orStandIn _
 ·exact h.standIn _
theorem yj {f:Nat->Option Nat}:∀ (n:Nat),(((List.range n).filterMap fun j=>(f j).map (j,·)).map (·.1)).Pairwise (· < ·):=by
 intro n
 have e:(((List.range n).filterMap fun j=>(f j).map (j,·)).map (·.1))=(List.range n).filter fun j=>(f j).isSome:=by
  induction List.range n with
  | nil=>rfl
  | cons a l ih=>
   rw[Cq,CP]
   cases hf:f a with
   | none=>simpa using ih
   | some k=>simpa using ih
 rw[e]
 exact Cd _ Bw
theorem Yb {t:SetTable} {b:Bool} (h:Z1 t b) (es:Array (Int×Value)) (w:Nat):Z1 (relayAll t es w).2.1 b:=by
 unfold relayAll
 split
 ·rename_i t' order hr
  dsimp only
  split
  ·unfold SetTable.relaid SetTable.laid at hr
   cases ho:SetTable.layClean (SetTable.sizeAbove w - 1) (es.map (·.1)) with
   | none=>
    rw[ho] at hr
    cases hr
   | some owner=>
    rw[ho] at hr
    have hr':=Ad hr
    have e1:_=t':=BQ Prod.fst hr'
    rw[<- e1]
    exact⟨rfl,yj (f:=fun j=>owner.getD j none) _,h.led⟩
  ·exact h.standIn _
 ·exact h.standIn _
section
variable {prog : Program} {w : World} {K : Type} [DecidableEq K] {knd : KeyKind prog w K} {A : Around} {E : Value -> Shared -> Prop} {s : Shared}
def SetT (knd:KeyKind prog w K) (h:Heap) (a:Addr) (S:K->Bool) (n:Nat) (b:Bool):Prop:=
 ∃ o es ep t,h.get? a=some o/\o.ExactSet/\o.data=.set es ep t/\ElemsOf knd es.toList/\(∀ k,S k=true ↔ ∃ e ∈ es.toList,knd.is k e.2=true)/\es.size < scanBound/\t.fits es.size=true/\es.size=n/\Z1 t b
theorem wO {h:Heap} {a:Addr} {o:Obj} {es:Array (Int×Value)} {ep:Nat} {t:SetTable} {b:Bool} (ho:h.get? a=some o) (hex:o.ExactSet) (hd:o.data=.set es ep t)
  {es':Array (Int×Value)} {t':SetTable} {S':K->Bool} (hel:ElemsOf knd es'.toList) (hmem:∀ k,S' k=true ↔ ∃ e ∈ es'.toList,knd.is k e.2=true) (hb:es'.size < scanBound) (hf:t'.fits es'.size=true) (ht:Z1 t' b) :
  (h.update a (Obj.putSet es' t')).get? a=some { o with data:=.set es' (ep+1) t' }/\SetT knd (h.update a (Obj.putSet es' t')) a S' es'.size b:=by
 have hg:(h.update a (Obj.putSet es' t')).get? a=some { o with data:=.set es' (ep+1) t' }:=by
  have:=Aj (Obj.putSet es' t') ho (by rw[EE es' t' hd];rfl)
  rw[EE es' t' hd] at this;exact this
 exact⟨hg,_,es',ep+1,t',hg,hex,rfl,hel,hmem,hb,hf,rfl,ht⟩
theorem YJ {g:Bool->Sem Unit} (hg:∀ (b:Bool) (s₁:Shared) (Q':Unit->Shared->Prop),Q' () s₁->wpAny (model prog w) A (g b) Q' E s₁)
  {a:Addr} {o:Obj} {es:Array (Int×Value)} {ep:Nat} {t:SetTable} (ho:s.heap.get? a=some o) (hex:o.ExactSet) (hd:o.data=.set es ep t)
  {es1:Array (Int×Value)} {t2:SetTable} {S':K->Bool} {bb:Bool} (hel1:ElemsOf knd es1.toList) (hmem1:∀ k',S' k'=true ↔ ∃ e ∈ es1.toList,knd.is k' e.2=true)
  (hb1:es1.size < scanBound) (hf2:t2.fits es1.size=true) (ht2:Z1 t2 bb) {wasDummy:Bool} {R:Option Bool->Shared->Prop}
  (h:∀ h',Heap.SameBut a s.heap h'->SetT knd h' a S' es1.size bb->R (some true) { s with heap:=h' }) :
  wpAny (model prog w) A (do
    storeSet a es1 t2
    if (!wasDummy && t2.tooFull)=true then do
      g (relayAll t2 es1 (SetTable.grown es1.size)).2.2
      storeSet a (relayAll t2 es1 (SetTable.grown es1.size)).1 (relayAll t2 es1 (SetTable.grown es1.size)).2.1
      pure (some true)
     else pure (some true)) R E s:=by
 refine AA (De ho hd ?_ (CK hb1))
 obtain⟨ho1,hS1⟩:=wO (knd:=knd) ho hex hd hel1 hmem1 hb1 hf2 ht2
 have hsb1:=A5 s.heap a (Obj.putSet es1 t2)
 split
 ·have hp:=relayAll_perm t2 es1 (SetTable.grown es1.size)
  have hfr:=relayAll_fits t2 es1 (SetTable.grown es1.size)
  have htr:=Yb ht2 es1 (SetTable.grown es1.size)
  generalize hRl:relayAll t2 es1 (SetTable.grown es1.size)=Rl at hp hfr htr ⊢
  obtain⟨es2,t3,gave2⟩:=Rl
  dsimp only at hp hfr htr ⊢
  have hel2:ElemsOf knd es2.toList:=hel1.perm hp
  have hmem2:∀ k',S' k'=true ↔ ∃ e ∈ es2.toList,knd.is k' e.2=true:=fun k'=>(hmem1 k').trans ⟨fun ⟨e,he,q⟩=>⟨e,hp.mem_iff.mpr he,q⟩,fun ⟨e,he,q⟩=>⟨e,hp.mem_iff.mp he,q⟩⟩
  have hsz:es2.size=es1.size:=by rw[<- Av,hp.length_eq,Av]
  have hb2:es2.size < scanBound:=by rw[hsz];exact hb1
  refine AA (hg _ _ _ ?_)
  refine AA (De ho1 rfl ?_ (CK hb2))
  obtain⟨_,hS2⟩:=wO (knd:=knd) ho1 hex rfl hel2 hmem2 hb2 hfr htr
  rw[hsz] at hS2
  exact AD (h _ (hsb1.trans (A5 _ a _)) hS2)
 ·exact AD (h _ hsb1 hS1)
theorem setAddT {a:Addr} {S:K->Bool} {n:Nat} {bb:Bool} {k:K} {x:Value} {Q:Bool->Shared->Prop} (hkey:knd.is k x=true) (hsc:x.scannable=true) (hS:SetT knd s.heap a S n bb)
  (hroom:n+1 < scanBound)
  (h:∀ h',Heap.SameBut a s.heap h'->SetT knd h' a (fun k'=>S k' || decide (k'=k)) (if S k then n else n+1) bb->Q (!S k) { s with heap:=h' }) :
  wpAny (model prog w) A (setAddHashed a x (knd.hash k)) Q E s:=by
 obtain⟨o,es,ep,t,ho,hex,hd,hel,hmem,hb,hf,hn,ht⟩:=hS
 have hb1:es.size+1 < scanBound:=by rw[hn];exact hroom
 unfold setAddHashed setAddHashedIn
 refine BJ (AA (A1 ho hd hf ?_))
 dsimp only
 rw[byScan_of hsc hb hel]
 simp only[↓reduceIte]
 unfold setAddByScan
 refine AA ?_
 refine AA (Bd ?_)
 refine AA (wpAny_setScan_of hkey ho hd hf hel ?_)
 cases hr:List.findIdx? (fun e=>knd.is k e.2) es.toList with
 | some j=>
  dsimp only
  obtain⟨hj,hpj,_⟩:=D4.mp hr
  have hSk:S k=true:=(hmem k).mpr ⟨es.toList[j],Ci hj,hpj⟩
  refine AD (AD ?_)
  have e:s = { s with heap:=s.heap }:=by cases s;rfl
  have:=h s.heap (Heap.SameBut.refl a s.heap) ⟨o,es,ep,t,ho,hex,hd,hel,fun k'=>by
   rw[Bool.or_eq_true,decide_eq_true_eq,<- hmem k']
   exact⟨fun hk=>hk.elim id (fun e=>e ▸ hSk),.inl⟩,hb,hf,by rw[hSk];exact hn,ht⟩
  rw[hSk] at this;rw[e];exact this
 | none=>
  dsimp only
  have hSk:S k=false:=by
   cases hk:S k with
   | false=>rfl
   | true=>obtain⟨e,he,hp⟩:=(hmem k).mp hk;have:=List.findIdx?_eq_none_iff.mp hr e he;rw[hp] at this;exact Bool.noConfusion this
  have hgw:∀ (b:Bool) {s₁:Shared} {Q':Unit->Shared->Prop},Q' () s₁->wpAny (model prog w) A (match b with | true=>rule "set.scan.the-table-gave-way" | false=>pure ()) Q' E s₁:=
   fun b s₁ Q' hq=>by cases b <;> first | exact AD hq | exact Bd hq
  have hperm:=layNew_perm t es (knd.hash k) x
  have hfits:=layNew_fits t es (knd.hash k) x
  have hti:=XT ht es (knd.hash k) x
  generalize hL:layNew t es (knd.hash k) x=L at hperm hfits hti ⊢
  obtain⟨es1,t1,wasDummy,gave⟩:=L
  dsimp only at hperm hfits hti ⊢
  rw[ED] at hperm
  have hel1:ElemsOf knd es1.toList:=(hel.push hkey hsc).perm hperm
  have hmem1:∀ k',(S k' || decide (k'=k))=true ↔ ∃ e ∈ es1.toList,knd.is k' e.2=true:=mem_push_iff hkey hmem hperm
  have hb1':es1.size < scanBound:=by rw[<- Av,hperm.length_eq,AH,Av];simpa using hb1
  refine AA (hgw _ ?_)
  have hsz1:es1.size=n+1:=by rw[<- Av,hperm.length_eq,AH,Av,hn];rfl
  have hend:∀ h',Heap.SameBut a s.heap h'->SetT knd h' a (fun k'=>S k' || decide (k'=k)) es1.size bb->Q true { s with heap:=h' }:=by
   intro h' hsb hS';have:=h h' hsb;rw[hSk] at this;rw[hsz1] at hS';exact this hS'
  split
  ·refine AA ?_
   rw[hashByValue_scannable 8 hsc]
   refine AD ?_
   refine YJ (bb:=bb) ?_ ho hex hd hel1 hmem1 hb1' ?_ ?_ ?_
   ·intro b s₁ Q' hq;cases b <;> first | exact AD hq | exact Bd hq
   ·split
    ·exact hfits
    ·exact SetTable.fits_plain_off hfits
   ·split
    ·exact hti
    ·exact hti.plainOff
   ·intro h' hsb hS';dsimp only;exact AD (hend h' hsb hS')
  ·refine AA (AD ?_)
   simp only[↓reduceIte]
   refine YJ (bb:=bb) ?_ ho hex hd hel1 hmem1 hb1' hfits hti ?_
   ·intro b s₁ Q' hq;cases b <;> first | exact AD hq | exact Bd hq
   ·intro h' hsb hS';dsimp only;exact AD (hend h' hsb hS')
end
def tt0 (mask:Nat) (P:List Nat):SetTable:={ mask:=mask,place:=P.toArray,dummies:=#[],finger:=0,led:=true,moves:=0,plain:=true }
def xq:Nat->Nat->List (List Nat)
 | 0,_=>[[]]
 | hi+1,n=>xq hi n++(if n=0 then [] else (xq hi (n - 1)).map (·++[hi]))
theorem Wp:∀ (hi n:Nat),[] ∈ xq hi n
 | 0,n=>AE.mpr rfl
 | hi+1,n=>Ah _ (Wp hi n)
theorem Jc:∀ (hi n:Nat) (P:List Nat),P.Pairwise (· < ·)->(∀ p ∈ P,p < hi)->P.length<=n->P ∈ xq hi n
 | 0,n,P,_,hl,_=>by
  cases P with
  | nil=>exact Wp 0 n
  | cons p P=>exact absurd (hl p (AW ..)) (CT _)
 | hi+1,n,P,hp,hl,hn=>by
  rcases C9 P with rfl | ⟨Q,q,rfl⟩
  ·exact Wp _ _
  ·rw[CV] at *
   rw[B9] at hp
   obtain⟨h1,_,h3⟩:=hp
   have hq:=hl q (by simp)
   rw[AH] at hn
   have hn':Q.length+1<=n:=hn
   by_cases e:q=hi
   ·refine Aa _ ?_
    rw[if_neg (by omega),e]
    exact AM.mpr ⟨Q,Jc hi (n - 1) Q h1 (fun p hp=>by have:=h3 p hp q (by simp);omega) (by omega),rfl⟩
   ·refine Ah _ (Jc hi n _ ?_ (fun p hp=>?_) (by rw[AH];exact hn))
    ·rw[B9]
     exact⟨h1,C0 _ _,h3⟩
    ·rcases AQ.mp hp with h | h
     ·have:=h3 p h q (by simp)
      omega
     ·rw[AE.mp h]
      omega
theorem free7':((xq 8 4).all fun P=>(List.range 9).all fun d=>match (tt0 7 P).freeSlot (d:Int) with
  | some (sl,_)=>decide (sl < 8)
  | none=>false)=true:=by decide +kernel
theorem free31':((xq 9 9).all fun P=>(List.range 9).all fun d=>P.contains d || (tt0 31 P).freeSlot (d:Int) == some (d,false))=true:=by decide +kernel
theorem XU (t:SetTable) (hd:t.dummies = #[]) (h:Int):t.freeSlot h=(tt0 t.mask t.place.toList).freeSlot h:=by
 obtain⟨mask,place,dummies,finger,led,moves,plain⟩:=t
 dsimp only at hd
 subst hd
 obtain⟨pl⟩:=place
 unfold SetTable.freeSlot SetTable.probe
 have slot_as:∀ j,SetTable.slot ⟨mask,⟨pl⟩,#[],finger,led,moves,plain⟩ j=SetTable.slot (tt0 mask pl) j:=fun j=>rfl
 have adv_as:∀ p,SetTable.advance ⟨mask,⟨pl⟩,#[],finger,led,moves,plain⟩ p=SetTable.advance (tt0 mask pl) p:=fun p=>rfl
 have go_as:∀ (f:Nat->Int) (x:Int) (fuel:Nat) (p:SetTable.Probe),SetTable.probe.go ⟨mask,⟨pl⟩,#[],finger,led,moves,plain⟩ f x fuel p=SetTable.probe.go (tt0 mask pl) f x fuel p:=by
  intro f x fuel
  induction fuel with
  | zero=>intro p;rfl
  | succ fuel ih=>
   intro p
   unfold SetTable.probe.go
   rw[slot_as]
   cases SetTable.slot (tt0 mask pl) p.j with
   | empty=>rfl
   | dummy=>
    dsimp only
    rw[adv_as]
    exact ih _
   | live i=>
    dsimp only
    rw[adv_as,ih]
 rw[go_as]
 rfl
structure Dg (es:Array (Int×Value)) (t:SetTable) (b:Bool):Prop where
 ti:Z1 t b
 plain:t.plain=true
 len:t.place.size=es.size
 form:(t.mask=7/\es.size<=4/\∀ p ∈ t.place.toList,p < 8)\/(t.mask=31/\es.size<=9/\es.toList.map (·.1)=t.place.toList.map (fun (p:Nat)=>(p:Int))/\∀ p ∈ t.place.toList,p < 9)
theorem dg_fresh (b:Bool):Dg #[] (.fresh 0 0 b) b:=⟨Z1.fresh b,rfl,rfl,.inl ⟨rfl,A9 _,fun p hp=>by cases hp⟩⟩
theorem Jd {α:Type} (xs:Array α) (p:Nat) (x:α) (hp:p<=xs.size):(SetTable.insertAt xs p x).size=xs.size+1:=by
 rw[<- Av,Qs,AH,Aq,An,Bz,Av]
 omega
theorem YK {xs:Array Nat} (hr:Rs xs) (j:Nat):SetTable.below xs j<=xs.size:=by
 rw[Qr hr]
 simpa using YI xs.toList j
theorem lay7 {es:Array (Int×Value)} {t:SetTable} {b:Bool} (h:Dg es t b) (h7:t.mask=7) (h4:es.size<=4) (h8:∀ p ∈ t.place.toList,p < 8) {d:Nat} (hd:d < 9) (v:Value) :
  ∃ sl,sl < 8/\sl ∉ t.place.toList/\t.freeSlot (d:Int)=some (sl,false):=by
 have hm:=Jc 8 4 t.place.toList h.ti.rs h8 (by have:=h.len;simp;omega)
 have hc:=A0.mp (A0.mp free7' _ hm) d (Af.mpr hd)
 have e:=XU t h.ti.dum (d:Int)
 rw[h7] at e
 rw[<- e] at hc
 cases hf:t.freeSlot (d:Int) with
 | none=>rw[hf] at hc;cases hc
 | some z=>
  obtain⟨sl,wd⟩:=z
  rw[hf] at hc
  obtain⟨h1,h2⟩:=XS h.ti hf
  exact⟨sl,Ak hc,h2,by rw[h1]⟩
theorem lay31 {es:Array (Int×Value)} {t:SetTable} {b:Bool} (h:Dg es t b) (h31:t.mask=31) (h9:∀ p ∈ t.place.toList,p < 9) (hs:es.size<=9) {d:Nat} (hd:d < 9) (hn:d ∉ t.place.toList):t.freeSlot (d:Int)=some (d,false):=by
 have hm:=Jc 9 9 t.place.toList h.ti.rs h9 (by have:=h.len;simp;omega)
 have hc:=A0.mp (A0.mp free31' _ hm) d (Af.mpr hd)
 have e:=XU t h.ti.dum (d:Int)
 rw[h31] at e
 rw[<- e] at hc
 rcases (Bool.or_eq_true _ _).mp hc with hc | hc
 ·exact absurd (by simpa using hc) hn
 ·exact eq_of_beq hc
structure Own (ds:List Nat) (owner:Array (Option Nat)) (k:Nat):Prop where
 size:owner.size=32
 own:∀ j i,owner.getD j none=some i ↔ (i < k/\ds[i]? = some j)
theorem bits_dig {d:Nat} (hd:d < 9):SetTable.bits (d:Int) % (31+1)=d:=by
 unfold SetTable.bits
 have e:((d:Int) % (2 ^ 64:Int))=(d:Int):=Int.emod_eq_of_lt (by omega) (by rw[show (2 ^ 64:Int)=18446744073709551616 from by decide];omega)
 rw[e,A4]
 omega
theorem free_own {ds:List Nat} {owner:Array (Option Nat)} {k d:Nat} (h:Own ds owner k) (hd:d < 9) (hn:∀ i,i < k->ds[i]? ≠ some d) (p:Nat):SetTable.layClean.free 31 owner (SetTable.turns 31) d p=some d:=by
 show SetTable.layClean.free 31 owner 46 d p=some d
 unfold SetTable.layClean.free
 have hr:SetTable.runEnd 31 d+1 - d=10:=by
  unfold SetTable.runEnd
  rw[if_pos (by omega)]
  omega
 rw[hr]
 have h0:(owner.getD (d+0) (some 0)).isNone=true:=by
  have h1:owner.getD d none=none:=by
   cases e:owner.getD d none with
   | none=>rfl
   | some i=>
    obtain⟨a,b⟩:=(h.own d i).mp e
    exact absurd b (hn i a)
  have hs:d < owner.size:=by rw[h.size];omega
  rw[D9]
  simp[Array.getD,hs] at h1 ⊢
  exact h1
 rw[show List.range 10=0 :: [1,2,3,4,5,6,7,8,9] from rfl,List.find?_cons_of_pos (p:=fun k=>(owner.getD (d+k) (some 0)).isNone) h0]
 rfl
theorem own_step {ds:List Nat} {owner:Array (Option Nat)} {k d:Nat} (h:Own ds owner k) (hd:d < 9) (hk:ds[k]? = some d) (hn:∀ i,i < k->ds[i]? ≠ some d):Own ds (owner.setIfInBounds d (some k)) (k+1):=by
 refine⟨by simp[h.size],fun j i=>?_⟩
 have hs:d < owner.size:=by rw[h.size];omega
 by_cases e:j=d
 ·subst e
  have e1:(owner.setIfInBounds j (some k)).getD j none=some k:=by simp[Array.getD,hs]
  rw[e1]
  constructor
  ·intro z
   cases z
   exact⟨BM _,hk⟩
  ·rintro⟨a,b⟩
   rcases Nat.lt_succ_iff_lt_or_eq.mp a with a | a
   ·exact absurd b (hn i a)
   ·rw[a]
 ·have e1:(owner.setIfInBounds d (some k)).getD j none=owner.getD j none:=by
   simp only[Array.getD_eq_getD_getElem?,Array.getElem?_setIfInBounds]
   rw[if_neg (fun z=>e z.symm)]
  rw[e1,h.own]
  constructor
  ·rintro⟨a,b⟩
   exact⟨Au a,b⟩
  ·rintro⟨a,b⟩
   rcases Nat.lt_succ_iff_lt_or_eq.mp a with a | a
   ·exact⟨a,b⟩
   ·subst a
    rw[hk] at b
    exact absurd (Ad b).symm e
theorem XV {ds:List Nat} (hd:∀ d ∈ ds,d < 9) (nd:ds.Nodup):∃ owner,SetTable.layClean 31 (ds.map fun (d:Nat)=>(d:Int)).toArray=some owner/\Own ds owner ds.length:=by
 unfold SetTable.layClean
 rw[<- Array.foldl_toList]
 have key:∀ (r:List Nat) (pre:List Nat) (owner:Array (Option Nat)),ds=pre++r->Own ds owner pre.length ->
   ∃ owner',(r.map fun (d:Nat)=>(d:Int)).foldl (fun (acc:Option (Array (Option Nat)×Nat)) h=>do
    let (owner,k) <- acc
    let j <- SetTable.layClean.free 31 owner (SetTable.turns 31) (SetTable.bits h % (31+1)) (SetTable.bits h)
    pure (owner.setIfInBounds j (some k),k+1)) (some (owner,pre.length))=some (owner',ds.length)/\Own ds owner' ds.length:=by
  intro r
  induction r with
  | nil=>
   intro pre owner e ho
   rw[BW] at e
   rw[e] at ho ⊢
   exact⟨owner,rfl,ho⟩
  | cons d r ih=>
   intro pre owner e ho
   have hk:ds[pre.length]? = some d:=by rw[e];simp
   have hdd:d < 9:=hd d (by rw[e];simp)
   have hn:∀ i,i < pre.length->ds[i]? ≠ some d:=fun i hi z=>by
    have hk2:=hk
    have:=(List.getElem?_inj (AC.mp z).1 nd).mp (z.trans hk2.symm)
    omega
   have hs:=own_step ho hdd hk hn
   have hf:=free_own ho hdd hn (SetTable.bits (d:Int))
   rw[Ag,B5]
   have e2:(do
    let (owner,k) <- some (owner,pre.length)
    let j <- SetTable.layClean.free 31 owner (SetTable.turns 31) (SetTable.bits (d:Int) % (31+1)) (SetTable.bits (d:Int))
    pure (owner.setIfInBounds j (some k),k+1))=some (owner.setIfInBounds d (some pre.length),pre.length+1):=by
    show (SetTable.layClean.free 31 owner (SetTable.turns 31) (SetTable.bits (d:Int) % (31+1)) (SetTable.bits (d:Int)) >>= fun j=>some (owner.setIfInBounds j (some pre.length),pre.length+1))=_
    rw[bits_dig hdd,hf]
    rfl
   rw[e2]
   have:=ih (pre++[d]) (owner.setIfInBounds d (some pre.length)) (by rw[e];simp) (by rw[List.length_append];exact hs)
   rw[AH] at this
   exact this
 obtain⟨owner,e,ho⟩:=key ds [] (Array.replicate 32 none) rfl ⟨by simp,fun j i=>by
  constructor
  ·intro z
   exfalso
   by_cases hj:j < 32
   ·simp[Array.getD,hj] at z
   ·simp[Array.getD,hj] at z
  ·rintro⟨a,_⟩
   exact absurd a (CT _)⟩
 refine⟨owner,?_,ho⟩
 rw[show ((ds.map fun (d:Nat)=>(d:Int)).toArray).toList=ds.map fun (d:Nat)=>(d:Int) from rfl]
 exact BQ (Option.map (·.1)) e
def jd (owner:Array (Option Nat)):List (Nat×Nat):=(List.range 32).filterMap fun j=>(owner.getD j none).map (j,·)
theorem ZM {ds:List Nat} {owner:Array (Option Nat)} (h:Own ds owner ds.length) (hd:∀ d ∈ ds,d < 9) {z:Nat×Nat}:z ∈ jd owner ↔ ds[z.2]? = some z.1:=by
 unfold jd
 rw[Dy]
 constructor
 ·rintro⟨j,hj,e⟩
  obtain⟨i,e1,rfl⟩:=AX.mp e
  exact ((h.own j i).mp e1).2
 ·intro e
  have hi:=(AC.mp e).1
  have h9:=hd _ (AI e)
  refine⟨z.1,Af.mpr (by omega),?_⟩
  rw[(h.own z.1 z.2).mpr ⟨hi,e⟩]
  rfl
theorem XW (owner:Array (Option Nat)):((jd owner).map (·.1)).Pairwise (· < ·):=yj (f:=fun j=>owner.getD j none) 32
theorem XX {ds:List Nat} {owner:Array (Option Nat)} (h:Own ds owner ds.length) (hd:∀ d ∈ ds,d < 9):List.Perm ((jd owner).map (·.2)) (List.range ds.length):=by
 have rs:=XW owner
 rw[CW] at rs
 refine (DN ?_ List.nodup_range).mpr fun i=>?_
 ·unfold List.Nodup
  rw[CW]
  refine List.Pairwise.imp_of_mem (fun {a b} ha hb hab e=>?_) rs
  have h1:=(ZM h hd).mp ha
  have h2:=(ZM h hd).mp hb
  rw[e,h2] at h1
  have:=Ad h1
  omega
 ·rw[AM,Af]
  constructor
  ·rintro⟨z,hz,rfl⟩
   exact (AC.mp ((ZM h hd).mp hz)).1
  ·intro hi
   exact⟨(ds[i],i),(ZM h hd).mpr (AG hi),rfl⟩
theorem XY {es:Array (Int×Value)}:∀ (L:List Nat),(∀ i ∈ L,i < es.size)->L.filterMap (es[·]?)=L.map fun i=>es.getD i (0,.none)
 | [],_=>rfl
 | i :: L,h=>by
  have hi:=h i (AW ..)
  rw[Cq,Ag,XY L fun k hk=>h k (AY _ hk)]
  simp[hi,Array.getD]
theorem XZ {es:Array (Int×Value)} {t:SetTable} {b:Bool} {ds:List Nat} (ti:Z1 t b) (hp:t.plain=true) (he:es.toList.map (·.1)=ds.map fun (d:Nat)=>(d:Int)) (hd:∀ d ∈ ds,d < 9) (nd:ds.Nodup) (h9:ds.length<=9) {w:Nat} (hw:SetTable.sizeAbove w=32) :
  Dg (relayAll t es w).1 (relayAll t es w).2.1 b/\List.Perm (relayAll t es w).1.toList es.toList:=by
 have hl:es.size=ds.length:=by
  have:=BQ List.length he
  simpa using this
 obtain⟨owner,eo,ho⟩:=XV hd nd
 have eh:es.map (·.1)=(ds.map fun (d:Nat)=>(d:Int)).toArray:=by
  apply Array.toList_inj.mp
  rw[Array.toList_map]
  exact he
 have er:t.relaid (es.map (·.1)) w=some ({ mask:=31,place:=((jd owner).map (·.1)).toArray,dummies:=#[],finger:=t.finger,led:=t.led,moves:=t.movedTo 31,plain:=t.plain },((jd owner).map (·.2)).toArray):=by
  unfold SetTable.relaid SetTable.laid
  rw[hw,eh,eo]
  rfl
 have perm:=XX ho hd
 have ll:(jd owner).length=ds.length:=by
  have:=perm.length_eq
  rwa [AB,AZ] at this
 have hin:∀ i ∈ (jd owner).map (·.2),i < es.size:=fun i hi=>by
  rw[hl]
  exact Af.mp (perm.mem_iff.mp hi)
 have efm:(((jd owner).map (·.2)).toArray.filterMap (es[·]?)).toList=((jd owner).map (·.2)).map fun i=>es.getD i (0,.none):=by
  rw[Array.toList_filterMap]
  exact XY _ hin
 have esz:(((jd owner).map (·.2)).toArray.filterMap (es[·]?)).size=ds.length:=by
  rw[<- Av,efm,AB,AB,ll]
 have cov:coversAll ((jd owner).map (·.2)).toArray es.size=true:=by
  unfold coversAll
  rw[List.isPerm_iff,hl]
  exact perm
 have ra:relayAll t es w=(((jd owner).map (·.2)).toArray.filterMap (es[·]?),{ mask:=31,place:=((jd owner).map (·.1)).toArray,dummies:=#[],finger:=t.finger,led:=t.led,moves:=t.movedTo 31,plain:=t.plain },false):=by
  unfold relayAll
  rw[er]
  dsimp only
  rw[cov,esz]
  rw[if_pos]
  simp only[SetTable.fits,SetTable.fill,Bool.true_and,List.size_toArray,List.length_map,ll,Array.size_empty,Bool.and_eq_true,beq_iff_eq,decide_eq_true_eq]
  refine⟨trivial,?_⟩
  show _+0<=31
  omega
 have pm:=relayAll_perm t es w
 rw[ra] at pm ⊢
 refine⟨⟨⟨rfl,XW owner,ti.led⟩,hp,?_,.inr ⟨rfl,by rw[esz];exact h9,?_,fun p hp'=>?_⟩⟩,pm⟩
 ·show ((jd owner).map (·.1)).toArray.size=_
  rw[esz,BC,AB,ll]
 ·show (((jd owner).map (·.2)).toArray.filterMap (es[·]?)).toList.map (·.1)=((jd owner).map (·.1)).map fun (p:Nat)=>(p:Int)
  rw[efm,A2,A2,A2]
  refine CI fun z hz=>?_
  have hz':=(ZM ho hd).mp hz
  have hi:=(AC.mp hz').1
  have:(es.toList.map (·.1))[z.2]? = some ((z.1:Nat):Int):=by rw[he,AJ,hz'];rfl
  rw[AJ] at this
  obtain⟨y,hy,ey⟩:=AX.mp this
  have hes:z.2 < es.size:=by omega
  show (es.getD z.2 (0,.none)).1=((z.1:Nat):Int)
  rw[<- ey]
  have:es[z.2]? = some y:=by simpa using hy
  simp[Array.getD,hes] at this ⊢
  rw[this]
 ·have hp'':p ∈ (jd owner).map (·.1):=by simpa using hp'
  obtain⟨z,hz,rfl⟩:=AM.mp hp''
  exact hd _ (AI ((ZM ho hd).mp hz))
structure DgE (es:Array (Int×Value)) (t:SetTable) (b:Bool) (ds:List Nat):Prop where
 dg:Dg es t b
 he:es.toList.map (·.1)=ds.map fun (d:Nat)=>(d:Int)
 hd:∀ d ∈ ds,d < 9
 nd:ds.Nodup
theorem DgE.len {es:Array (Int×Value)} {t:SetTable} {b:Bool} {ds:List Nat} (h:DgE es t b ds):es.size=ds.length:=by
 have:=BQ List.length h.he
 simpa using this
theorem X0 (b:Bool):DgE #[] (.fresh 0 0 b) b []:=⟨dg_fresh b,rfl,(fun d h=>by cases h),.nil⟩
theorem nine:∀ (m:Nat) (xs:List Nat),xs.Nodup->(∀ x ∈ xs,x < m)->xs.length<=m
 | 0,xs,_,h=>by
  cases xs with
  | nil=>exact AK _
  | cons x xs=>exact absurd (h x (AW ..)) (CT _)
 | m+1,xs,nd,h=>by
  have h1:=nine m (xs.erase m) (nd.erase m) fun x hx=>by
   have h2:=h x (List.mem_of_mem_erase hx)
   have h3:x ≠ m:=fun e=>by
    rw[e] at hx
    exact (List.Nodup.not_mem_erase nd) hx
   omega
  have h2:xs.length - 1<=(xs.erase m).length:=by
   rw[List.length_erase]
   split <;> omega
  omega
def addE (t:SetTable) (es:Array (Int×Value)) (x:Int) (v:Value):Array (Int×Value)×SetTable:=
 if (layNew t es x v).2.1.tooFull=true then ((relayAll (layNew t es x v).2.1 (layNew t es x v).1 (SetTable.grown (layNew t es x v).1.size)).1,(relayAll (layNew t es x v).2.1 (layNew t es x v).1 (SetTable.grown (layNew t es x v).1.size)).2.1) else ((layNew t es x v).1,(layNew t es x v).2.1)
theorem X1 {t:SetTable} {es:Array (Int×Value)} {x:Int} {v:Value} {sl:Nat} {b:Bool} (h:Z1 t b) (hl:t.place.size=es.size) (hf:t.freeSlot x=some (sl,false)) (hm:es.size+1<=t.mask) :
  layNew t es x v=(SetTable.insertAt es (SetTable.below t.place sl) (x,v),{ t with place:=SetTable.insertAt t.place (SetTable.below t.place sl) sl },false,false):=by
 have hp:(t.put sl)=({ t with place:=SetTable.insertAt t.place (SetTable.below t.place sl) sl },SetTable.below t.place sl):=by
  unfold SetTable.put
  rw[h.dum,y8]
  obtain⟨mask,place,dummies,finger,led,moves,plain⟩:=t
  have:=h.dum
  dsimp only at this
  subst this
  rfl
 have bl:=YK h.rs sl
 have s1:(SetTable.insertAt es (SetTable.below t.place sl) (x,v)).size=es.size+1:=Jd _ _ _ (by omega)
 have s2:(SetTable.insertAt t.place (SetTable.below t.place sl) sl).size=es.size+1:=by rw[Jd _ _ _ bl,hl]
 have fit:({ t with place:=SetTable.insertAt t.place (SetTable.below t.place sl) sl }:SetTable).fits (es.size+1)=true:=by
  unfold SetTable.fits SetTable.fill
  dsimp only
  rw[s2,h.dum]
  simp
  omega
 unfold layNew
 rw[hf]
 dsimp only
 rw[hp]
 dsimp only
 rw[s1]
 unfold SetTable.orStandIn
 rw[if_pos fit,fit]
 rfl
theorem ins_map {α β:Type} (f:α->β) (xs:Array α) (p:Nat) (x:α):(SetTable.insertAt xs p x).toList.map f=(xs.toList.map f).take p++f x :: (xs.toList.map f).drop p:=by
 rw[Qs,AL,Ag,DD,DE]
theorem X2 {xs ys:List Nat} (h:List.Perm (xs.map fun (d:Nat)=>(d:Int)) (ys.map fun (d:Nat)=>(d:Int))):List.Perm xs ys:=by
 have:=h.map Int.toNat
 simpa [List.map_map,Function.comp_def] using this
theorem dig_add {es:Array (Int×Value)} {t:SetTable} {b:Bool} {ds:List Nat} (h:DgE es t b ds) {d:Nat} (hd9:d < 9) (hn:d ∉ ds) (v:Value) :
  (layNew t es (d:Int) v).2.2.1=false/\(layNew t es (d:Int) v).2.1.plain=true/\∃ ds',DgE (addE t es (d:Int) v).1 (addE t es (d:Int) v).2 b ds'/\List.Perm ds' (d :: ds):=by
 have hl:=h.dg.len
 have el:=h.len
 have n9:ds.length+1<=9:=nine 9 (d :: ds) (Bf.mpr ⟨hn,h.nd⟩) (fun x hx=>by
  rcases AV.mp hx with rfl | hx
  ·exact hd9
  ·exact h.hd x hx)
 have perm:∀ p,List.Perm (ds.take p++d :: ds.drop p) (d :: ds):=fun p=>by
  refine EJ.trans ?_
  rw[B1]
 have good:∀ p,(∀ x ∈ ds.take p++d :: ds.drop p,x < 9)/\(ds.take p++d :: ds.drop p).Nodup:=fun p=>by
  refine⟨fun x hx=>?_,?_⟩
  ·rcases AV.mp ((perm p).mem_iff.mp hx) with rfl | hx
   ·exact hd9
   ·exact h.hd x hx
  ·exact (perm p).nodup_iff.mpr (Bf.mpr ⟨hn,h.nd⟩)
 have main:∀ sl,t.freeSlot (d:Int)=some (sl,false)->es.size+1<=t.mask->sl ∉ t.place.toList ->
   Z1 { t with place:=SetTable.insertAt t.place (SetTable.below t.place sl) sl } b/\(SetTable.insertAt es (SetTable.below t.place sl) ((d:Int),v)).toList.map (·.1)=(ds.take (SetTable.below t.place sl)++d :: ds.drop (SetTable.below t.place sl)).map (fun (d:Nat)=>(d:Int))/\(SetTable.insertAt es (SetTable.below t.place sl) ((d:Int),v)).size=es.size+1/\(SetTable.insertAt t.place (SetTable.below t.place sl) sl).size=es.size+1:=fun sl hf hm hs=>by
  have bl:=YK h.dg.ti.rs sl
  refine⟨⟨h.dg.ti.dum,wM h.dg.ti.rs hs,h.dg.ti.led⟩,?_,Jd _ _ _ (by omega),by rw[Jd _ _ _ bl,hl]⟩
  rw[ins_map,h.he,AL,Ag,DD,DE]
 rcases h.dg.form with ⟨f7,f4,f8⟩ | ⟨f31,f9,fe,f99⟩
 ·obtain⟨sl,s8,hs,hf⟩:=lay7 h.dg f7 f4 f8 hd9 v
  have hm:es.size+1<=t.mask:=by omega
  have eL:=X1 (v:=v) h.dg.ti hl hf hm
  obtain⟨ti',he',s1,s2⟩:=main sl hf hm hs
  obtain⟨g1,g2⟩:=good (SetTable.below t.place sl)
  have pp:=perm (SetTable.below t.place sl)
  generalize ds.take (SetTable.below t.place sl)++d :: ds.drop (SetTable.below t.place sl)=ds' at he' g1 g2 pp
  refine⟨by rw[eL],by rw[eL];exact h.dg.plain,?_⟩
  unfold addE
  rw[eL]
  dsimp only
  by_cases hfull:({ t with place:=SetTable.insertAt t.place (SetTable.below t.place sl) sl }:SetTable).tooFull=true
  ·rw[if_pos hfull]
   have h5:es.size+1=5:=by
    unfold SetTable.tooFull SetTable.fill at hfull
    dsimp only at hfull
    rw[s2,h.dg.ti.dum,f7] at hfull
    have:=Ak hfull
    simp at this
    omega
   have hw:SetTable.sizeAbove (SetTable.grown (SetTable.insertAt es (SetTable.below t.place sl) ((d:Int),v)).size)=32:=by
    rw[s1,h5]
    decide
   have r:=XZ (es:=SetTable.insertAt es (SetTable.below t.place sl) ((d:Int),v)) (t:={ t with place:=SetTable.insertAt t.place (SetTable.below t.place sl) sl }) (b:=b) ti' h.dg.plain he' g1 g2 (by rw[pp.length_eq];exact n9) hw
   obtain⟨r1,r2⟩:=r
   have rl:=r2.length_eq
   rw[Av,Av] at rl
   replace rl:=rl.trans s1
   rcases r1.form with ⟨_,q4,_⟩ | ⟨q1,q2,q3,q4⟩
   ·exfalso
    omega
   ·have pl:=r2.map Prod.fst
    have he2:=he'
    rw[show (fun (x:Int×Value)=>x.1)=Prod.fst from rfl] at q3 he2
    rw[q3,he2] at pl
    replace pl:=X2 pl
    refine⟨_,⟨r1,q3,q4,pl.nodup_iff.mpr g2⟩,pl.trans pp⟩
  ·rw[if_neg hfull]
   have h4:es.size+1<=4:=by
    unfold SetTable.tooFull SetTable.fill at hfull
    dsimp only at hfull
    rw[s2,h.dg.ti.dum,f7] at hfull
    simp at hfull
    omega
   refine⟨ds',⟨⟨ti',h.dg.plain,by dsimp only;rw[s1,s2],.inl ⟨f7,by dsimp only;rw[s1];exact h4,fun p hp=>?_⟩⟩,he',g1,g2⟩,pp⟩
   have hp':p ∈ (SetTable.insertAt t.place (SetTable.below t.place sl) sl).toList:=hp
   rw[Qs] at hp'
   rcases AQ.mp hp' with hp' | hp'
   ·exact f8 p (CA hp')
   ·rcases AV.mp hp' with rfl | hp'
    ·exact s8
    ·exact f8 p (Dp hp')
 ·have eds:ds=t.place.toList:=by
   have h1:=h.he.symm.trans fe
   exact List.map_inj_right (fun a b e=>by omega) |>.mp h1
  have hs:d ∉ t.place.toList:=eds ▸ hn
  have hf:=lay31 h.dg f31 f99 f9 hd9 hs
  have hm:es.size+1<=t.mask:=by omega
  have eL:=X1 (v:=v) h.dg.ti hl hf hm
  obtain⟨ti',he',s1,s2⟩:=main d hf hm hs
  obtain⟨g1,g2⟩:=good (SetTable.below t.place d)
  have pp:=perm (SetTable.below t.place d)
  have ed':ds.take (SetTable.below t.place d)++d :: ds.drop (SetTable.below t.place d)=(SetTable.insertAt t.place (SetTable.below t.place d) d).toList:=by rw[Qs,eds]
  rw[ed'] at he' g1 g2 pp
  refine⟨by rw[eL],by rw[eL];exact h.dg.plain,_,?_,pp⟩
  unfold addE
  rw[eL]
  dsimp only
  have hfull:¬ ({ t with place:=SetTable.insertAt t.place (SetTable.below t.place d) d }:SetTable).tooFull=true:=by
   unfold SetTable.tooFull SetTable.fill
   dsimp only
   rw[s2,h.dg.ti.dum,f31]
   simp
   omega
  rw[if_neg hfull]
  exact⟨⟨ti',h.dg.plain,by dsimp only;rw[s1,s2],.inr ⟨f31,by dsimp only;rw[s1];omega,he',g1⟩⟩,he',g1,g2⟩
def DIs (b:Bool) (h:Heap) (a:Addr) (ds:List Nat):Prop:=
 ∃ o es ep t,h.get? a=some o/\o.ExactSet/\o.data=.set es ep t/\DgE es t b ds/\∀ e ∈ es.toList,∃ tk,e.2=Value.int e.1 tk
theorem DIs.keep {b:Bool} {h h':Heap} {a:Addr} {ds:List Nat} (x:DIs b h a ds) (k:∀ o,h.get? a=some o->h'.get? a=some o):DIs b h' a ds:=by
 obtain⟨o,es,ep,t,ho,r⟩:=x
 exact⟨o,es,ep,t,k o ho,r⟩
theorem Dg.fits {es:Array (Int×Value)} {t:SetTable} {b:Bool} (h:Dg es t b):t.fits es.size=true:=by
 unfold SetTable.fits SetTable.fill
 rw[h.len,h.ti.dum]
 simp
 rcases h.form with ⟨h1,h2,_⟩ | ⟨h1,h2,_⟩ <;> omega
theorem Dg.small {es:Array (Int×Value)} {t:SetTable} {b:Bool} (h:Dg es t b):es.size<=9:=by
 rcases h.form with ⟨h1,h2,_⟩ | ⟨h1,h2,_⟩ <;> omega
theorem Wq:∀ d:Nat,d < 9->hashInt (d:Int)=(d:Int):=by decide
theorem DgE.mem {es:Array (Int×Value)} {t:SetTable} {b:Bool} {ds:List Nat} (h:DgE es t b ds) {e:Int×Value} (he:e ∈ es.toList):∃ d ∈ ds,e.1=(d:Int):=by
 have:=List.mem_map_of_mem (f:=fun (x:Int×Value)=>x.1) he
 rw[h.he] at this
 obtain⟨d,hd,e'⟩:=AM.mp this
 exact⟨d,hd,e'.symm⟩
theorem DgE.at {es:Array (Int×Value)} {t:SetTable} {b:Bool} {ds:List Nat} (h:DgE es t b ds) {d:Nat} (hd:d ∈ ds):∃ e ∈ es.toList,e.1=(d:Int):=by
 have:(d:Int) ∈ ds.map fun (d:Nat)=>(d:Int):=List.mem_map_of_mem hd
 rw[<- h.he] at this
 obtain⟨e,he,e'⟩:=AM.mp this
 exact⟨e,he,e'⟩
section
variable {prog : Program} {w : World} {A : Around} {E : Value -> Shared -> Prop} {s : Shared}
theorem X3 {es:Array (Int×Value)} {t:SetTable} {b:Bool} {ds:List Nat} (h:DgE es t b ds) (hv:∀ e ∈ es.toList,∃ tk,e.2=Value.int e.1 tk):ElemsOf (intKind prog w) es.toList:=fun e he=>by
 obtain⟨tk,ev⟩:=hv e he
 obtain⟨d,hd,e1⟩:=h.mem he
 rw[ev]
 refine⟨⟨e.1,by simp[intKind,Value.isInt],?_⟩,rfl⟩
 show e.1=hashInt e.1
 rw[e1,Wq d (h.hd d hd)]
theorem yk {h:Heap} {a:Addr} {o:Obj} {es es':Array (Int×Value)} {ep:Nat} {t t':SetTable} {b:Bool} {ds':List Nat} (ho:h.get? a=some o) (hex:o.ExactSet) (hd:o.data=.set es ep t) (hg:DgE es' t' b ds') (hv:∀ e ∈ es'.toList,∃ tk,e.2=Value.int e.1 tk) :
  DIs b (h.update a (Obj.putSet es' t')) a ds':=by
 have hgt:(h.update a (Obj.putSet es' t')).get? a=some { o with data:=.set es' (ep+1) t' }:=by
  have:=Aj (Obj.putSet es' t') ho (by rw[EE es' t' hd];rfl)
  rw[EE es' t' hd] at this;exact this
 exact⟨_,es',ep+1,t',hgt,hex,rfl,hg,hv⟩
theorem setAddD {a:Addr} {ds:List Nat} {b:Bool} {d:Nat} {tk:Tok} {Q:Bool->Shared->Prop} (hS:DIs b s.heap a ds) (hd9:d < 9)
  (h:∀ h' ds',Heap.SameBut a s.heap h'->DIs b h' a ds'->List.Perm ds' (if d ∈ ds then ds else d :: ds)->Q (!decide (d ∈ ds)) { s with heap:=h' }) :
  wpAny (model prog w) A (setAddHashed a (.int (d:Int) tk) (hashInt (d:Int))) Q E s:=by
 obtain⟨o,es,ep,t,ho,hex,hd,hg,hv⟩:=hS
 have hf:=hg.dg.fits
 have hel:=X3 (prog:=prog) (w:=w) hg hv
 have hb:es.size < scanBound:=by have:=hg.dg.small;unfold scanBound;omega
 have hkey:(intKind prog w).is (d:Int) (.int (d:Int) tk)=true:=by simp[intKind,Value.isInt]
 unfold setAddHashed setAddHashedIn
 refine BJ (AA (A1 ho hd hf ?_))
 dsimp only
 rw[byScan_of (knd:=intKind prog w) rfl hb hel]
 simp only[↓reduceIte]
 unfold setAddByScan
 refine AA ?_
 refine AA (Bd ?_)
 refine AA (wpAny_setScan_of (knd:=intKind prog w) hkey ho hd hf hel ?_)
 cases hr:List.findIdx? (fun e=>(intKind prog w).is (d:Int) e.2) es.toList with
 | some j=>
  dsimp only
  obtain⟨hj,hpj,_⟩:=D4.mp hr
  have hm:=Ci hj
  have hin:d ∈ ds:=by
   obtain⟨tk',ev⟩:=hv _ hm
   obtain⟨d',hd',e1⟩:=hg.mem hm
   rw[ev] at hpj
   have:es.toList[j].1=(d:Int):=by
    simp[intKind,Value.isInt] at hpj
    exact hpj
   rw[e1] at this
   rwa [show d'=d by omega] at hd'
  refine AD (AD ?_)
  have e:s = { s with heap:=s.heap }:=by cases s;rfl
  have:=h s.heap ds (Heap.SameBut.refl a s.heap) ⟨o,es,ep,t,ho,hex,hd,hg,hv⟩ (by rw[if_pos hin])
  rw[Ai hin] at this;rw[e];exact this
 | none=>
  dsimp only
  have hin:d ∉ ds:=fun hin=>by
   obtain⟨e,he,e1⟩:=hg.at hin
   obtain⟨tk',ev⟩:=hv e he
   have:=List.findIdx?_eq_none_iff.mp hr e he
   rw[ev,e1] at this
   simp[intKind,Value.isInt] at this
  have hgw:∀ (b:Bool) {s₁:Shared} {Q':Unit->Shared->Prop},Q' () s₁->wpAny (model prog w) A (match b with | true=>rule "set.scan.the-table-gave-way" | false=>pure ()) Q' E s₁:=
   fun b s₁ Q' hq=>by cases b <;> first | exact AD hq | exact Bd hq
  have eh:(intKind prog w).hash (d:Int)=(d:Int):=Wq d hd9
  have eh':hashInt (d:Int)=(d:Int):=Wq d hd9
  obtain⟨a1,a2,ds',a3,a4⟩:=dig_add hg hd9 hin (.int (d:Int) tk)
  have hperm:=layNew_perm t es (d:Int) (.int (d:Int) tk)
  unfold addE at a3
  rw[show (intKind prog w).hash (d:Int)=(d:Int) from eh] at *
  try rw[eh']
  generalize hL:layNew t es (d:Int) (.int (d:Int) tk)=L at a1 a2 a3 hperm ⊢
  obtain⟨es1,t1,wasDummy,gave⟩:=L
  dsimp only at a1 a2 a3 hperm ⊢
  subst a1
  rw[ED] at hperm
  have hv1:∀ e ∈ es1.toList,∃ tk,e.2=Value.int e.1 tk:=fun e he=>by
   rcases AQ.mp (hperm.mem_iff.mp he) with he | he
   ·exact hv e he
   ·rw[AE.mp he]
    exact⟨tk,rfl⟩
  have s1:es1.size=es.size+1:=by
   rw[<- Av,hperm.length_eq,AH,Av]
   rfl
  have hsm:=hg.dg.small
  have hb1:es1.size < scanBound:=by unfold scanBound;omega
  have pp:List.Perm ds' (if d ∈ ds then ds else d :: ds):=by rw[if_neg hin];exact a4
  have fin:∀ h',Heap.SameBut a s.heap h'->DIs b h' a ds'->Q true { s with heap:=h' }:=fun h' z1 z2=>by
   have:=h h' ds' z1 z2 pp
   rw[Aw hin] at this
   exact this
  refine AA (hgw _ ?_)
  rw[if_pos a2]
  refine AA ?_
  rw[hashByValue_scannable 8 rfl]
  refine AD ?_
  simp only[plainKind,↓reduceIte,Bool.not_false,Bool.true_and]
  have hgt:(s.heap.update a (Obj.putSet es1 t1)).get? a=some { o with data:=.set es1 (ep+1) t1 }:=by
   have:=Aj (Obj.putSet es1 t1) ho (by rw[EE es1 t1 hd];rfl)
   rw[EE es1 t1 hd] at this;exact this
  have hsb1:=A5 s.heap a (Obj.putSet es1 t1)
  refine AA (De ho hd ?_ (CK hb1))
  by_cases hfull:t1.tooFull=true
  ·rw[if_pos hfull] at a3 ⊢
   have hp:=relayAll_perm t1 es1 (SetTable.grown es1.size)
   generalize hRl:relayAll t1 es1 (SetTable.grown es1.size)=Rl at hp a3 ⊢
   obtain⟨es2,t3,gave2⟩:=Rl
   dsimp only at hp a3 ⊢
   refine AA (hgw _ ?_)
   have hb2:es2.size < scanBound:=by have:=a3.dg.small;unfold scanBound;omega
   refine AA (De hgt rfl ?_ (CK hb2))
   exact AD (AD (fin _ (hsb1.trans (A5 _ a _)) (yk hgt hex rfl a3 fun e he=>hv1 e (hp.mem_iff.mp he))))
  ·rw[if_neg hfull] at a3 ⊢
   exact AD (AD (fin _ hsb1 (yk ho hex hd a3 hv1)))
end
abbrev qx (w:World):Bool:=w.params.followText "set-order"
section
variable {prog : Program} {w : World} {A : Around} {E : Value -> Shared -> Prop} {s : Shared}
theorem Qt (a:Value) {Q₁:Value->Shared->Prop}
  (h:Q₁ (.ref s.heap.objs.size) { s with heap:=s.heap.push { cls:=.type "set",dict:=none,data:=.set #[] 0 (.fresh 0 0 (!qx w)) } }) :
  codeAny (model prog w) A (.call (.builtin "set.__new__") ⟨[.type "set",a],[]⟩) (wants Q₁ E) s:=by
 refine codeAny_of_tree ?_
 show wpAny _ A.in1 (do checkBuiltinCall "set.__new__" ⟨[.type "set",a],[]⟩;again (.builtin "set.__new__" ⟨[.type "set",a],[]⟩)) _ _ s
 refine AA (BO (PySem.F.newCall_set_1 a) (AD ⟨BK PySem.F.plain_set_new _,BA PySem.F.entry_set_new ?_⟩))
 rw[Ax PySem.F.plain_set_new _]
 unfold Builtin.«set.__new__» Builtin.Frozenset.newClass
 have hsub:=sub_set_self
 obtain⟨hp,g,d,tk,os⟩:=s
 dsimp only
 wp_walk
 refine Bh (AD ?_)
 dsimp only
 simp only[newObj]
 refine AA (wpAny_alloc (AD ?_))
 exact AD h
theorem X4 {R:Result->Shared->Prop} {J l a:Addr} {items:Array Value} {ys:List Nat} {bb:Bool} (hh:A.in1.handled=none) (hJ:l ≠ J) (aJ:a ≠ J) (al:a ≠ l) (hv:∀ (i:Nat) (v:Value),items[i]? = some v->∃ t,v=.int ((ys.getD i 0:Nat):Int) t) (hn:items.size=ys.length) (hb:∀ y ∈ ys,y < 9) :
  ∀ (k i:Nat) (s:Shared) (ds:List Nat),ys.length - i=k->i<=ys.length->s.heap.IsListIter J l i->s.heap.IsList l items->DIs bb s.heap a ds->(∀ d,d ∈ ds ↔ d ∈ ys.take i) ->
   (∀ h' tk ds',(∀ b o,b ≠ a->b ≠ J->s.heap.get? b=some o->h'.get? b=some o)->DIs bb h' a ds'->(∀ d,d ∈ ds' ↔ d ∈ ys)->R (.ok (.ret .none)) { s with heap:=h',toks:=tk }) ->
   codeAny (model prog w) A (.builtin "set.update.loop" ⟨[.ref a,.ref J],[]⟩) R s:=by
 intro k
 induction k with
 | zero=>
  intro i s ds hk hi h1 h2 h3 hds hR
  have e:i=ys.length:=by omega
  subst e
  refine BA Bu ?_
  rw[Ax BL _]
  show wpAny _ A.in1 (pyNext (.ref J) >>= _) _ _ s
  refine AA (Bs hh h1 h2 (by first | omega | (simp;omega)) fun h' eb=>?_)
  show wpAny _ A.in1 (ret Value.none) _ _ _
  rw[Ae] at hds
  exact AD (hR h' s.toks ds (fun b o _ nb e=>eb b o nb e) (h3.keep fun o e=>eb a o aJ e) hds)
 | succ k ih=>
  intro i s ds hk hi h1 h2 h3 hds hR
  have hlt:i < ys.length:=by omega
  refine BA Bu ?_
  rw[Ax BL _]
  show wpAny _ A.in1 (pyNext (.ref J) >>= _) _ _ s
  have hi2:items[i]? = some (items[i]'(by omega)):=by simp[show i < items.size by omega]
  refine AA (Bn h1 h2 hi2 fun h' h1' sb=>?_)
  obtain⟨t,et⟩:=hv i _ hi2
  rw[et]
  have h3':DIs bb h' a ds:=h3.keep fun o e=>(sb.2 a aJ).trans e
  show wpAny _ A.in1 (holding [Value.int ((ys.getD i 0:Nat):Int) t] (setAdd a (.int ((ys.getD i 0:Nat):Int) t)) >>= _) _ _ _
  refine AA (BJ ?_)
  unfold setAdd
  have is1:(PySem.intKind prog w).is ((ys.getD i 0:Nat):Int) (.int ((ys.getD i 0:Nat):Int) t)=true:=by
   simp[PySem.intKind,Value.isInt]
  refine BJ (AA ((PySem.intKind prog w).pyHash (k:=((ys.getD i 0:Nat):Int)) is1 ?_))
  have ey:ys[i]? = some (ys.getD i 0):=by simp[List.getD,hlt]
  have e1:ys.take (i+1)=ys.take i++[ys.getD i 0]:=by rw[DS,ey];rfl
  refine setAddD (s:={ s with heap:=h',toks:=s.toks+1 }) h3' (hb _ (AI ey)) fun h'' ds' sb2 h4 pm=>?_
  have hds':∀ d,d ∈ ds' ↔ d ∈ ys.take (i+1):=fun d=>by
   rw[pm.mem_iff,e1,AQ,AE,<- hds d]
   split
   ·rename_i hc
    constructor
    ·exact .inl
    ·rintro (z | rfl)
     ·exact z
     ·exact hc
   ·rw[AV]
    exact Or.comm
  refine AD ⟨BK BL _,ih (i+1) { s with heap:=h'',toks:=s.toks+1 } ds' (by omega) hlt ?_ ?_ h4 hds' fun h6 tk ds6 k6 s6 m6=>hR h6 tk ds6 (fun b o na nJ e=>k6 b o na nJ ((sb2.2 b na).trans ((sb.2 b nJ).trans e))) s6 m6⟩
  ·obtain⟨o,q1,q2⟩:=h1'
   exact⟨o,(sb2.2 J (BD aJ)).trans q1,q2⟩
  ·obtain⟨o,q1,q2⟩:=h2
   exact⟨o,(sb2.2 l (BD al)).trans ((sb.2 l hJ).trans q1),q2⟩
theorem X5 {l:Addr} {items:Array Value} {ys:List Nat} {Q:Value->Shared->Prop} (hh:A.handled=none) (hl:s.heap.IsList l items) (hi:∀ (i:Nat) (v:Value),items[i]? = some v->∃ t,v=.int ((ys.getD i 0:Nat):Int) t) (hn:items.size=ys.length) (hb:∀ y ∈ ys,y < 9)
  (h:∀ h' tk ds,DIs (!qx w) h' s.heap.objs.size ds->(∀ d,d ∈ ds ↔ d ∈ ys)->(∀ b o,b < s.heap.objs.size->s.heap.get? b=some o->h'.get? b=some o)->Q (.ref s.heap.objs.size) { s with heap:=h',toks:=tk }) :
  wpAny (model prog w) A (call (.type "set") [.ref l]) Q E s:=by
 obtain⟨c0,tl0,hmro⟩:=A8.mro
 have made:=A8.made;have subs:=A8.sub
 have nt:=A8.notType;have cc:=A8.canCreate;have tcall:=PySem.F.typeCall_set_1 (.ref l)
 refine wpAny_call (codeAny_of_tree ?_)
 show wpAny _ _ (callAny (.type "set") ⟨[.ref l],[]⟩) _ _ _
 refine AD ⟨Code.quiet_builtin _ (by decide +kernel),BA PySem.F.entry_type_call ?_⟩
 rw[Around.under_plain (weight_type_call_type "set" [.ref l] []) rfl]
 repeat (any_goals (first | assumption | wp_step))
 refine CL (Qt (.ref l) (E:=E) (Q₁:=fun v s1=>∃ b:Bool,b=(!qx w)/\v=.ref s.heap.objs.size/\s1 = { s with heap:=s.heap.push (qr b) }) ⟨_,rfl,rfl,rfl⟩) fun r s1 hr=>?_
 match r,hr with
 | .error e,hr=>exact hr
 | .ok (.ret v),hr=>
  obtain⟨b,eb,ev,es⟩:=hr
  subst ev es
  have at0:(s.heap.push (qr b)).get? s.heap.objs.size=some (qr b):=AO _ rfl
  have ty0:Shared.TypeIs { s with heap:=s.heap.push (qr b) } (.ref s.heap.objs.size) "set":=⟨_,at0,rfl⟩
  have il:=A8.init.lookup
  have ib:=A8.init.bind (.ref s.heap.objs.size)
  repeat (any_goals (first | assumption | wp_step))
  refine CL (codeAny_call_builtin (R:=wants (fun r s2=>r=.none/\∃ h' tk ds,s2 = { s with heap:=h',toks:=tk }/\DIs (!qx w) h' s.heap.objs.size ds/\(∀ d,d ∈ ds ↔ d ∈ ys)/\∀ b o,b < s.heap.objs.size->s.heap.get? b=some o->h'.get? b=some o) E) A8.init.plain PySem.F.entry_set_init (check_set_init_1 ty0 ?_)) fun r2 s2 hr2=>?_
  ·obtain⟨⟨oc,od,odt,osl⟩,hol,hcl,nl,hdl⟩:=id hl
   have hcl':oc=_:=hcl;have hdl':odt=_:=hdl
   subst hcl' hdl'
   have hol1:(s.heap.push (qr b)).get? l=some { cls:=.type "list",dict:=od,data:=.seq items nl,slots:=osl }:=AF _ hol
   have n1:=PySem.F.sub_list_set;have n2:=Ec
   have n3:(Value.type "list" == Value.type "dict")=false:=by decide
   have hl1:(s.heap.push (qr b)).IsList l items:=⟨_,hol1,rfl,nl,rfl⟩
   have lS:l < s.heap.objs.size:=AN hol
   have jS:(s.heap.push (qr b)).objs.size=s.heap.objs.size+1:=Bp ..
   unfold Builtin.«set.__init__» noKeywords Builtin.Frozenset.updateFrom
   generalize ePI:pyIter=PI
   wp_walk
   subst ePI
   refine Bo hl1 (AA (D6 ?_))
   refine X4 (bb:=!qx w) (J:=(s.heap.push (qr b)).objs.size) (l:=l) (a:=s.heap.objs.size) (items:=items) (ys:=ys) (by simp[hh]) (AR (by rw[jS];exact Au lS)) (AR (by rw[jS];exact BM _)) (BF lS) hi hn hb (ys.length - 0) 0 _ [] rfl (A9 _) ⟨_,AO _ rfl,rfl,rfl⟩ (hl1.push _) ?_ (fun d=>by simp) fun h' tk ds hk hS hm=>?_
   ·exact⟨_,#[],0,.fresh 0 0 b,AF _ at0,⟨rfl,rfl,rfl⟩,rfl,eb ▸ X0 b,fun e he=>by cases he⟩
   ·show wpAny _ _ _ _ _ _
    refine AD ?_
    show wpAny _ _ (ret Value.none) _ _ _
    refine AD ⟨rfl,h',tk,ds,rfl,hS,hm,fun c o hc e=>hk c o (AR hc) (AR (by rw[jS];exact Au hc)) (AF _ (AF _ e))⟩
  ·match r2,hr2 with
   | .error e,hr2=>exact hr2
   | .ok (.ret v),hr2=>
    obtain⟨ev,h',tk,ds,es,hS,hm,hk⟩:=hr2
    subst ev es
    repeat (any_goals (first | assumption | wp_step))
    exact h _ _ _ hS hm hk
   | .ok .next,hr2=>exact hr2.elim
   | .ok .brk,hr2=>exact hr2.elim
   | .ok .cont,hr2=>exact hr2.elim
 | .ok .next,hr=>exact hr.elim
 | .ok .brk,hr=>exact hr.elim
 | .ok .cont,hr=>exact hr.elim
end
theorem X6 {α:Type} (next:Nat->Nat):∀ (fuel k:Nat) (left:List α) (out:Array α),left.length=fuel->List.Perm (pickOrder.go next fuel k left out).toList (out.toList++left)
 | 0,k,left,out,h=>by
  unfold pickOrder.go
  rw[CO.mp h,BW]
 | fuel+1,k,left,out,h=>by
  unfold pickOrder.go
  have hlt:next k % left.length < left.length:=Cc _ (by omega)
  rw[AG hlt]
  dsimp only
  refine (X6 next fuel (k+1) _ _ (by rw[List.length_eraseIdx,if_pos hlt,h];rfl)).trans ?_
  rw[ED,CC]
  refine List.Perm.append_left _ ?_
  generalize next k % left.length=i at hlt
  rw[EF]
  show List.Perm (left[i] :: (left.take i++left.drop (i+1))) left
  refine EJ.symm.trans ?_
  rw[<- B3 hlt,B1]
theorem X7 {α:Type} (next:Nat->Nat) (xs:Array α):List.Perm (pickOrder next xs).toList xs.toList:=by
 have:=X6 next xs.size 0 xs.toList #[] (by simp)
 simpa [pickOrder] using this
theorem zx:Slot "set_iterator" "__next__" "set_iterator.__next__":=
 .of (owner := "set_iterator") (n := "__next__") (by rw[C5,CD];kernel_rfl) (by decide +kernel) (by decide +kernel) (by decide +kernel)
  (by first | exact .inl (by decide +kernel) | exact .inr (by decide +kernel)) (by rw[BZ];kernel_rfl)
theorem qt:entryFor table "set_iterator.__next__" = some Builtin.«set_iterator.__next__»:=entryFor_of_tree (by kernel_rfl)
theorem qC (a:Value):argsOk "set_iterator.__next__" ⟨[a],[]⟩:=by
 unfold argsOk;kernel_rfl
theorem jh:Slot "set_iterator" "__iter__" "set_iterator.__iter__":=
 .of (owner := "set_iterator") (n := "__iter__") (by rw[C5,CD];kernel_rfl) (by decide +kernel) (by decide +kernel) (by decide +kernel)
  (by first | exact .inl (by decide +kernel) | exact .inr (by decide +kernel)) (by rw[BZ];kernel_rfl)
theorem Zx:entryFor table "set_iterator.__iter__" = some Builtin.«dict_keyiterator.__iter__»:=entryFor_alias (id' := "dict_keyiterator.__iter__") (by kernel_rfl) rfl (by decide +kernel) (by kernel_rfl)
theorem Z2 (a:Value):argsOk "set_iterator.__iter__" ⟨[a],[]⟩:=by
 unfold argsOk;kernel_rfl
theorem jF:entryFor table "set.__iter__" = some Builtin.«frozenset.__iter__»:=entryFor_alias (id' := "frozenset.__iter__") (by kernel_rfl) rfl (by decide +kernel) (by kernel_rfl)
def JA (w:World) (a:Addr) (es:Array (Int×Value)) (ep:Nat):Array (Int×Value):=if qx w=true then pickOrder (w.params.setOrder a ep) es else es
theorem JB (w:World) (a:Addr) (es:Array (Int×Value)) (ep:Nat):List.Perm (JA w a es ep).toList es.toList:=by
 unfold JA
 split
 ·exact X7 _ _
 ·exact .refl _
theorem jm (w:World) (a:Addr) (es:Array (Int×Value)) (ep:Nat):(JA w a es ep).size=es.size:=by
 have:=(JB w a es ep).length_eq
 simpa using this
def j5 (w:World) (t:SetTable):Nat->Nat
 | 0=>0
 | i+1=>if qx w=true then 0 else t.place.getD i 0+1
theorem ym {w:World} {t:SetTable} (h:qx w=true):∀ i,j5 w t i=0
 | 0=>rfl
 | i+1=>if_pos h
theorem Qu {w:World} {t:SetTable} (h:qx w=false) (i:Nat):j5 w t (i+1)=t.place.getD i 0+1:=if_neg (by rw[h];simp)
def Qv (h:Heap) (I a:Addr) (sl i n ep:Nat):Prop:=∃ o,h.get? I=some o/\o.cls=.type "set_iterator" /\ o.data=.fields #[.int (sl:Nat) 0,.int (i:Nat) 0,.ref a,.int (n:Nat) 0,.int (ep:Nat) 0]
theorem Qv.typeIs {s:Shared} {I a:Addr} {sl i n ep:Nat} (x:Qv s.heap I a sl i n ep):s.TypeIs (.ref I) "set_iterator":=let ⟨o,ho,hc,_⟩:=x;⟨o,ho,hc⟩
def DAt (b:Bool) (h:Heap) (a:Addr) (es:Array (Int×Value)) (ep:Nat) (t:SetTable):Prop:=∃ o,h.get? a=some o/\o.ExactSet/\o.data=.set es ep t/\Dg es t b
section
variable {prog : Program} {w : World} {A : Around} {E : Value -> Shared -> Prop} {s : Shared} {a I : Addr} {es : Array (Int × Value)} {ep : Nat} {t : SetTable}
theorem QN {Q:Value->Shared->Prop} (hd:DAt (!qx w) s.heap a es ep t)
  (hQ:Q (.ref s.heap.objs.size) { s with heap:=s.heap.push { cls:=.type "set_iterator",data:=.fields #[.int (0:Nat) 0,.int (0:Nat) 0,.ref a,.int (es.size:Nat) 0,.int (ep:Nat) 0] } }) :
  wpAny (model prog w) A (pyIter (.ref a)) Q E s:=by
 obtain⟨o,ho,hx,hdat,hg⟩:=hd
 have hf:=hg.fits
 have hT:s.TypeIs (.ref a) "set":=⟨o,ho,hx.1⟩
 refine Ck hT B0 (Ay B0 hT jF ?_ (DX _))
 unfold Builtin.«frozenset.__iter__» Builtin.Frozenset.slot0
 refine AA (AA (AD ?_))
 refine AD ?_
 unfold Builtin.Frozenset.sizeOf setEntries
 refine AA (AA (AA (A1 ho hdat hf (AD (AD ?_)))))
 unfold setDrawn setsByText
 refine AA (AA (A1 ho hdat hf ?_))
 refine AA (AA (Bh (AD (AD ?_))))
 refine BE (fun hab=>absurd (show (!(qx w) && (!t.plain && decide (es.size > 1)))=true from hab) (by rw[hg.plain];simp)) (fun _=>AA (AD ?_))
 refine AA (Ea ho hdat hf ?_)
 refine AA (Ap ?_)
 exact AD ⟨_,rfl, "set_iterator",_,⟨_,AO _ rfl,rfl⟩,zx.lookup,hQ⟩
theorem wP {xs:Array Nat} (hr:Rs xs):SetTable.below xs 0=0:=by
 rw[Qr hr]
 unfold wK
 rw[List.filter_eq_nil_iff.mpr fun x _=>by simp]
 rfl
theorem xr {b:Bool} (hg:Dg es t b) (ht:qx w=false):∀ (i:Nat),i<=t.place.size->SetTable.below t.place (j5 w t i)=i
 | 0,_=>wP hg.ti.rs
 | i+1,hi=>by
  rw[Qu ht]
  exact wL hg.ti.rs (by simp[Array.getD,show i < t.place.size by omega])
theorem YL {Q:Option (Value×Nat)->Shared->Prop} {i:Nat} (hi:i<=es.size) (hd:DAt (!qx w) s.heap a es ep t)
  (hQ:Q ((JA w a es ep)[i]?.map fun e=>(e.2,j5 w t (i+1))) s) :
  wpAny (model prog w) A (setNext a (j5 w t i) i ep) Q E s:=by
 obtain⟨o,ho,hx,hdat,hg⟩:=id hd
 have hf:=hg.fits
 unfold setNext setsByText
 refine AA (A1 ho hdat hf ?_)
 refine AA (AA (Bh (AD ?_)))
 refine BE (fun hab=>?_) (fun hab=>?_)
 ·have ht:qx w=true:=hab
  rw[if_neg (by simp)]
  unfold setWalk setsByText
  refine AA (AA (A1 ho hdat hf ?_))
  refine AA (AA (Bh (AD ?_)))
  refine BE (fun _=>?_) (fun hn=>absurd hab hn)
  refine AA (Bh (AD (AD ?_)))
  rw[ym ht] at hQ ⊢
  unfold JA at hQ
  rw[if_pos ht] at hQ
  exact hQ
 ·have ht:qx w=false:=DT.mpr hab
  refine BE (fun hdr=>absurd (show (!t.plain && decide (es.size > 1))=true from hdr) (by rw[hg.plain];simp)) (fun _=>?_)
  have hled:t.led=true:=by rw[hg.ti.led,ht];rfl
  show wpAny _ _ (_ >>= _) _ _ _
  refine AA (BO (a:=()) (show (if (!t.led && !es.isEmpty)=true then (unsupported "set:maker-not-led" : Sem Unit) else pure ())=pure () by rw[hled];rfl) ?_)
  refine AD ?_
  rw[xr hg ht i (by rw[hg.len];exact hi)]
  unfold JA at hQ
  rw[if_neg (by rw[ht];simp),Qu ht] at hQ
  by_cases hlt:i < es.size
  ·have e1:es[i]? = some es[i]:=by simp[hlt]
   have hlt':i < t.place.size:=by rw[hg.len];exact hlt
   have e2:t.place[i]? = some (t.place.getD i 0):=by simp[Array.getD,hlt']
   rw[e1] at hQ ⊢
   rw[e2]
   exact hQ
  ·have e1:es[i]? = none:=Bi (by omega)
   rw[e1] at hQ ⊢
   exact hQ
theorem Q3 {Q:Option Value->Shared->Prop} {i:Nat} {e:Int×Value} (hit:Qv s.heap I a (j5 w t i) i es.size ep) (hd:DAt (!qx w) s.heap a es ep t) (he:(JA w a es ep)[i]? = some e)
  (hQ:∀ h',Qv h' I a (j5 w t (i+1)) (i+1) es.size ep->Heap.SameBut I s.heap h'->Q (some e.2) { s with heap:=h' }) :
  wpAny (model prog w) A (pyNext (.ref I)) Q E s:=by
 obtain⟨oI,hoI,hcI,hdI⟩:=id hit
 obtain⟨o,ho,hx,hdat,hg⟩:=id hd
 have hf:=hg.fits
 unfold pyNext
 refine AA (Bk (wpAny_callSpecial?_slot (name:=Str.ofString "__next__") hit.typeIs zx
  (Ay zx hit.typeIs qt ?_ (qC _))))
 unfold Builtin.«set_iterator.__next__»
 refine AA (AD ?_)
 refine AA (DF hoI hdI ?_)
 dsimp only
 unfold setEntries
 refine AA (AA (A1 ho hdat hf (AD ?_)))
 rw[if_neg (by simp)]
 have hi:i < es.size:=by
  have:=(Ce.mp he).1
  rwa [jm] at this
 simp only[Int.toNat_natCast]
 refine AA (YL (Br hi) hd ?_)
 rw[he]
 dsimp only[Option.map_some]
 refine AA (BP hoI hdI (by simp) ?_)
 have h1:=Aj (Obj.mapFields (·.setIfInBounds 0 (rawInt ((j5 w t (i+1):Nat):Int)))) hoI (BS (Az hdI _))
 have d1:=Az hdI (·.setIfInBounds 0 (rawInt ((j5 w t (i+1):Nat):Int)))
 refine AA (BP h1 d1 (by simp) ?_)
 refine AD ⟨_,rfl,AD (hQ _ ⟨_,Aj _ h1 (BS (Az d1 _)),?_,?_⟩ ((A5 ..).trans (A5 ..)))⟩
 ·rw[CN,CN]
  exact hcI
 ·rw[Az d1]
  simp[rawInt]
theorem JC {Q:Option Value->Shared->Prop} (hh:A.handled=none) (hit:Qv s.heap I a (j5 w t es.size) es.size es.size ep) (hd:DAt (!qx w) s.heap a es ep t)
  (hQ:∀ h',Heap.ExtBut I s.heap h'->Q none { s with heap:=h' }) :
  wpAny (model prog w) A (pyNext (.ref I)) Q E s:=by
 obtain⟨oI,hoI,hcI,hdI⟩:=id hit
 obtain⟨o,ho,hx,hdat,hg⟩:=id hd
 have hf:=hg.fits
 unfold pyNext
 refine AA (Bk (wpAny_callSpecial?_slot (name:=Str.ofString "__next__") hit.typeIs zx
  (Ay zx hit.typeIs qt ?_ (qC _))))
 unfold Builtin.«set_iterator.__next__»
 refine AA (AD ?_)
 refine AA (DF hoI hdI ?_)
 dsimp only
 unfold setEntries
 refine AA (AA (A1 ho hdat hf (AD ?_)))
 rw[if_neg (by simp)]
 simp only[Int.toNat_natCast]
 refine AA (YL (AK _) hd ?_)
 rw[Bi (by rw[jm];exact AK _)]
 dsimp only[Option.map_none]
 refine AA (BP hoI hdI (by simp) ?_)
 show wpAny _ _ (newExc (.type "StopIteration") [] >>= _) _ _ _
 refine AA ?_
 simp only[newExc,newTuple]
 refine AA (Ap ?_ (by size_fits))
 refine AA (m:=firstArgMember _ _) (BO (a:=Value.none) (by first | rfl | (simp only[firstArgMember];rfl)) ?_)
 refine Ap ?_ (by size_fits)
 simp only[raiseNew]
 refine AA (Dm ?_)
 rw[show A.in1.handled=none from hh]
 refine AA (AD (D5 ?_))
 refine AA (Bb (T := "StopIteration") (b:=true) ⟨_,AO _ rfl,rfl⟩ D7 ?_)
 exact AD (hQ _ (((A5 ..).extBut.push _).push _))
end
open PySem PySem.Spec PyProof.Rows PySem.W
section
variable {prog : Program} {w : World} {A : Around} {E : Value -> Shared -> Prop} {s : Shared} {a : Addr} {es : Array (Int × Value)} {ep : Nat} {t : SetTable}
theorem JD {Q:Bool->Shared->Prop} (hT:s.TypeIs (.ref a) "set") (h:Q false s):wpAny (model prog w) A (Builtin.List.listLengthHint (.ref a)) Q E s:=by
 unfold Builtin.List.listLengthHint
 refine AA (CZ hT PySem.F.slot_set_len.lookup ?_)
 generalize hid:("set.__len__" : String)=id0
 wp_delta
 rw[show splitId id0=some ("set", "__len__") from by subst hid;decide +kernel]
 subst hid
 refine AA (Bb (T := "set") (b:=true) hT (by rw[BZ];kernel_rfl) ?_)
 refine BE (fun hab=>absurd hab (by decide)) (fun _=>?_)
 refine BE (fun _=>?_) (fun hab=>absurd (by decide +kernel) hab)
 refine AA (Bm hT ?_)
 exact AD h
theorem DAt.keep {b:Bool} {h h':Heap} (x:DAt b h a es ep t) (k:∀ o,h.get? a=some o->h'.get? a=some o):DAt b h' a es ep t:=let ⟨o,ho,r⟩:=x;⟨o,k o ho,r⟩
theorem Qv.keep {h h':Heap} {I a:Addr} {sl i n ep:Nat} (x:Qv h I a sl i n ep) (k:∀ o,h.get? I=some o->h'.get? I=some o):Qv h' I a sl i n ep:=let ⟨o,ho,r⟩:=x;⟨o,k o ho,r⟩
theorem JE {Q:Value->Shared->Prop} {I a:Addr} {sl i n ep:Nat} (hit:Qv s.heap I a sl i n ep) (h:Q (.ref I) s):wpAny (model prog w) A (pyIter (.ref I)) Q E s:=by
 refine Ck hit.typeIs jh (Ay jh hit.typeIs Zx ?_ (Z2 _))
 show wpAny _ _ (ret (.ref I)) _ _ s
 exact AD ⟨_,rfl, "set_iterator",_,hit.typeIs,zx.lookup,h⟩
theorem xt (hh:A.handled=none) (I:Addr) (hne:a ≠ I):Walks prog w A I [I,a] [I] es.size (fun i v=>∃ e,(JA w a es ep)[i]? = some e/\v=e.2) (fun i h=>Qv h I a (j5 w t i) i es.size ep/\DAt (!qx w) h a es ep t) where
 sub:=fun b hb=>by simp at hb;simp[hb]
 frame:=fun _ _ _ st hk=>⟨st.1.keep fun o e=>hk I (by simp) o e,st.2.keep fun o e=>hk a (by simp) o e⟩
 item:=fun i s Q E hi st hQ=>by
  have hi':i < (JA w a es ep).size:=by rw[jm];exact hi
  have he:(JA w a es ep)[i]? = some ((JA w a es ep)[i]'hi'):=Bl hi'
  refine Q3 st.1 st.2 he fun h' hit' hs'=>?_
  exact hQ _ h' s.toks ⟨_,he,rfl⟩ ⟨hit',st.2.keep fun o e=>hs'.extBut a o hne e⟩ fun b o hb e=>hs'.extBut b o (fun h=>hb (by simp[h])) e
 done:=fun s Q E st hQ=>JC hh st.1 st.2 fun h' he'=>hQ h' s.toks fun b o hb e=>he' b o (fun h=>hb (by simp[h])) e
 self:=fun _ _ _ _ st hQ=>JE st.1 hQ
theorem kdl_setD:KdlSrc prog w "set" a a es.size (fun i v=>∃ e,(JA w a es ep)[i]? = some e/\v=e.2) (fun h=>DAt (!qx w) h a es ep t) where
 type:=fun _ hm=>let ⟨o,ho,hx,_⟩:=hm;⟨o,ho,hx.1⟩
 there:=fun _ hm=>let ⟨o,ho,_⟩:=hm;⟨AN ho,AN ho⟩
 keep:=fun _ _ hm hk=>hm.keep fun o e=>hk a (.inl rfl) o e
 notList:=by decide
 notTuple:=by decide
 hint:=fun _ _ _ _ hm hq=>JD (let ⟨o,ho,hx,_⟩:=hm;⟨o,ho,hx.1⟩) hq
 iter:=fun _ s hh hm=>⟨_,_,(fun _ _ hq=>QN hm hq),xt hh _ (let ⟨o,ho,_⟩:=hm;AR (AN ho)),⟨⟨_,AO _ rfl,rfl,rfl⟩,hm.keep fun o e=>AF _ e⟩⟩
theorem xu {ns:List Int} {acc:Array Value} {W:Array (Int×Value)} (hi:ItemsOf (fun i v=>∃ e,W[i]? = some e/\v=e.2) acc W.size) (hv:∀ e ∈ W.toList,∃ tk,e.2=Value.int e.1 tk):IntsAre acc.toList (W.toList.map Prod.fst):=by
 have key:∀ (us:List Value) (es:List (Int×Value)),us.length=es.length->(∀ (i:Nat) u,us[i]? = some u->∃ e,es[i]? = some e/\u=e.2)->(∀ e ∈ es,∃ tk,e.2=Value.int e.1 tk)->IntsAre us (es.map Prod.fst):=by
  intro us
  induction us with
  | nil=>
   intro es hl _ _
   cases es with
   | nil=>exact .nil
   | cons e es=>cases hl
  | cons u us ih=>
   intro es hl hi hv
   cases es with
   | nil=>cases hl
   | cons e es=>
    obtain⟨e',h1,h2⟩:=hi 0 u rfl
    obtain rfl:e=e':=by simpa using h1
    obtain⟨tk,h3⟩:=hv e (AW ..)
    rw[h2,h3]
    exact .cons _ tk (ih es (by simpa using hl) (fun i u hu=>hi (i+1) u (by simpa using hu)) fun e he=>hv e (AY _ he))
 refine key _ _ ?_ (fun i u hu=>?_) hv
 ·rw[Av,Av]
  exact hi.1
 ·obtain⟨e,h1,h2⟩:=hi.2 i u (by rw[<- B2];exact hu)
  exact⟨e,by rw[B2];exact h1,h2⟩
theorem Yc {ds:List Nat} {Q:Value->Shared->Prop} (hh:A.handled=none) (hd:DIs (!qx w) s.heap a ds)
  (h:∀ (h1 h':Heap) (tk:Nat) (out:Array Value) (e:Nat) (ns':List Int),(∀ b o,s.heap.get? b=some o->h1.get? b=some o)->(∀ b o,h1.get? b=some o->h'.get? b=some o)->h'.get? h1.objs.size=some (seqObj "list" out e)->IntsAre out.toList ns'->ns'.Perm (ds.map fun (d:Nat)=>(d:Int))->ns'.Pairwise (· <= ·)->Q (.ref h1.objs.size) { s with heap:=h',toks:=tk }) :
  wpAny (model prog w) A (call (.builtin "sorted") [.ref a]) Q E s:=by
 obtain⟨o,es,ep,t,ho,hx,hdat,hg,hv⟩:=hd
 have hs:=hg.dg.small
 have h9:es.size<=sizeLine:=CK (by unfold scanBound;omega)
 refine Calls.call_function_entry kind_sorted plain_sorted entry_sorted (args_sorted1 _) ?_
 unfold Builtin.«sorted»
 refine AA (m:=checkCount "sorted" 1 1 _) (AD ?_)
 refine AA (kdu_collect (A:=A.in1) (kdl_setD (a:=a) (es:=es) (ep:=ep) (t:=t)) hh ⟨o,ho,hx,hdat,hg.dg⟩ h9 fun h' tk acc hk hacc=>?_)
 have wp:=JB w a es ep
 have hacc':=hacc
 rw[<- jm w a es ep] at hacc'
 have hI:=xu (ns:=[]) hacc' fun e he=>hv e (wp.mem_iff.mp he)
 have hl:acc.toList.length=es.size:=by rw[Av];exact hacc.1
 have hp:List.Perm ((JA w a es ep).toList.map Prod.fst) (ds.map fun (d:Nat)=>(d:Int)):=by
  have:=wp.map Prod.fst
  have he:=hg.he
  rw[show (fun (x:Int×Value)=>x.1)=Prod.fst from rfl] at he
  rwa [he] at this
 refine AA (wpAny_newList ?_ (by rw[hl];exact h9))
 have hoL:(h'.push (seqObj "list" acc.toList.toArray 0)).get? h'.objs.size=some (seqObj "list" acc.toList.toArray 0):=AO _ rfl
 show wpAny _ _ _ _ _ { s with heap:=h'.push (seqObj "list" acc.toList.toArray 0),toks:=tk }
 refine AA (BJ (Ay slot_list_sort ⟨_,hoL,rfl⟩ entry_list_sort (list_sort_tree hoL hI (by omega) fun out ns' a1 a2 a3=>⟨_,rfl,?_⟩) (args_list_sort _)))
 obtain⟨e,he⟩:=sortedHeap_at (vs:=acc.toList) (out:=out) hoL
 exact AD ⟨_,rfl,h h' _ tk out e ns' hk (fun b o q1=>by
  have hb:=AN q1
  rw[sortedHeap_old (AR hb) (by rw[Bp];exact Au hb)]
  exact AF _ q1) he a1 (a2.trans hp) a3⟩
end
def DSet (w:World) (a:Addr) (ds:List Nat):HO:=.ext fun h=>DIs (!qx w) h a ds
def nI (d:Nat):V:=.int (d:Int)
section
variable {X : Cx}
theorem wQ (K:PySem.W.Frag) (hc:X.calm=true) (hK:X.K=K:=by rfl):jB X (.type "set") (fun xs H Q=>∃ (p:Addr) (ys:List Nat),xs=[.ref p]/\SqL K H p (ys.map nI)/\(∀ y ∈ ys,y < 9)/\∀ (a:Addr) (ds:List Nat),H a=none->ds.Nodup->(∀ d,d ∈ ds ↔ d ∈ ys)->Q (.ref a) (upd H a (DSet X.w a ds))):=by
 subst hK
 intro pins s σ H xs us Q I r h
 obtain⟨p,ys,rfl,hq,hz,q⟩:=h
 obtain⟨u,rfl,ru⟩:=vals1 r
 cases ru
 obtain⟨its,rv,pl,_⟩:=I.list hq
 have hl:=rv.length
 rw[AB] at hl
 refine X5 (I.ok.hd hc) pl.isList (ys:=ys) (fun i v hv=>?_) (by simpa using hl.symm) hz fun h' tk ds hS hm hk=>?_
 ·have hv':its[i]? = some v:=by simpa using hv
  have hi:=(AC.mp hv').1
  have e1:(ys.map nI)[i]? = some (nI (ys.getD i 0)):=by
   rw[AJ]
   simp[List.getD,show i < ys.length by omega]
  obtain⟨u,hu,t,e⟩:=rv.get e1
  rw[hv'] at hu
  cases hu
  exact⟨t,e⟩
 have fr:=I.hok.fresh (AK s.heap.objs.size)
 have nd:ds.Nodup:=by obtain⟨_,_,_,_,_,_,_,hg,_⟩:=hS;exact hg.nd
 refine⟨.ref s.heap.objs.size,_,I.laid (t':=tk) (o:=DSet X.w s.heap.objs.size ds) (fun b o e=>hk b o (AN e) e) (AK _) ⟨hS,?_,fun h1 h2 z k=>z.keep k⟩,rfl,q _ ds fr nd hm⟩
 obtain⟨o,_,_,_,ho,_⟩:=hS
 exact⟨o,ho⟩
theorem Qw (hc:X.calm=true):jB X (.builtin "sorted") (fun xs H Q=>∃ (a:Addr) (ds:List Nat),xs=[.ref a]/\H a=some (DSet X.w a ds)/\∀ (l:Addr) (ms:List Nat),H l=none->ms.Perm ds->ms.Pairwise (· <= ·)->Q (.ref l) (upd H l (.lst (ms.map nI)))):=by
 intro pins s σ H xs us Q I r h
 obtain⟨a,ds,rfl,ha,q⟩:=h
 obtain⟨u,rfl,rx⟩:=vals1 r
 cases rx
 have hd:=(I.hok a _ ha).1
 refine Yc (I.ok.hd hc) hd fun h1 h' tk out e ns' k1 k2 he a1 a2 a3=>?_
 have I1:Inv X pins σ H { s with heap:=h1,toks:=tk }:=I.un (Un.kept k1) (I.hok.kept k1)
 have sm:ds.length<=9:=by
  obtain⟨_,_,_,_,_,_,_,hg,_⟩:=hd
  rw[<- hg.len]
  exact hg.dg.small
 have en:ns'=(ns'.map Int.toNat).map fun (d:Nat)=>(d:Int):=by
  rw[A2]
  have:ns'.map id=ns'.map ((fun (d:Nat)=>(d:Int)) ∘ Int.toNat):=CI fun z hz=>by
   obtain⟨d,_,e⟩:=AM.mp (a2.mem_iff.mp hz)
   rw[<- e]
   rfl
  rwa [List.map_id] at this
 have ep:List.Perm (ns'.map Int.toNat) ds:=by
  have:=a2.map Int.toNat
  simpa [List.map_map,Function.comp_def] using this
 refine⟨.ref h1.objs.size,_,I1.laid (t':=tk) (o:=.lst ((ns'.map Int.toNat).map nI)) k2 (AK _) ?_,rfl,q _ (ns'.map Int.toNat) (I1.hok.fresh (AK _)) ep ?_⟩
 ·refine⟨by rw[AB,ep.length_eq];exact Ab sm (CK (by unfold scanBound;omega)),out.toList,e,?_,?_⟩
  ·have:=XC a1
   rw[en,A2] at this
   rw[A2] at *
   exact this
  ·simpa [seqObj] using he
 ·rw[CW]
  exact a3.imp fun h=>Int.toNat_le_toNat h
end
section
variable {X : Cx}
def rIndexL:V->List V->Hp->VK->Prop:=fun x vs H Q=>∃ p xs y j,x=.ref p/\vs=[y]/\H p=some (.lst xs)/\jY y=true/\xs.all jY=true/\(∃ v,xs[j]? = some v/\eqV v y=true)/\(∀ m v,m < j->xs[m]? = some v->eqV v y=false)/\Q (.int (j:Nat)) H
theorem X8:MtR X "list.index" rIndexL:=by
 intro pins s σ H x vs v us Q I rx rv h
 obtain⟨p,xs,y,j,rfl,rfl,hq,fy,fx,⟨vj,hj,ej⟩,hno,q⟩:=h
 cases rx
 obtain⟨u,rfl,ru⟩:=vals1 rv
 obtain⟨z,its,n,r,hlen,e⟩:=I.lstM hq
 have at_:∀ m (hm:m < its.toArray.size),∃ v,xs[m]? = some v/\eqU y its.toArray[m]=eqV v y:=fun m hm=>by
  have hm':m < xs.length:=by
   rw[hlen]
   simpa using hm
  have k1:xs[m]? = some xs[m]:=AG hm'
  obtain⟨w,e1,r1⟩:=r.get k1
  have w1:its.toArray[m]=w:=by
   have g1:m < its.length:=by simpa using hm
   rw[AG g1] at e1
   simpa using Ad e1
  refine⟨_,k1,?_⟩
  rw[w1]
  exact Xp r1 (A0.mp fx _ (AI k1))
 have hjx:=(AC.mp hj).1
 have hjl:j < its.toArray.size:=by
  simp
  omega
 have hjs:(j:Int) < 2 ^ 63 - 1:=by
  have:(sizeLine:Nat)<=2 ^ 60:=by decide
  have h2:j < 2 ^ 60:=by omega
  omega
 refine Cr F.slot_list_index ⟨_,e,rfl⟩ F.entry_list_index (F.args_list_index_2 _ _) (SeqAt.list_indexAt p its.toArray n none #[] u (eqU y) j hjl hjs ?_ ?_) ⟨e,fun w hw=>ZI ru fy r fx w (by simpa using hw),⟨.int _,H,I.tok _,⟨_,rfl⟩,q⟩⟩
 ·obtain⟨v,e1,e2⟩:=at_ j hjl
  rw[hj] at e1
  cases e1
  rw[e2]
  exact ej
 ·intro m hm hmj
  obtain⟨v,e1,e2⟩:=at_ m hm
  rw[e2]
  exact hno m v hmj e1
theorem qJ {α β:Type} {R:α->β->Prop} {as:List α} {bs:List β} (h:Paired R as bs):∀ {i:Nat} {a:α},as[i]? = some a->∃ b,bs[i]? = some b/\R a b:=by
 induction h with
 | nil=>intro i a e;simp at e
 | cons r _ ih=>
  intro i a e
  cases i with
  | zero=>
   simp at e
   subst e
   exact⟨_,rfl,r⟩
  | succ i=>
   obtain⟨b,e1,e2⟩:=ih (i:=i) (by simpa using e)
   exact⟨b,by simpa using e1,e2⟩
def Lls (H:Hp):List (List V)->List V->Prop:=Paired fun zs v=>∃ a,v=.ref a/\H a=some (.lst zs)
def lsAt (H:Hp) (ys:List V):Value->Bool
 | .ref a=>match H a with
  | some (.lst zs)=>Xx zs ys
  | _=>false
 | _=>false
theorem X9 {xs:List V} (h:xs.all jY=true):Xx xs xs=true:=by
 unfold Xx
 rw[Bg]
 refine⟨?_,by simp⟩
 rw[A0]
 intro p hp
 have h1:=DG hp
 have e:p.1=p.2:=by
  obtain⟨i,hi⟩:=List.getElem?_of_mem hp
  rw[List.getElem?_zip_eq_some] at hi
  rw[hi.1] at hi
  exact Ad hi.2
 rw[<- e]
 exact We (A0.mp h _ h1.1)
def rIndexLL:V->List V->Hp->VK->Prop:=fun x vs H Q=>∃ (p b:Addr) (xs:List V) (yss:List (List V)) (ys:List V) (j:Nat),x=.ref p/\vs=[.ref b]/\H p=some (.lst xs)/\Lls H yss xs/\(∀ zs ∈ yss,zs.all jY=true/\zs.length=ys.length)/\H b=some (.lst ys)/\ys.all jY=true/\(∃ zs,yss[j]? = some zs/\Xx zs ys=true)/\(∀ m zs,m < j->yss[m]? = some zs->Xx zs ys=false)/\Q (.int (j:Nat)) H
theorem xw {k:Nat} (hr:QI k X.A):MtR X "list.index" rIndexLL:=by
 intro pins s σ H x vs v us Q I rx rv h
 obtain⟨p,b,xs,yss,ys,j,rfl,rfl,hq,hL,hf,hb,fy,⟨zj,hj,ej⟩,hno,q⟩:=h
 cases rx
 obtain⟨u,rfl,ru⟩:=vals1 rv
 cases ru
 obtain⟨z,its,n,r,hlen,e⟩:=I.lstM hq
 obtain⟨zb,itb,nb,rb,hlb,eb⟩:=I.lstM hb
 have hun:X.A.in1.in1.units < cLine:=by
  have:=hr.units
  show X.A.units+1+1 < cLine
  omega
 have hxl:=Al hL
 have at_:∀ m (hm:m < its.toArray.size),∃ a zs,its.toArray[m]=.ref a/\H a=some (.lst zs)/\yss[m]? = some zs:=fun m hm=>by
  have hm':m < xs.length:=by
   rw[hlen]
   simpa using hm
  have k1:xs[m]? = some xs[m]:=AG hm'
  obtain⟨w,e1,r1⟩:=r.get k1
  have w1:its.toArray[m]=w:=by
   have g1:m < its.length:=by simpa using hm
   rw[AG g1] at e1
   simpa using Ad e1
  have k2:yss[m]? = some (yss[m]'(by omega)):=AG (by omega)
  obtain⟨v',k3,a,ea,ha⟩:=qJ hL k2
  rw[k1] at k3
  cases k3
  rw[ea] at r1
  cases r1
  exact⟨a,_,w1,ha,k2⟩
 have te:∀ m (hm:m < its.toArray.size) zs,yss[m]? = some zs->lsAt H ys its.toArray[m]=Xx zs ys:=fun m hm zs hz=>by
  obtain⟨a,zs',e1,e2,e3⟩:=at_ m hm
  rw[hz] at e3
  cases e3
  rw[e1]
  show (match H a with | some (.lst zs)=>Xx zs ys | _=>false)=_
  rw[e2]
 have hjy:=(AC.mp hj).1
 have hjl:j < its.toArray.size:=by
  simp
  omega
 have hjs:(j:Int) < 2 ^ 63 - 1:=by
  have:(sizeLine:Nat)<=2 ^ 60:=by decide
  have h2:j < 2 ^ 60:=by omega
  omega
 refine Cr F.slot_list_index ⟨_,e,rfl⟩ F.entry_list_index (F.args_list_index_2 _ _) (SeqAt.list_indexAt p its.toArray n none #[] (.ref b) (lsAt H ys) j hjl hjs ?_ ?_) ⟨e,fun w hw=>?_,⟨.int _,H,I.tok _,⟨_,rfl⟩,q⟩⟩
 ·rw[te j hjl zj hj]
  exact ej
 ·intro m hm hmj
  obtain⟨a,zs,_,_,e3⟩:=at_ m hm
  rw[te m hm zs e3]
  exact hno m zs hmj e3
 ·obtain⟨m,hm,rfl⟩:=Array.mem_iff_getElem.mp hw
  obtain⟨a,zs,e1,e2,e3⟩:=at_ m hm
  obtain⟨f1,f2⟩:=hf zs (AI e3)
  rw[te m hm zs e3,e1]
  by_cases hab:a=b
  ·subst hab
   rw[hb] at e2
   cases e2
   rw[X9 fy]
   exact SeqAt.EqAt.same _
  ·obtain⟨za,ita,na,ra,hla,ea⟩:=I.lstM e2
   have hz':ita.toArray.size=itb.toArray.size:=by simp;omega
   have k:=SeqAt.RcAt.lists (A:=X.A.in1.in1) (s:=s) (PySem.IsL.isList ea) (PySem.IsL.isList eb) hz' hun (eqAt_get ra rb f1 fy)
   have e4:ita.toArray.size=zs.length:=by simp;omega
   rw[e4,W6 zs ys f2] at k
   have e5:Xx zs ys=(zs.zip ys).all fun p=>eqV p.1 p.2:=by
    unfold Xx
    rw[f2]
    simp
   rw[e5]
   exact SeqAt.EqAt.of_in1 (SeqAt.EqAt.of_refs hab k)
end
section
variable {prog : Program} {w : World} {A : Around} {R : Result -> Shared -> Prop}
theorem zaa (hh:A.handled=none) (D L it:Addr) (items:Array Value) (c:Nat) (hDL:D ≠ L) (hDi:D ≠ it) (hLi:L ≠ it) (ps:List (Key×Value)) (hlen:ps.length=items.size) (hsz:c+ps.length<=sizeLine) :
  ∀ (n i:Nat) (s:Shared) (acc:List (Key×Value)),n+i=items.size->acc.length<=c+i->s.heap.IsListIter it L i->s.heap.IsList L items->s.heap.DictOf (zU prog w) D acc ->
  (∀ (j:Nat) (p:Key×Value) (v:Value),ps[j]? = some p->items[j]? = some v->ZY prog w s.heap v p.1 p.2) ->
  (∀ h' tk,h'.DictOf (zU prog w) D ((ps.drop i).foldl (fun (acc:List (Key×Value)) (p:Key×Value)=>stored acc p.1 p.2) acc)->(∀ b o,b ≠ D->b ≠ it->s.heap.get? b=some o->h'.get? b=some o)->R (.ok (.ret .none)) { s with heap:=h',toks:=tk }) ->
  codeAny (model prog w) A (.builtin "dict.update.loop" ⟨[.ref D,.ref it,rawInt i,.none],[]⟩) R s:=by
 intro n
 induction n with
 | zero=>
  intro i s acc hn hacc hit hl hd hp hR
  refine BA qB ?_
  rw[Ax zK _]
  show wpAny _ A.in1 (pyNext (.ref it) >>= _) _ _ s
  refine AA (Bs (show A.in1.handled=none from hh) hit hl (by simp;omega) fun h' eb=>?_)
  show wpAny _ _ (Builtin.Dict.addKeywords D [] >>= _) _ _ _
  refine AA (AD (AD (hR h' s.toks ?_ fun b o _ h2 e=>eb b o h2 e)))
  rw[Dd (by omega)]
  exact hd.extBut eb hDi
 | succ n ih=>
  intro i s acc hn hacc hit hl hd hp hR
  have hi:i < items.size:=by omega
  obtain⟨v,hv⟩:∃ v,items[i]? = some v:=⟨items[i],by simp[hi]⟩
  obtain⟨p,hpi⟩:∃ p,ps[i]? = some p:=⟨ps[i]'(by omega),by rw[AG (by omega)]⟩
  refine BA qB ?_
  rw[Ax zK _]
  show wpAny _ A.in1 (pyNext (.ref it) >>= _) _ _ s
  refine AA (Bn hit hl hv fun h1 hit1 hs1=>?_)
  obtain⟨oi,hoi,hci,_⟩:=hit
  have hp1:∀ (j:Nat) (p:Key×Value) (v:Value),ps[j]? = some p->items[j]? = some v->ZY prog w h1 v p.1 p.2:=fun j p v a b=>(hp j p v a b).keep (b0:=it) (fun b o hb e=>hs1.extBut b o hb e) fun o e=>by
   rw[hoi] at e;cases e;rw[hci];decide
  obtain⟨b,key,rfl,hb,hk⟩:=hp1 i p v hpi hv
  obtain⟨ot,e1,e2,nt,e3⟩:=id hb
  have hd1:=hd.extBut hs1.extBut hDi
  refine AA (BJ (AA (DV ?_)))
  unfold Builtin.Dict.pairItems
  refine AA (Bm (T := "tuple") ⟨ot,e1,e2⟩ ?_)
  rw[if_pos (by decide)]
  refine AA (CS e1 e3 (AD ?_))
  show wpAny _ _ (holding [key,p.2] (dictSet D key p.2)) _ _ _
  refine BJ (wpAny_dictSet_pairs (hsz:=by omega) hk hd1 fun h2 hd2 hs2=>?_)
  refine AD ⟨BK zK _,?_⟩
  have hl1:h1.IsList L items:=hl.extBut hs1.extBut hLi
  have hle:(stored acc p.1 p.2).length<=c+(i+1):=by
   unfold stored
   split
   ·rw[AB];omega
   ·rw[AH];simp;omega
  obtain⟨oD,_,_,hoD,hcD,_⟩:=hd1
  have:=ih (i+1) { s with heap:=h2,toks:=s.toks+1 } (stored acc p.1 p.2) (by omega) hle (hit1.extBut hs2.extBut (BD hDi)) (hl1.extBut hs2.extBut (BD hDL)) hd2 (fun j p v a b=>(hp1 j p v a b).keep (b0:=D) (fun b o hb e=>hs2.extBut b o hb e) fun o e=>by
    rw[hoD] at e;cases e;rw[hcD.1];decide) fun h' tk hd' hk'=>?_
  ·simpa using this
  ·refine hR h' tk ?_ fun b o h1 h2 e=>hk' b o h1 h2 (hs2.extBut b o h1 (hs1.extBut b o h2 e))
   have e4:ps.drop i=p :: ps.drop (i+1):=by
    rw[AC] at hpi
    obtain⟨h5,h6⟩:=hpi
    rw[<- h6]
    exact B3 h5
   rw[e4,B5]
   exact hd'
theorem JF (D L:Addr) (hDL:D ≠ L) (kvs ps:List (Key×Value)) (items:Array Value) (k:Nat) (hlen:ps.length=items.size) (hsz:kvs.length+ps.length<=sizeLine) :
  MeetsIn prog w (Builtin.«dict.update» ⟨[.ref D,.ref L],[]⟩) (fun A R s=>A.handled=none/\s.heap.get? L=some { cls:=.type "list",data:=.seq items k }/\s.heap.DictOf (zU prog w) D kvs/\(∀ (j:Nat) (p:Key×Value) (v:Value),ps[j]? = some p->items[j]? = some v->ZY prog w s.heap v p.1 p.2) /\
   ∀ h' tk,h'.DictOf (zU prog w) D (ps.foldl (fun (acc:List (Key×Value)) (p:Key×Value)=>stored acc p.1 p.2) kvs)->(∀ b o,b ≠ D->s.heap.get? b=some o->h'.get? b=some o)->R (.ok (.ret .none)) { s with heap:=h',toks:=tk }):=by
 intro A R s ⟨hh,hx,hd,hp,h⟩
 unfold Builtin.«dict.update»
 refine AA ?_
 unfold Builtin.Dict.selfAndRest
 refine AA (Dv hd.typeIs ?_)
 show wpAny _ _ (pure (D,[Value.ref L])) _ _ s
 refine AD ?_
 show wpAny _ _ (Builtin.Dict.updateFrom "dict.update" D (.ref L) [] .none) _ _ s
 unfold Builtin.Dict.updateFrom
 refine AA (Bm (T := "list") ⟨_,hx,rfl⟩ ?_)
 rw[if_pos (by decide)]
 refine AA (Jt hx rfl rfl rfl (show A.in1.handled=none from hh) fun h' tk kp=>?_)
 rw[if_pos (by rfl)]
 have hL':h'.IsList L items:=⟨_,kp _ _ hx,rfl,k,rfl⟩
 refine AA (Bd (AA (Bo hL' ?_)))
 have Llt:L < h'.objs.size:=AN (kp _ _ hx)
 have Dlt:D < h'.objs.size:=by
  obtain⟨o,_,_,e,_⟩:=id hd
  exact AN (kp _ _ e)
 refine AD ⟨BK zK _,?_⟩
 have it0:(h'.push { cls:=.type "list_iterator",data:=.fields #[.ref L,.int 0 0] }).IsListIter h'.objs.size L 0:=⟨_,AO _ rfl,rfl,rfl⟩
 have hd':(h'.push { cls:=.type "list_iterator",data:=.fields #[.ref L,.int 0 0] }).DictOf (zU prog w) D kvs:=by
  obtain⟨od,es,ep,e,r⟩:=hd
  exact⟨od,es,ep,AF _ (kp _ _ e),r⟩
 refine zaa (A:=A) hh D L h'.objs.size items kvs.length hDL (AR Dlt) (AR Llt) ps hlen hsz items.size 0 { s with heap:=h'.push { cls:=.type "list_iterator",data:=.fields #[.ref L,.int 0 0] },toks:=tk } kvs rfl (AK _) it0 ⟨_,AF _ (kp _ _ hx),rfl,k,rfl⟩ hd' (fun j p v a b=>?_) fun h2 tk2 hd2 hk2=>?_
 ·obtain⟨bb,key,e1,⟨ot,e2,r⟩,e3⟩:=hp j p v a b
  exact⟨bb,key,e1,⟨ot,AF _ (kp _ _ e2),r⟩,e3⟩
 ·refine h h2 tk2 ?_ fun b ob hb e=>hk2 b ob hb (AR (AN (kp _ _ e))) (AF _ (kp _ _ e))
  rw[DP] at hd2
  exact hd2
end
section
variable {X : Cx}
def rUpdP:V->List V->Hp->VK->Prop:=fun x vs H Q=>∃ d p kvs xs ps,x=.ref d/\vs=[.ref p]/\H d=some (.dK kvs)/\H p=some (.lst xs)/\Prs H xs ps/\kvs.length+ps.length<=sizeLine/\Q .non (upd H d (.dK (putAll kvs ps)))
theorem mt_updP (hc:X.calm=true):MtR X "dict.update" rUpdP:=by
 intro pins s σ H x vs v us Q I rx rv h
 obtain⟨d,p,kvs,xs,ps,rfl,rfl,hd0,hq,hps,hz,q⟩:=h
 cases rx
 obtain⟨u,rfl,ru⟩:=vals1 rv
 cases ru
 obtain⟨z,hb,es,rel,dd⟩:=dk_of I.hok hd0
 obtain⟨hzl,its,n,rvl,eo⟩:=(show qI X.prog X.w H s.heap p (.lst xs) from I.hok p _ hq)
 obtain⟨rs,rk,hpa⟩:=prs_at I.hok hps rvl
 have a1:=rk.length
 have a2:=Al hps
 have a3:=rvl.length
 have a4:=rel.length
 have ne:d ≠ p:=fun e=>by
  rw[e,hq] at hd0
  cases hd0
 refine call_meetsIn PySem.F.slot_dict_update dd.typeIs PySem.F.entry_dict_update (PySem.F.args_dict_update_2 _ _) (JF d p ne es rs its.toArray n (by simp;omega) (by omega)) ⟨I.ok.hd hc,eo,dd,fun j p v a b=>hpa j p v a (by simpa using b),fun h' tk hd' kp=>?_⟩
 have hl:(putAll kvs ps).length<=sizeLine:=by
  have:=jw ps kvs
  omega
 have he:∃ o,h'.get? d=some o:=let ⟨o,_,_,ho,_⟩:=hd';⟨o,ho⟩
 refine⟨.non,_,I.write (x:=d) (e:=d) (t':=tk) (o:=.dK (putAll kvs ps)) (by rw[hd0];exact True.intro) (.inl rfl) kp he ⟨hl,hb,_,XM rk rel,hd'⟩,rfl,q⟩
end
section
variable {X : Cx}
def tDispT (tk tv:TE):TE:=fun σ H Q=>∀ p,H p=none->tk σ (upd H p (.dT [])) fun x H1=>tv σ H1 fun y H2=>H2 p=some (.dT [])/\∃ b k,x=.ref b/\H2 b=some (.tup (k.map kV))/\Q (.ref p) (upd H2 p (.dT [(k,y)]))
theorem pe_dispT {pos:Pos} {k v:Expr} {tk tv:TE} {j:Nat} (hr:QI j X.A) (hk:PE X k tk) (hv:PE X v tv):PE X (.Dict [some k] [v] pos) (tDispT tk tv):=by
 intro pins s σ H Q I q
 have hu:X.A.units+64 < cLine:=hr.units
 have hn:=I.hok.fresh (AK s.heap.objs.size)
 have I1:=I.laid (a:=s.heap.objs.size) (o:=.dT []) (h':=s.heap.push { cls:=.type "dict",data:=.dict #[] }) (t':=s.toks) (fun _ _ q=>AF _ q) (AK _) (dt_empty s.heap I.big)
 refine wpAny_Dict_any rfl rfl (by simp) (show 1<=15 by decide) (pairTrees_cons_walk (thn (hk pins _ σ _ _ I1 (q _ hn)) fun u s1 ⟨x,H1,I1',rx,q1⟩=>thn (hv pins s1 σ H1 _ I1' q1) fun w2 s2 ⟨y,H2,I2,ry,e,b,kk,ex,eb,q2⟩=>pairTrees_nil_walk ?_))
 subst ex
 obtain rfl:u=Value.ref b:=rx
 obtain⟨z,hd,xs,rel,dd⟩:=dt_of I2.hok e
 have hz:xs.length<=sizeLine:=by rw[<- Al rel];exact z
 unfold storeAll
 rw[List.forIn_cons]
 refine AA (AA (wpAny_dictSet_heap (hsz:=hz) (knd:=tupleKind (zU X.prog X.w)) (show X.A.units < cLine by omega) (Jr I2.hok eb) dd fun h' dd' hs=>AD ?_))
 dsimp only
 rw[List.forIn_nil]
 refine AD ⟨.ref s.heap.objs.size,_,?_,rfl,q2⟩
 obtain⟨q',es,ep,hq,h2,h3,h4,_,h5⟩:=dd'
 refine yW I2 (by rw[e];exact True.intro) hs ⟨q',hq⟩ ⟨by show 1<=sizeLine;decide,hd,_,(rel.put kk eb ry).keeps fun c ys ec=>?_,q',es,ep,hq,h2,h3,h4,h5⟩
 rw[zI (Y5 ec e (fun z=>nomatch z))]
 exact ec
end
end L2
namespace L4
open PySem L2
-- residuation
inductive Sy where
 | ltr (x:Str)
 | n0 (nm:Str)
 | n1 (nm:Str) (a:Sy)
 | n2 (nm:Str) (a b:Sy)
namespace Sy
def nm:Sy->Str
 | ltr x=>x
 | n0 n=>n
 | n1 n _=>n
 | n2 n _ _=>n
def ps:Sy->List Sy
 | ltr _=>[]
 | n0 _=>[]
 | n1 _ a=>[a]
 | n2 _ a b=>[a,b]
def isL:Sy->Bool
 | ltr _=>true
 | _=>false
def dp:Sy->Nat
 | ltr _=>0
 | n0 _=>1
 | n1 _ a=>a.dp+1
 | n2 _ a b=>max a.dp b.dp+1
def sz:Sy->Nat
 | ltr _=>1
 | n0 _=>1
 | n1 _ a=>a.sz+1
 | n2 _ a b=>a.sz+b.sz+1
def mk (nm:Str):List Sy->Sy
 | []=>n0 nm
 | [a]=>n1 nm a
 | a :: b :: _=>n2 nm a b
end Sy
theorem Sy.dp_lt {s a:Sy} (h:a ∈ s.ps):a.dp < s.dp:=by
 cases s with
 | ltr x=>cases h
 | n0 n=>cases h
 | n1 n b=>
  rw[AE.mp h]
  exact BM _
 | n2 n b c=>
  show a.dp < max b.dp c.dp+1
  rcases AV.mp h with rfl | h
  ·omega
  ·rw[AE.mp h]
   omega
theorem Sy.sz_ps (s:Sy):(s.ps.map Sy.sz).sum+1=s.sz:=by
 cases s <;> simp[Sy.ps,Sy.sz]
def jL (H:Hp):Sy->V->Prop
 | .ltr x,v=>v=.str x
 | .n0 nm,v=>∃ t,v=.ref t/\H t=some (.tup [.str nm])
 | .n1 nm a,v=>∃ t u,v=.ref t/\H t=some (.tup [.str nm,u])/\jL H a u
 | .n2 nm a b,v=>∃ t u w,v=.ref t/\H t=some (.tup [.str nm,u,w])/\jL H a u/\jL H b w
theorem jL.tk {H H':Hp} (k:Tk H H'):∀ {s:Sy} {v:V},jL H s v->jL H' s v
 | .ltr x,v,h=>h
 | .n0 nm,v,⟨t,e,h⟩=>⟨t,e,k _ _ h⟩
 | .n1 nm a,v,⟨t,u,e,h,ha⟩=>⟨t,u,e,k _ _ h,jL.tk k ha⟩
 | .n2 nm a b,v,⟨t,u,w,e,h,ha,hb⟩=>⟨t,u,w,e,k _ _ h,jL.tk k ha,jL.tk k hb⟩
theorem jL.same {H H':Hp} (k:zD H H') {s:Sy} {v:V} (h:jL H s v):jL H' s v:=h.tk (Tk.of k)
theorem jL.node {H:Hp} {s:Sy} {v:V} (h:jL H s v) (hs:s.isL=false):∃ t us,v=.ref t/\H t=some (.tup (.str s.nm :: us))/\Paired (jL H) s.ps us:=by
 cases s with
 | ltr x=>cases hs
 | n0 nm=>
  obtain⟨t,e,h⟩:=h
  exact⟨t,[],e,h,.nil⟩
 | n1 nm a=>
  obtain⟨t,u,e,h,ha⟩:=h
  exact⟨t,[u],e,h,.cons ha .nil⟩
 | n2 nm a b=>
  obtain⟨t,u,w,e,h,ha,hb⟩:=h
  exact⟨t,[u,w],e,h,.cons ha (.cons hb .nil)⟩
theorem jL.letter {H:Hp} {s:Sy} {v:V} (h:jL H s v) (hs:s.isL=true):v=.str s.nm:=by
 cases s with
 | ltr x=>exact h
 | _=>cases hs
theorem jL.of {H:Hp} {nm:Str} {ss:List Sy} {us:List V} {t:Addr} (h:H t=some (.tup (.str nm :: us))) (hp:Paired (jL H) ss us) (hl:ss.length<=2):jL H (Sy.mk nm ss) (.ref t):=by
 cases hp with
 | nil=>exact⟨t,rfl,h⟩
 | @cons a u ss us ha hp=>
  cases hp with
  | nil=>exact⟨t,u,rfl,h,ha⟩
  | @cons b w ss us hb hp=>
   cases hp with
   | nil=>exact⟨t,u,w,rfl,h,ha,hb⟩
   | cons _ _=>
    exfalso
    simp at hl
def Ltr (x:Str):Prop:=x.length=1/\Small x
open PySem L2
theorem y4.tk {H H':Hp} (s:Tk H H') {xs:List V} {ps:List (List Key×V)} (h:y4 H xs ps):y4 H' xs ps:=by
 unfold y4 at h ⊢
 induction h with
 | nil=>exact .nil
 | cons r _ ih=>
  obtain⟨b,kb,e,hb,hk⟩:=r
  exact .cons ⟨b,kb,e,s _ _ hb,s _ _ hk⟩ ih
theorem y4.snoc {H:Hp} {xs:List V} {ps:List (List Key×V)} {p:List Key×V} {b kb:Addr} (h:y4 H xs ps) (hb:H b=some (.tup [.ref kb,p.2])) (hk:H kb=some (.tup (p.1.map kV))):y4 H (xs++[.ref b]) (ps++[p]):=by
 unfold y4 at h ⊢
 induction h with
 | nil=>exact .cons ⟨b,kb,rfl,hb,hk⟩ .nil
 | cons r _ ih=>exact .cons r ih
theorem wR:∀ (ps acc:List (List Key×V)) (k:List Key),k ∉ ps.map Prod.fst->jo (putAllT acc ps) k=jo acc k
 | [],acc,k,_=>rfl
 | p :: ps,acc,k,h=>by
  rw[Ag,AV,not_or] at h
  show jo (putAllT (jX acc p.1 p.2) ps) k=_
  rw[wR ps _ k h.2,Qp,if_neg h.1]
theorem zab:∀ (ps acc:List (List Key×V)) (p:List Key×V),(ps.map Prod.fst).Nodup->p ∈ ps->jo (putAllT acc ps) p.1=some p.2
 | [],acc,p,_,h=>by cases h
 | z :: ps,acc,p,hn,h=>by
  rw[Ag,Bf] at hn
  show jo (putAllT (jX acc z.1 z.2) ps) p.1=_
  rcases AV.mp h with rfl | h
  ·rw[wR ps _ _ hn.1,Qp,if_pos rfl]
  ·exact zab ps _ p hn.2 h
end L4
namespace Tn
def fp {α:Type} [DecidableEq α] (xs:List α):List Nat:=xs.map fun x=>xs.idxOf x
theorem fp_len {α:Type} [DecidableEq α] (xs:List α):(fp xs).length=xs.length:=AB _
theorem fp_at {α:Type} [DecidableEq α] {xs:List α} {i:Nat} {x:α} (h:xs[i]? = some x):at' (fp xs) i=xs.idxOf x:=by
 unfold at' fp
 rw[Ao,AJ,h]
 rfl
theorem idx_get {α:Type} [DecidableEq α] {xs:List α} {x:α} (h:x ∈ xs):xs[xs.idxOf x]? = some x:=by
 have hl:=EZ h
 rw[AG hl,List.getElem_idxOf]
theorem idx_le {α:Type} [DecidableEq α]:∀ {xs:List α} {x:α} {i:Nat},xs[i]? = some x->xs.idxOf x<=i
 | [],x,i,h=>by simp at h
 | y :: xs,x,i,h=>by
  rw[List.idxOf_cons]
  by_cases e:y=x
  ·simp[e]
  ·have e':(y == x)=false:=by simpa using e
   rw[e']
   cases i with
   | zero=>simp at h;exact absurd h e
   | succ i=>
    have:=idx_le (xs:=xs) (x:=x) (i:=i) (by simpa using h)
    simpa using this
structure Mk (n:Nat) (ms:List Nat):Prop where
 len:ms.length=n
 le:∀ i,i < n->at' ms i<=i
 rep:∀ i,i < n->at' ms (at' ms i)=at' ms i
theorem fp_mk {α:Type} [DecidableEq α] (xs:List α):Mk xs.length (fp xs):=by
 refine⟨fp_len xs,fun i hi=>?_,fun i hi=>?_⟩
 ·rw[fp_at (AG hi)]
  exact idx_le (AG hi)
 ·rw[fp_at (AG hi),fp_at (idx_get (Ci hi))]
theorem fp_eq {α:Type} [DecidableEq α] {xs:List α} {i j:Nat} {x y:α} (hi:xs[i]? = some x) (hj:xs[j]? = some y):at' (fp xs) i=at' (fp xs) j ↔ x=y:=by
 rw[fp_at hi,fp_at hj]
 constructor
 ·intro e
  have h1:=idx_get (AI hi)
  have h2:=idx_get (AI hj)
  rw[e,h2] at h1
  exact (Ad h1).symm
 ·intro e
  rw[e]
theorem at_ext {xs ys:List Nat} {n:Nat} (h1:xs.length=n) (h2:ys.length=n) (h:∀ i,i < n->at' xs i=at' ys i):xs=ys:=by
 refine CB fun i=>?_
 by_cases hi:i < n
 ·have:=h i hi
  unfold at' at this
  rw[Ao,Ao,AG (by omega),AG (by omega)] at this
  rw[AG (by omega),AG (by omega)]
  exact BQ some this
 ·rw[BB (by omega),BB (by omega)]
theorem Mk.lt {n:Nat} {ms:List Nat} (h:Mk n ms) {i:Nat} (hi:i < n):at' ms i < n:=Dx (h.le i hi) hi
theorem mk_ext {n:Nat} {ms ks:List Nat} (h1:Mk n ms) (h2:Mk n ks) (h:∀ i j,i < n->j < n->(at' ms i=at' ms j ↔ at' ks i=at' ks j)):ms=ks:=by
 refine at_ext h1.len h2.len fun i hi=>EX ?_ ?_
 ·have a:=h2.lt hi
  have:=(h _ i a hi).mpr (h2.rep i hi)
  rw[<- this]
  exact h1.le _ a
 ·have a:=h1.lt hi
  have:=(h _ i a hi).mp (h1.rep i hi)
  rw[<- this]
  exact h2.le _ a
def reps (n:Nat) (ms:List Nat):List Nat:=(List.range n).filter fun i=>decide (at' ms i=i)
theorem count_back {p q:Nat->Bool}:∀ {l:List Nat},(∀ i ∈ l,p i=true->q i=true)->(l.filter q).length<=(l.filter p).length->∀ i ∈ l,q i=true->p i=true
 | [],_,_,i,hi,_=>by cases hi
 | a :: l,h,hc,i,hi,hq=>by
  have ha:=h a (AW ..)
  have ht:=fun i hi=>h i (AY a hi)
  have mono:(l.filter p).length<=(l.filter q).length:=by
   have:∀ l:List Nat,(∀ i ∈ l,p i=true->q i=true)->(l.filter p).length<=(l.filter q).length:=by
    intro l
    induction l with
    | nil=>intro _;exact AK _
    | cons b l ih=>
     intro hb
     have h1:=ih fun i hi=>hb i (AY _ hi)
     have h2:=hb b (AW ..)
     rw[CP,CP]
     cases hpb:p b <;> cases hqb:q b <;> simp_all <;> omega
   exact this l ht
  rw[CP,CP] at hc
  cases hpa:p a with
  | true=>
   rw[hpa,ha hpa] at hc
   simp at hc
   rcases AV.mp hi with rfl | hi
   ·exact hpa
   ·exact count_back ht hc i hi hq
  | false=>
   rw[hpa] at hc
   cases hqa:q a with
   | true=>rw[hqa] at hc;simp at hc;omega
   | false=>
    rw[hqa] at hc
    simp at hc
    rcases AV.mp hi with rfl | hi
    ·rw[hqa] at hq;cases hq
    ·exact count_back ht hc i hi hq
theorem reps_grow {n:Nat} {ms ks:List Nat} (h1:Mk n ms) (h2:Mk n ks) (h:∀ i j,i < n->j < n->at' ks i=at' ks j->at' ms i=at' ms j) (ne:¬ ks=ms):(reps n ms).length < (reps n ks).length:=by
 refine DR fun hc=>ne ?_
 have up:∀ i ∈ List.range n,decide (at' ms i=i)=true->decide (at' ks i=i)=true:=fun i hi e=>by
  have hi:=Af.mp hi
  have e:=Ak e
  refine Ai ?_
  have a:=h2.lt hi
  have h3:=h _ i a hi (h2.rep i hi)
  have h4:=h1.le _ a
  have h5:=h2.le i hi
  omega
 have dn:=count_back up (by unfold reps at hc;omega)
 refine mk_ext h2 h1 fun i j hi hj=>⟨h i j hi hj,fun e=>?_⟩
 have a:=h2.lt hi
 have b:=h2.lt hj
 have ra:=Ak (dn _ (Af.mpr a) (Ai (h2.rep i hi)))
 have rb:=Ak (dn _ (Af.mpr b) (Ai (h2.rep j hj)))
 have ea:=h _ i a hi (h2.rep i hi)
 have eb:=h _ j b hj (h2.rep j hj)
 omega
def sgn (fs:List (Nat->Nat)) (ms:List Nat) (x:Nat):List Nat:=at' ms x :: fs.map fun f=>at' ms (f x)
def refn (n:Nat) (fs:List (Nat->Nat)) (ms:List Nat):List Nat:=fp ((List.range n).map (sgn fs ms))
theorem refn_mk (n:Nat) (fs:List (Nat->Nat)) (ms:List Nat):Mk n (refn n fs ms):=by
 have:=fp_mk ((List.range n).map (sgn fs ms))
 rwa [AB,AZ] at this
theorem refn_eq {n:Nat} {fs:List (Nat->Nat)} {ms:List Nat} {i j:Nat} (hi:i < n) (hj:j < n):at' (refn n fs ms) i=at' (refn n fs ms) j ↔ at' ms i=at' ms j/\∀ f ∈ fs,at' ms (f i)=at' ms (f j):=by
 unfold refn
 rw[fp_eq (x:=sgn fs ms i) (y:=sgn fs ms j) (by rw[AJ,A3 hi];rfl) (by rw[AJ,A3 hj];rfl)]
 unfold sgn
 rw[List.cons.injEq]
 constructor
 ·intro ⟨a,b⟩
  refine⟨a,fun f hf=>?_⟩
  exact List.map_inj_left.mp b f hf
 ·intro ⟨a,b⟩
  exact⟨a,CI b⟩
def itr (n:Nat) (fs:List (Nat->Nat)) (ms:List Nat):Nat->List Nat
 | 0=>ms
 | k+1=>refn n fs (itr n fs ms k)
theorem itr_mk {n:Nat} {fs:List (Nat->Nat)} {ms:List Nat} (h:Mk n ms):∀ k,Mk n (itr n fs ms k)
 | 0=>h
 | k+1=>refn_mk ..
theorem itr_sub {n:Nat} {fs:List (Nat->Nat)} {ms:List Nat}:∀ k i j,i < n->j < n->at' (itr n fs ms k) i=at' (itr n fs ms k) j->at' ms i=at' ms j
 | 0,_,_,_,_,e=>e
 | k+1,i,j,hi,hj,e=>itr_sub k i j hi hj ((refn_eq hi hj).mp e).1
theorem reps_le (n:Nat) (ms:List Nat):(reps n ms).length<=n:=by
 have:=CU (fun i=>decide (at' ms i=i)) (List.range n)
 rwa [AZ] at this
theorem itr_stop {n:Nat} {fs:List (Nat->Nat)} {ms:List Nat} (h:Mk n ms) (hn:1<=n):refn n fs (itr n fs ms n)=itr n fs ms n:=by
 have all:∀ k,refn n fs (itr n fs ms k)=itr n fs ms k\/k+1<=(reps n (itr n fs ms k)).length:=by
  intro k
  induction k with
  | zero=>
   refine .inr ?_
   have h0:0 ∈ reps n ms:=B4.mpr ⟨Af.mpr (by omega),Ai (by have:=h.le 0 (by omega);omega)⟩
   exact Dc h0
  | succ k ih=>
   by_cases e:refn n fs (itr n fs ms k)=itr n fs ms k
   ·refine .inl ?_
    show refn n fs (refn n fs (itr n fs ms k))=refn n fs (itr n fs ms k)
    rw[e,e]
   ·have:=reps_grow (itr_mk h k) (itr_mk h (k+1)) (fun i j hi hj z=>((refn_eq hi hj).mp z).1) e
    rcases ih with ih | ih
    ·exact absurd ih e
    ·exact .inr (by omega)
 rcases all n with h1 | h1
 ·exact h1
 ·have:=reps_le n (itr n fs ms n)
  omega
structure Fix (n:Nat) (ws:List Nat) (fs:List (Nat->Nat)) (M:List Nat):Prop where
 mks:Mk n M
 wish:∀ i j,i < n->j < n->at' M i=at' M j->(i ∈ ws ↔ j ∈ ws)
 step:∀ i j,i < n->j < n->at' M i=at' M j->∀ f ∈ fs,at' M (f i)=at' M (f j)
def mk0 (n:Nat) (ws:List Nat):List Nat:=fp ((List.range n).map fun i=>decide (i ∈ ws))
def mkN (n:Nat) (ws:List Nat) (fs:List (Nat->Nat)):List Nat:=itr n fs (mk0 n ws) n
theorem mk0_mk (n:Nat) (ws:List Nat):Mk n (mk0 n ws):=by
 have:=fp_mk ((List.range n).map fun i=>decide (i ∈ ws))
 rwa [AB,AZ] at this
theorem mkN_fix {n:Nat} (ws:List Nat) (fs:List (Nat->Nat)) (hn:1<=n):Fix n ws fs (mkN n ws fs):=by
 refine⟨itr_mk (mk0_mk n ws) n,fun i j hi hj e=>?_,fun i j hi hj e f hf=>?_⟩
 ·have h1:=itr_sub n i j hi hj e
  unfold mk0 at h1
  rw[fp_eq (x:=decide (i ∈ ws)) (y:=decide (j ∈ ws)) (by rw[AJ,A3 hi];rfl) (by rw[AJ,A3 hj];rfl)] at h1
  simpa using h1
 ·have h1:=itr_stop (fs:=fs) (mk0_mk n ws) hn
  have e':at' (itr n fs (mk0 n ws) n) i=at' (itr n fs (mk0 n ws) n) j:=e
  rw[<- h1] at e'
  exact ((refn_eq hi hj).mp e').2 f hf
theorem reps_mem {n:Nat} {M:List Nat} {r:Nat}:r ∈ reps n M ↔ r < n/\at' M r=r:=by
 unfold reps
 rw[B4,Af,decide_eq_true_iff]
theorem reps_ris (n:Nat) (M:List Nat):(reps n M).Pairwise (· < ·):=Cd _ Bw
theorem Mk.mem_reps {n:Nat} {M:List Nat} (h:Mk n M) {i:Nat} (hi:i < n):at' M i ∈ reps n M:=reps_mem.mpr ⟨h.lt hi,h.rep i hi⟩
theorem Mk.mem_iff {n:Nat} {M:List Nat} (h:Mk n M) (d:Nat):d ∈ M ↔ d ∈ reps n M:=by
 constructor
 ·intro hd
  obtain⟨i,hi⟩:=Bc.mp hd
  have hil:i < n:=by rw[<- h.len];exact (AC.mp hi).1
  have:at' M i=d:=by
   unfold at'
   rw[Ao,hi]
   rfl
  rw[<- this]
  exact h.mem_reps hil
 ·intro hd
  obtain⟨h1,h2⟩:=reps_mem.mp hd
  have:M[d]? = some (at' M d):=by
   unfold at'
   rw[Ao,AG (by rw[h.len];exact h1)]
   rfl
  rw[h2] at this
  exact AI this
theorem ris_eq {xs ys:List Nat} (h1:xs.Pairwise (· <= ·)) (n1:xs.Nodup) (h2:ys.Pairwise (· < ·)) (h:∀ d,d ∈ xs ↔ d ∈ ys):xs=ys:=by
 have n2:ys.Nodup:=h2.imp fun h=>AR h
 exact ((DN n1 n2).mpr h).eq_of_pairwise (fun a b _ _ h k=>EX h k) h1 (h2.imp Br)
def partF (n:Nat) (M:List Nat) (r:Nat):List Nat:=(List.range n).filter fun i=>decide (at' M i=r)
theorem part_mem {n:Nat} {M:List Nat} {r i:Nat}:i ∈ partF n M r ↔ i < n/\at' M i=r:=by
 unfold partF
 rw[B4,Af,decide_eq_true_iff]
theorem part_head {n:Nat} {M:List Nat} (h:Mk n M) {r:Nat} (hr:r ∈ reps n M):(partF n M r)[0]? = some r:=by
 obtain⟨h1,h2⟩:=reps_mem.mp hr
 have hm:r ∈ partF n M r:=part_mem.mpr ⟨h1,h2⟩
 have ris:(partF n M r).Pairwise (· < ·):=Cd _ Bw
 cases e:partF n M r with
 | nil=>rw[e] at hm;cases hm
 | cons a l=>
  have ha:a ∈ partF n M r:=by rw[e];exact AW ..
  obtain⟨a1,a2⟩:=part_mem.mp ha
  have:=h.le a a1
  rw[e] at hm ris
  rcases AV.mp hm with rfl | hm
  ·rfl
  ·have:=(Cv.mp ris).1 r hm
   omega
def homes (n:Nat) (M:List Nat):List Nat:=(List.range n).map fun i=>(reps n M).idxOf (at' M i)
theorem homes_at {n:Nat} {M:List Nat} {i:Nat} (hi:i < n):at' (homes n M) i=(reps n M).idxOf (at' M i):=by
 unfold homes
 show ((List.range n).map _).getD i 0=_
 rw[Ao,AJ,A3 hi]
 rfl
theorem homes_lt {n:Nat} {M:List Nat} (h:Mk n M) {i:Nat} (hi:i < n):at' (homes n M) i < (reps n M).length:=by
 rw[homes_at hi]
 exact EZ (h.mem_reps hi)
theorem reps_home {n:Nat} {M:List Nat} (h:Mk n M) {i:Nat} (hi:i < n):at' (reps n M) (at' (homes n M) i)=at' M i:=by
 rw[homes_at hi]
 show (reps n M).getD ((reps n M).idxOf (at' M i)) 0=_
 rw[Ao,idx_get (h.mem_reps hi)]
 rfl
theorem homes_eq {n:Nat} {M:List Nat} (h:Mk n M) {i j:Nat} (hi:i < n) (hj:j < n):at' (homes n M) i=at' (homes n M) j ↔ at' M i=at' M j:=by
 constructor
 ·intro e
  rw[<- reps_home h hi,e,reps_home h hj]
 ·intro e
  rw[homes_at hi,homes_at hj,e]
theorem homes_reps {n:Nat} {M:List Nat} (h:Mk n M) {y:Nat} (hy:y < (reps n M).length):at' (reps n M) y < n/\at' (homes n M) (at' (reps n M) y)=y:=by
 have hg:(reps n M)[y]? = some (at' (reps n M) y):=by
  unfold at'
  rw[Ao,AG hy]
  rfl
 obtain⟨h1,h2⟩:=reps_mem.mp (AI hg)
 refine⟨h1,?_⟩
 rw[homes_at h1,h2]
 have nd:(reps n M).Nodup:=(reps_ris n M).imp fun h=>AR h
 have:=List.Nodup.idxOf_getElem nd y hy
 have e:at' (reps n M) y=(reps n M)[y]:=by
  rw[AG hy] at hg
  exact (Ad hg).symm
 rw[e]
 exact this
end Tn
namespace L2
open PySem PySem.Spec PyProof.Rows
section
variable {X : Cx} {N' : List Str} {ix : List (Option Nat)} {scope : Scope} {y : Str} {pins : List (Addr × Obj)} {σ : St} {H : Hp} {s : Shared} {fp : List Addr}
end
theorem zac {K:PySem.W.Frag} {a:Addr} {xs:List V} {g:TG} {tb:TS} {D:xZ} {σ:St} {H:Hp} (Pv:Nat->St->Hp->Prop) (h0:Pv 0 σ H) (hl:∀ i σ H,i<=xs.length->Pv i σ H->SqT K H a xs)
  (hs:∀ i x σ H T,xs[i]? = some x->Pv i σ H->H T=none->g (.ref T) σ (upd H T (.tup [.int (i:Nat),x])) fun σ2 H2=>tb { D with nx:=Pv (i+1),ct:=Pv (i+1),bk:=D.nx } σ2 H2) (hd:∀ σ H,Pv xs.length σ H->D.nx σ H) :
  ∃ W:Nat->Nat->St->Hp->Prop,(∃ m,W 0 m σ H)/\∀ i m σ H,W i m σ H ->
   ((Itet K a).stop i H/\D.nx σ H)\/((Itet K a).go i H/\∃ N:St->Hp->Prop,(∀ σ' H',N σ' H'->∃ m',m' < m/\W (i+1) m' σ' H')/\∀ x H',(Itet K a).yld i H x H'->g x σ H' fun σ2 H2=>tb { D with nx:=N,ct:=N,bk:=D.nx } σ2 H2):=by
 refine⟨fun i m σ H=>m=xs.length - i/\i<=xs.length/\Pv i σ H,⟨xs.length,by simp,A9 _,h0⟩,?_⟩
 rintro i m σ H ⟨rfl,hi,p⟩
 have q:=hl i σ H hi p
 by_cases hlt:i < xs.length
 ·refine .inr ⟨⟨xs,xs[i],q,by simp[hlt]⟩,Pv (i+1),fun σ' H' p'=>⟨xs.length - (i+1),by omega,rfl,hlt,p'⟩,?_⟩
  rintro v H' ⟨T,x,hT,rfl,rfl,hall⟩
  exact hs i x σ H T (hall xs q) p hT
 ·have e:i=xs.length:=by omega
  subst e
  exact .inl ⟨⟨xs,q,rfl⟩,hd σ H p⟩
open PySem PySem.Spec PyProof.Rows PySem.W
section
variable {prog : Program} {w : World} {A : Around} {E : Value -> Shared -> Prop} {s : Shared} {d it : Addr} {es : Array DictEntry} {ep i : Nat}
end
section
variable {prog : Program} {w : World} {A : Around} {E : Value -> Shared -> Prop} {s : Shared}
end
section
variable {X : Cx}
end
theorem Zy:∀ bs:List Bool,((List.range bs.length).any fun i=>bs.getD i false)=bs.any id
 | []=>rfl
 | b :: bs=>by
  have ih:=Zy bs
  rw[Aq,Da,By,List.any_map,By,<- ih]
  rfl
theorem zad:bootBuiltins "any" = some (.builtin "any"):=by decide +kernel
section
variable {X : Cx}
theorem JG (K:PySem.W.Frag) (hc:X.calm=true) (hK:X.K=K:=by rfl):jB X (.builtin "any") (fun xs H Q=>∃ (p:Addr) (bs:List Bool),xs=[.ref p]/\SqL K H p (bs.map V.bl)/\Q (.bl (bs.any id)) H):=by
 subst hK
 intro pins s σ H xs us Q I r h
 obtain⟨p,bs,rfl,hq,q⟩:=h
 obtain⟨u,rfl,ru⟩:=vals1 r
 cases ru
 obtain⟨its,rv,pl,_⟩:=I.list hq
 have hl:s.heap.IsList p its.toArray:=pl.isList
 have hlt:p < s.heap.objs.size:=by obtain⟨_,e,_⟩:=hl;exact AN e
 refine call_any_walk (Bo hl ⟨_,_,_,_,_,_,fun i=>bs.getD i false,rfl,Walks.list (A:=X.A.in1) (I.ok.hd hc) _ p (AR hlt) its.toArray,⟨⟨_,AO _ rfl,rfl,rfl⟩,hl.push _⟩,fun i v s' Q' E' hv hQ=>?_,fun h' tk hk=>⟨.bl _,H,I.kept (old_kept hk),rfl,?_⟩⟩)
 ·have hv':its[i]? = some v:=by simpa using hv
  rw[YB rv,AJ] at hv'
  obtain⟨b,hb,rfl⟩:=AX.mp hv'
  have e:bs.getD i false=b:=by simp[List.getD,hb]
  have z:Q' (bs.getD i false) s':=hQ
  rw[e] at z
  exact CJ z
 ·have e1:its.toArray.size=bs.length:=by
   have:=rv.length
   rw[AB] at this
   simp;omega
  rw[e1,Zy bs]
  exact q
end
section
variable {X : Cx}
end
section
variable {prog : Program} {w : World} {A : Around} {E : Value -> Shared -> Prop} {s : Shared}
abbrev zae (prog:Program) (w:World) (b:Bool) (h:Heap) (a:Addr) (l:List Str):Prop:=SetT (PySem.strKind prog w) h a (fun x=>decide (x ∈ l)) l.length b
theorem JH {b:Bool} {h h':Heap} {a:Addr} {l:List Str} (x:zae prog w b h a l) (k:∀ o,h.get? a=some o->h'.get? a=some o):zae prog w b h' a l:=by
 obtain⟨o,es,ep,t,ho,r⟩:=x
 exact⟨o,es,ep,t,k o ho,r⟩
theorem xy {K:Type} [DecidableEq K] {knd:KeyKind prog w K} {h:Heap} {a:Addr} {S S':K->Bool} {n n':Nat} {b:Bool} (x:SetT knd h a S n b) (e:∀ k,S k=S' k) (en:n=n'):SetT knd h a S' n' b:=by
 obtain rfl:S=S':=funext e
 subst en
 exact x
theorem zaf {R:Result->Shared->Prop} {J l a:Addr} {items:Array Value} {ys:List Str} {bb:Bool} (hh:A.in1.handled=none) (hJ:l ≠ J) (aJ:a ≠ J) (al:a ≠ l) (hv:∀ (i:Nat) (v:Value),items[i]? = some v->∃ t,v=.str (ys.getD i "") t) (hn:items.size=ys.length) (hb:ys.length+1 < scanBound) :
  ∀ (k i:Nat) (s:Shared),ys.length - i=k->i<=ys.length->s.heap.IsListIter J l i->s.heap.IsList l items->zae prog w bb s.heap a (we (ys.take i)) ->
   (∀ h' tk,(∀ b o,b ≠ a->b ≠ J->s.heap.get? b=some o->h'.get? b=some o)->zae prog w bb h' a (we ys)->R (.ok (.ret .none)) { s with heap:=h',toks:=tk }) ->
   codeAny (model prog w) A (.builtin "set.update.loop" ⟨[.ref a,.ref J],[]⟩) R s:=by
 intro k
 induction k with
 | zero=>
  intro i s hk hi h1 h2 h3 hR
  have e:i=ys.length:=by omega
  subst e
  refine BA Bu ?_
  rw[Ax BL _]
  show wpAny _ A.in1 (pyNext (.ref J) >>= _) _ _ s
  refine AA (Bs hh h1 h2 (by first | omega | (simp;omega)) fun h' eb=>?_)
  show wpAny _ A.in1 (ret Value.none) _ _ _
  rw[Ae] at h3
  exact AD (hR h' s.toks (fun b o _ nb e=>eb b o nb e) (JH h3 fun o e=>eb a o aJ e))
 | succ k ih=>
  intro i s hk hi h1 h2 h3 hR
  have hlt:i < ys.length:=by omega
  refine BA Bu ?_
  rw[Ax BL _]
  show wpAny _ A.in1 (pyNext (.ref J) >>= _) _ _ s
  have hi2:items[i]? = some (items[i]'(by omega)):=by simp[show i < items.size by omega]
  refine AA (Bn h1 h2 hi2 fun h' h1' sb=>?_)
  obtain⟨t,et⟩:=hv i _ hi2
  rw[et]
  have h3':zae prog w bb h' a (we (ys.take i)):=JH h3 fun o e=>(sb.2 a aJ).trans e
  show wpAny _ A.in1 (holding [Value.str (ys.getD i "") t] (setAdd a (.str (ys.getD i "") t)) >>= _) _ _ _
  refine AA (BJ ?_)
  unfold setAdd
  have is1:(PySem.strKind prog w).is (ys.getD i "") (.str (ys.getD i "") t)=true:=by
   simp[PySem.strKind,Value.isStrOf]
  refine BJ (AA ((PySem.strKind prog w).pyHash (k:=ys.getD i "") is1 ?_))
  have room:(we (ys.take i)).length+1 < scanBound:=by
   have:=dedK_len (ys.take i)
   rw[An] at this
   omega
  refine setAddT (knd:=PySem.strKind prog w) (s:={ s with heap:=h',toks:=s.toks+1 }) is1 rfl h3' room fun h'' sb2 h4=>?_
  have ey:ys[i]? = some (ys.getD i ""):=by simp[List.getD,hlt]
  have e1:ys.take (i+1)=ys.take i++[ys.getD i ""]:=by rw[DS,ey];rfl
  have h5:zae prog w bb h'' a (we (ys.take (i+1))):=by
   refine xy h4 (fun x=>?_) ?_
   ·rw[e1,W7]
    by_cases c1:x ∈ we (ys.take i) <;> by_cases c2:x=ys.getD i "" <;> simp[YC,c1,c2]
   ·rw[e1,W7,YD]
    by_cases c1:ys.getD i "" ∈ we (ys.take i) <;> simp[c1]
  refine AD ⟨BK BL _,ih (i+1) { s with heap:=h'',toks:=s.toks+1 } (by omega) hlt ?_ ?_ h5 fun h6 tk k6 s6=>hR h6 tk (fun b o na nJ e=>k6 b o na nJ ((sb2.2 b na).trans ((sb.2 b nJ).trans e))) s6⟩
  ·obtain⟨o,q1,q2⟩:=h1'
   exact⟨o,(sb2.2 J (BD aJ)).trans q1,q2⟩
  ·obtain⟨o,q1,q2⟩:=h2
   exact⟨o,(sb2.2 l (BD al)).trans ((sb.2 l hJ).trans q1),q2⟩
theorem zag {l:Addr} {items:Array Value} {ys:List Str} {Q:Value->Shared->Prop} (hh:A.handled=none) (hl:s.heap.IsList l items) (hi:StrsAre items.toList ys) (hb:ys.length+1 < scanBound)
  (h:∀ h' tk,zae prog w (!qx w) h' s.heap.objs.size (we ys)->(∀ b o,b < s.heap.objs.size->s.heap.get? b=some o->h'.get? b=some o)->Q (.ref s.heap.objs.size) { s with heap:=h',toks:=tk }) :
  wpAny (model prog w) A (call (.type "set") [.ref l]) Q E s:=by
 obtain⟨c0,tl0,hmro⟩:=A8.mro
 have made:=A8.made;have subs:=A8.sub
 have nt:=A8.notType;have cc:=A8.canCreate;have tcall:=PySem.F.typeCall_set_1 (.ref l)
 refine wpAny_call (codeAny_of_tree ?_)
 show wpAny _ _ (callAny (.type "set") ⟨[.ref l],[]⟩) _ _ _
 refine AD ⟨Code.quiet_builtin _ (by decide +kernel),BA PySem.F.entry_type_call ?_⟩
 rw[Around.under_plain (weight_type_call_type "set" [.ref l] []) rfl]
 repeat (any_goals (first | assumption | wp_step))
 refine CL (Qt (.ref l) (E:=E) (Q₁:=fun v s1=>∃ b:Bool,b=(!qx w)/\v=.ref s.heap.objs.size/\s1 = { s with heap:=s.heap.push (qr b) }) ⟨_,rfl,rfl,rfl⟩) fun r s1 hr=>?_
 match r,hr with
 | .error e,hr=>exact hr
 | .ok (.ret v),hr=>
  obtain⟨b,eb,ev,es⟩:=hr
  subst ev es
  have at0:(s.heap.push (qr b)).get? s.heap.objs.size=some (qr b):=AO _ rfl
  have ty0:Shared.TypeIs { s with heap:=s.heap.push (qr b) } (.ref s.heap.objs.size) "set":=⟨_,at0,rfl⟩
  have il:=A8.init.lookup
  have ib:=A8.init.bind (.ref s.heap.objs.size)
  repeat (any_goals (first | assumption | wp_step))
  refine CL (codeAny_call_builtin (R:=wants (fun r s2=>r=.none/\∃ h' tk,s2 = { s with heap:=h',toks:=tk }/\zae prog w (!qx w) h' s.heap.objs.size (we ys)/\∀ b o,b < s.heap.objs.size->s.heap.get? b=some o->h'.get? b=some o) E) A8.init.plain PySem.F.entry_set_init (check_set_init_1 ty0 ?_)) fun r2 s2 hr2=>?_
  ·obtain⟨⟨oc,od,odt,osl⟩,hol,hcl,nl,hdl⟩:=id hl
   have hcl':oc=_:=hcl;have hdl':odt=_:=hdl
   subst hcl' hdl'
   have hol1:(s.heap.push (qr b)).get? l=some { cls:=.type "list",dict:=od,data:=.seq items nl,slots:=osl }:=AF _ hol
   have n1:=PySem.F.sub_list_set;have n2:=Ec
   have n3:(Value.type "list" == Value.type "dict")=false:=by decide
   have hl1:(s.heap.push (qr b)).IsList l items:=⟨_,hol1,rfl,nl,rfl⟩
   have lS:l < s.heap.objs.size:=AN hol
   have jS:(s.heap.push (qr b)).objs.size=s.heap.objs.size+1:=Bp ..
   unfold Builtin.«set.__init__» noKeywords Builtin.Frozenset.updateFrom
   generalize ePI:pyIter=PI
   wp_walk
   subst ePI
   refine Bo hl1 (AA (D6 ?_))
   have hn:items.size=ys.length:=by
    have:=hi.length
    simpa using this
   refine zaf (bb:=!qx w) (J:=(s.heap.push (qr b)).objs.size) (l:=l) (a:=s.heap.objs.size) (items:=items) (ys:=ys) (by simp[hh]) (AR (by rw[jS];exact Au lS)) (AR (by rw[jS];exact BM _)) (BF lS) (fun i v hv=>Xz hi i v (by rw[B2];exact hv)) hn hb (ys.length - 0) 0 _ rfl (A9 _) ⟨_,AO _ rfl,rfl,rfl⟩ (hl1.push _) ?_ fun h' tk hk hS=>?_
   ·exact⟨_,#[],0,.fresh 0 0 b,AF _ at0,⟨rfl,rfl,rfl⟩,rfl,(fun e he=>by cases he),(fun k=>by simp[we]),by unfold scanBound;decide,rfl,rfl,eb ▸ Z1.fresh b⟩
   ·show wpAny _ _ _ _ _ _
    refine AD ?_
    show wpAny _ _ (ret Value.none) _ _ _
    refine AD ⟨rfl,h',tk,rfl,hS,fun c o hc e=>hk c o (AR hc) (AR (by rw[jS];exact Au hc)) (AF _ (AF _ e))⟩
  ·match r2,hr2 with
   | .error e,hr2=>exact hr2
   | .ok (.ret v),hr2=>
    obtain⟨ev,h',tk,es,hS,hk⟩:=hr2
    subst ev es
    repeat (any_goals (first | assumption | wp_step))
    exact h _ _ hS hk
   | .ok .next,hr2=>exact hr2.elim
   | .ok .brk,hr2=>exact hr2.elim
   | .ok .cont,hr2=>exact hr2.elim
 | .ok .next,hr=>exact hr.elim
 | .ok .brk,hr=>exact hr.elim
 | .ok .cont,hr=>exact hr.elim
end
structure Wk (w:World) (es:Array (Int×Value)) (t:SetTable):Prop where
 ti:Z1 t (!qx w)
 fits:t.fits es.size=true
 nd:qx w=true\/(!t.plain && decide (es.size > 1))=false
theorem Wk.len {w:World} {es:Array (Int×Value)} {t:SetTable} (h:Wk w es t):t.place.size=es.size:=by
 have:=h.fits
 unfold SetTable.fits at this
 simp at this
 exact this.1
def WAt (w:World) (h:Heap) (a:Addr) (es:Array (Int×Value)) (ep:Nat) (t:SetTable):Prop:=∃ o,h.get? a=some o/\o.ExactSet/\o.data=.set es ep t/\Wk w es t
section
variable {prog : Program} {w : World} {A : Around} {E : Value -> Shared -> Prop} {s : Shared} {a I : Addr} {es : Array (Int × Value)} {ep : Nat} {t : SetTable}
theorem QO {Q:Value->Shared->Prop} (hd:WAt w s.heap a es ep t)
  (hQ:Q (.ref s.heap.objs.size) { s with heap:=s.heap.push { cls:=.type "set_iterator",data:=.fields #[.int (0:Nat) 0,.int (0:Nat) 0,.ref a,.int (es.size:Nat) 0,.int (ep:Nat) 0] } }) :
  wpAny (model prog w) A (pyIter (.ref a)) Q E s:=by
 obtain⟨o,ho,hx,hdat,hg⟩:=hd
 have hf:=hg.fits
 have hT:s.TypeIs (.ref a) "set":=⟨o,ho,hx.1⟩
 refine Ck hT B0 (Ay B0 hT jF ?_ (DX _))
 unfold Builtin.«frozenset.__iter__» Builtin.Frozenset.slot0
 refine AA (AA (AD ?_))
 refine AD ?_
 unfold Builtin.Frozenset.sizeOf setEntries
 refine AA (AA (AA (A1 ho hdat hf (AD (AD ?_)))))
 unfold setDrawn setsByText
 refine AA (AA (A1 ho hdat hf ?_))
 refine AA (AA (Bh (AD (AD ?_))))
 refine BE (fun hab=>absurd (show (!(qx w) && (!t.plain && decide (es.size > 1)))=true from hab) (by rcases hg.nd with e | e <;> rw[e] <;> simp)) (fun _=>AA (AD ?_))
 refine AA (Ea ho hdat hf ?_)
 refine AA (Ap ?_)
 exact AD ⟨_,rfl, "set_iterator",_,⟨_,AO _ rfl,rfl⟩,zx.lookup,hQ⟩
theorem Yd (hg:Wk w es t) (ht:qx w=false):∀ (i:Nat),i<=t.place.size->SetTable.below t.place (j5 w t i)=i
 | 0,_=>wP hg.ti.rs
 | i+1,hi=>by
  rw[Qu ht]
  exact wL hg.ti.rs (by simp[Array.getD,show i < t.place.size by omega])
theorem YM {Q:Option (Value×Nat)->Shared->Prop} {i:Nat} (hi:i<=es.size) (hd:WAt w s.heap a es ep t)
  (hQ:Q ((JA w a es ep)[i]?.map fun e=>(e.2,j5 w t (i+1))) s) :
  wpAny (model prog w) A (setNext a (j5 w t i) i ep) Q E s:=by
 obtain⟨o,ho,hx,hdat,hg⟩:=id hd
 have hf:=hg.fits
 unfold setNext setsByText
 refine AA (A1 ho hdat hf ?_)
 refine AA (AA (Bh (AD ?_)))
 refine BE (fun hab=>?_) (fun hab=>?_)
 ·have ht:qx w=true:=hab
  rw[if_neg (by simp)]
  unfold setWalk setsByText
  refine AA (AA (A1 ho hdat hf ?_))
  refine AA (AA (Bh (AD ?_)))
  refine BE (fun _=>?_) (fun hn=>absurd hab hn)
  refine AA (Bh (AD (AD ?_)))
  rw[ym ht] at hQ ⊢
  unfold JA at hQ
  rw[if_pos ht] at hQ
  exact hQ
 ·have ht:qx w=false:=DT.mpr hab
  refine BE (fun hdr=>absurd (show (!t.plain && decide (es.size > 1))=true from hdr) (by rw[hg.nd.resolve_left (by rw[ht];simp)];simp)) (fun _=>?_)
  have hled:t.led=true:=by rw[hg.ti.led,ht];rfl
  show wpAny _ _ (_ >>= _) _ _ _
  refine AA (BO (a:=()) (show (if (!t.led && !es.isEmpty)=true then (unsupported "set:maker-not-led" : Sem Unit) else pure ())=pure () by rw[hled];rfl) ?_)
  refine AD ?_
  rw[Yd hg ht i (by rw[hg.len];exact hi)]
  unfold JA at hQ
  rw[if_neg (by rw[ht];simp),Qu ht] at hQ
  by_cases hlt:i < es.size
  ·have e1:es[i]? = some es[i]:=by simp[hlt]
   have hlt':i < t.place.size:=by rw[hg.len];exact hlt
   have e2:t.place[i]? = some (t.place.getD i 0):=by simp[Array.getD,hlt']
   rw[e1] at hQ ⊢
   rw[e2]
   exact hQ
  ·have e1:es[i]? = none:=Bi (by omega)
   rw[e1] at hQ ⊢
   exact hQ
theorem Q4 {Q:Option Value->Shared->Prop} {i:Nat} {e:Int×Value} (hit:Qv s.heap I a (j5 w t i) i es.size ep) (hd:WAt w s.heap a es ep t) (he:(JA w a es ep)[i]? = some e)
  (hQ:∀ h',Qv h' I a (j5 w t (i+1)) (i+1) es.size ep->Heap.SameBut I s.heap h'->Q (some e.2) { s with heap:=h' }) :
  wpAny (model prog w) A (pyNext (.ref I)) Q E s:=by
 obtain⟨oI,hoI,hcI,hdI⟩:=id hit
 obtain⟨o,ho,hx,hdat,hg⟩:=id hd
 have hf:=hg.fits
 unfold pyNext
 refine AA (Bk (wpAny_callSpecial?_slot (name:=Str.ofString "__next__") hit.typeIs zx
  (Ay zx hit.typeIs qt ?_ (qC _))))
 unfold Builtin.«set_iterator.__next__»
 refine AA (AD ?_)
 refine AA (DF hoI hdI ?_)
 dsimp only
 unfold setEntries
 refine AA (AA (A1 ho hdat hf (AD ?_)))
 rw[if_neg (by simp)]
 have hi:i < es.size:=by
  have:=(Ce.mp he).1
  rwa [jm] at this
 simp only[Int.toNat_natCast]
 refine AA (YM (Br hi) hd ?_)
 rw[he]
 dsimp only[Option.map_some]
 refine AA (BP hoI hdI (by simp) ?_)
 have h1:=Aj (Obj.mapFields (·.setIfInBounds 0 (rawInt ((j5 w t (i+1):Nat):Int)))) hoI (BS (Az hdI _))
 have d1:=Az hdI (·.setIfInBounds 0 (rawInt ((j5 w t (i+1):Nat):Int)))
 refine AA (BP h1 d1 (by simp) ?_)
 refine AD ⟨_,rfl,AD (hQ _ ⟨_,Aj _ h1 (BS (Az d1 _)),?_,?_⟩ ((A5 ..).trans (A5 ..)))⟩
 ·rw[CN,CN]
  exact hcI
 ·rw[Az d1]
  simp[rawInt]
theorem JI {Q:Option Value->Shared->Prop} (hh:A.handled=none) (hit:Qv s.heap I a (j5 w t es.size) es.size es.size ep) (hd:WAt w s.heap a es ep t)
  (hQ:∀ h',Heap.ExtBut I s.heap h'->Q none { s with heap:=h' }) :
  wpAny (model prog w) A (pyNext (.ref I)) Q E s:=by
 obtain⟨oI,hoI,hcI,hdI⟩:=id hit
 obtain⟨o,ho,hx,hdat,hg⟩:=id hd
 have hf:=hg.fits
 unfold pyNext
 refine AA (Bk (wpAny_callSpecial?_slot (name:=Str.ofString "__next__") hit.typeIs zx
  (Ay zx hit.typeIs qt ?_ (qC _))))
 unfold Builtin.«set_iterator.__next__»
 refine AA (AD ?_)
 refine AA (DF hoI hdI ?_)
 dsimp only
 unfold setEntries
 refine AA (AA (A1 ho hdat hf (AD ?_)))
 rw[if_neg (by simp)]
 simp only[Int.toNat_natCast]
 refine AA (YM (AK _) hd ?_)
 rw[Bi (by rw[jm];exact AK _)]
 dsimp only[Option.map_none]
 refine AA (BP hoI hdI (by simp) ?_)
 show wpAny _ _ (newExc (.type "StopIteration") [] >>= _) _ _ _
 refine AA ?_
 simp only[newExc,newTuple]
 refine AA (Ap ?_ (by size_fits))
 refine AA (m:=firstArgMember _ _) (BO (a:=Value.none) (by first | rfl | (simp only[firstArgMember];rfl)) ?_)
 refine Ap ?_ (by size_fits)
 simp only[raiseNew]
 refine AA (Dm ?_)
 rw[show A.in1.handled=none from hh]
 refine AA (AD (D5 ?_))
 refine AA (Bb (T := "StopIteration") (b:=true) ⟨_,AO _ rfl,rfl⟩ D7 ?_)
 exact AD (hQ _ (((A5 ..).extBut.push _).push _))
theorem WAt.keep {h h':Heap} (x:WAt w h a es ep t) (k:∀ o,h.get? a=some o->h'.get? a=some o):WAt w h' a es ep t:=let ⟨o,ho,r⟩:=x;⟨o,k o ho,r⟩
theorem xz (hh:A.handled=none) (I:Addr) (hne:a ≠ I):Walks prog w A I [I,a] [I] es.size (fun i v=>∃ e,(JA w a es ep)[i]? = some e/\v=e.2) (fun i h=>Qv h I a (j5 w t i) i es.size ep/\WAt w h a es ep t) where
 sub:=fun b hb=>by simp at hb;simp[hb]
 frame:=fun _ _ _ st hk=>⟨st.1.keep fun o e=>hk I (by simp) o e,st.2.keep fun o e=>hk a (by simp) o e⟩
 item:=fun i s Q E hi st hQ=>by
  have hi':i < (JA w a es ep).size:=by rw[jm];exact hi
  have he:(JA w a es ep)[i]? = some ((JA w a es ep)[i]'hi'):=Bl hi'
  refine Q4 st.1 st.2 he fun h' hit' hs'=>?_
  exact hQ _ h' s.toks ⟨_,he,rfl⟩ ⟨hit',st.2.keep fun o e=>hs'.extBut a o hne e⟩ fun b o hb e=>hs'.extBut b o (fun h=>hb (by simp[h])) e
 done:=fun s Q E st hQ=>JI hh st.1 st.2 fun h' he'=>hQ h' s.toks fun b o hb e=>he' b o (fun h=>hb (by simp[h])) e
 self:=fun _ _ _ _ st hQ=>JE st.1 hQ
theorem kdl_setW:KdlSrc prog w "set" a a es.size (fun i v=>∃ e,(JA w a es ep)[i]? = some e/\v=e.2) (fun h=>WAt w h a es ep t) where
 type:=fun _ hm=>let ⟨o,ho,hx,_⟩:=hm;⟨o,ho,hx.1⟩
 there:=fun _ hm=>let ⟨o,ho,_⟩:=hm;⟨AN ho,AN ho⟩
 keep:=fun _ _ hm hk=>hm.keep fun o e=>hk a (.inl rfl) o e
 notList:=by decide
 notTuple:=by decide
 hint:=fun _ _ _ _ hm hq=>JD (let ⟨o,ho,hx,_⟩:=hm;⟨o,ho,hx.1⟩) hq
 iter:=fun _ s hh hm=>⟨_,_,(fun _ _ hq=>QO hm hq),xz hh _ (let ⟨o,ho,_⟩:=hm;AR (AN ho)),⟨⟨_,AO _ rfl,rfl,rfl⟩,hm.keep fun o e=>AF _ e⟩⟩
end
section
variable {prog : Program} {w : World} {A : Around} {E : Value -> Shared -> Prop} {s : Shared}
theorem yn {src:Source} {n:Nat} {M:Model} {Q:Nat->Shared->Prop} (hn:n ≠ 0) (h:∀ i d',i < n->Q i { s with drawn:=d' }):wpAny M A (choose src n) Q E s:=fun _ _ _=>⟨hn,h _ _ (Cc _ (Nat.pos_of_ne_zero hn))⟩
theorem JJ {α:Type} {M:Model}:∀ (n:Nat) (xs:List α) (s:Shared) (Q:List α->Shared->Prop),xs.length=n->(∀ ys d',ys.Perm xs->Q ys { s with drawn:=d' })->wpAny M A (drawOrder n xs) Q E s:=by
 intro n
 induction n with
 | zero=>
  intro xs s Q hl h
  obtain rfl:=CO.mp hl
  exact AD (h [] s.drawn (.refl _))
 | succ n ih=>
  intro xs s Q hl h
  have hn:0 < xs.length:=by omega
  have he:drawOrder (n+1) xs=(choose .order xs.length >>= fun i=>match xs[i]? with
   | some x=>drawOrder n (xs.eraseIdx i) >>= fun ys=>pure (x :: ys)
   | none=>unsupported "internal:drawOrder"):=by
   cases xs with
   | nil=>cases hn
   | cons x xs=>rfl
  rw[he]
  refine AA (yn (by omega) fun i d' hi=>?_)
  rw[AG hi]
  dsimp only
  refine AA (ih (xs.eraseIdx i) _ _ (by rw[List.length_eraseIdx,if_pos hi,hl];rfl) fun ys d2 hp=>AD ?_)
  refine h _ d2 ?_
  refine (hp.cons _).trans ?_
  rw[EF]
  refine EJ.symm.trans ?_
  rw[<- B3 hi,B1]
def DrIt (h:Heap) (I a p:Addr) (i n ep:Nat) (pl:List Nat):Prop:=(∃ o,h.get? I=some o/\o.cls=.type "set_iterator" /\ o.data=.fields #[.ref p,.int (i:Nat) 0,.ref a,.int (n:Nat) 0,.int (ep:Nat) 0])/\∃ o,h.get? p=some o/\∃ m,o.data=.seq (pl.map fun (i:Nat)=>rawInt i).toArray m
def EnAt (h:Heap) (a:Addr) (es:Array (Int×Value)) (ep:Nat) (t:SetTable):Prop:=∃ o,h.get? a=some o/\o.ExactSet/\o.data=.set es ep t/\t.fits es.size=true
section
variable {a I p : Addr} {es : Array (Int × Value)} {ep : Nat} {t : SetTable} {pl : List Nat}
theorem DrIt.typeIs {i n:Nat} (x:DrIt s.heap I a p i n ep pl):s.TypeIs (.ref I) "set_iterator":=let ⟨⟨o,ho,hc,_⟩,_⟩:=x;⟨o,ho,hc⟩
theorem zah {Q:Value->Shared->Prop} (hd:EnAt s.heap a es ep t) (hdr:(!qx w && (!t.plain && decide (es.size > 1)))=true) (hz:es.size<=sizeLine)
  (hQ:∀ (pl:List Nat) (d':Drawn),pl.Perm (List.range es.size)->Q (.ref (s.heap.objs.size+1)) { s with heap:=(s.heap.push { cls:=.type "tuple",data:=.seq (pl.map fun (i:Nat)=>rawInt i).toArray }).push { cls:=.type "set_iterator",data:=.fields #[.ref s.heap.objs.size,.int (0:Nat) 0,.ref a,.int (es.size:Nat) 0,.int (ep:Nat) 0] },drawn:=d' }) :
  wpAny (model prog w) A (pyIter (.ref a)) Q E s:=by
 obtain⟨o,ho,hx,hdat,hf⟩:=hd
 have hT:s.TypeIs (.ref a) "set":=⟨o,ho,hx.1⟩
 refine Ck hT B0 (Ay B0 hT jF ?_ (DX _))
 unfold Builtin.«frozenset.__iter__» Builtin.Frozenset.slot0
 refine AA (AA (AD ?_))
 refine AD ?_
 unfold Builtin.Frozenset.sizeOf setEntries
 refine AA (AA (AA (A1 ho hdat hf (AD (AD ?_)))))
 unfold setDrawn setsByText
 refine AA (AA (A1 ho hdat hf ?_))
 refine AA (AA (Bh (AD (AD ?_))))
 refine BE (fun _=>?_) (fun hab=>absurd (show (!(qx w) && (!t.plain && decide (es.size > 1)))=true from hdr) hab)
 refine AA (JJ es.size (List.range es.size) _ _ AZ fun pl d' hp=>?_)
 have hl:pl.length=es.size:=by rw[hp.length_eq,AZ]
 refine AA (wpAny_newTuple ?_ (by rw[AB,hl];exact hz))
 refine AA (Ea (AF _ ho) hdat hf ?_)
 refine AA (Ap ?_)
 have q:=hQ pl d' hp
 refine AD ⟨_,rfl, "set_iterator",_,⟨_,AO _ rfl,rfl⟩,zx.lookup,?_⟩
 have e:(s.heap.push { cls:=.type "tuple",data:=.seq (pl.map fun (i:Nat)=>rawInt i).toArray }).objs.size=s.heap.objs.size+1:=Bp ..
 dsimp only
 rw[e]
 exact q
theorem wj {Q:Option Value->Shared->Prop} {i n:Nat} {k:Nat} {e:Int×Value} (Ip:I ≠ p) (hit:DrIt s.heap I a p i n ep pl) (hn:n=es.size) (hd:EnAt s.heap a es ep t) (hk:pl[i]? = some k) (he:es[k]? = some e)
  (hQ:∀ h',DrIt h' I a p (i+1) n ep pl->Heap.SameBut I s.heap h'->Q (some e.2) { s with heap:=h' }) :
  wpAny (model prog w) A (pyNext (.ref I)) Q E s:=by
 obtain⟨⟨oI,hoI,hcI,hdI⟩,op,hop,m,hdp⟩:=id hit
 obtain⟨o,ho,hx,hdat,hf⟩:=id hd
 subst hn
 unfold pyNext
 refine AA (Bk (wpAny_callSpecial?_slot (name:=Str.ofString "__next__") hit.typeIs zx
  (Ay zx hit.typeIs qt ?_ (qC _))))
 unfold Builtin.«set_iterator.__next__»
 refine AA (AD ?_)
 refine AA (DF hoI hdI ?_)
 dsimp only
 unfold setEntries
 refine AA (AA (A1 ho hdat hf (AD ?_)))
 rw[if_neg (by simp)]
 unfold seqItems?
 refine AA (AA (ES hop ?_))
 rw[hdp]
 refine AD ?_
 dsimp only
 have ek:(pl.map fun (i:Nat)=>rawInt i).toArray[((i:Nat):Int).toNat]? = some (rawInt k):=by
  rw[A4]
  simp[hk]
 rw[ek]
 dsimp only[rawInt]
 unfold setNextDrawn
 refine AA (AA (A1 ho hdat hf ?_))
 dsimp only
 rw[if_neg (by simp)]
 rw[A4,he]
 refine AD ?_
 refine AA (BP hoI hdI (by simp) ?_)
 refine AD ⟨_,rfl,AD (hQ _ ⟨⟨_,Aj _ hoI (BS (Az hdI _)),?_,?_⟩,op,?_,m,hdp⟩ (A5 ..))⟩
 ·rw[CN]
  exact hcI
 ·rw[Az hdI]
  simp[rawInt]
 ·exact (BI _ _ Ip).trans hop
theorem Wr {Q:Option Value->Shared->Prop} {n:Nat} (hh:A.handled=none) (hit:DrIt s.heap I a p n n ep pl) (hn:n=es.size) (hl:pl.length=n) (hd:EnAt s.heap a es ep t)
  (hQ:∀ h',Heap.ExtBut I s.heap h'->Q none { s with heap:=h' }) :
  wpAny (model prog w) A (pyNext (.ref I)) Q E s:=by
 obtain⟨⟨oI,hoI,hcI,hdI⟩,op,hop,m,hdp⟩:=id hit
 obtain⟨o,ho,hx,hdat,hf⟩:=id hd
 subst hn
 unfold pyNext
 refine AA (Bk (wpAny_callSpecial?_slot (name:=Str.ofString "__next__") hit.typeIs zx
  (Ay zx hit.typeIs qt ?_ (qC _))))
 unfold Builtin.«set_iterator.__next__»
 refine AA (AD ?_)
 refine AA (DF hoI hdI ?_)
 dsimp only
 unfold setEntries
 refine AA (AA (A1 ho hdat hf (AD ?_)))
 rw[if_neg (by simp)]
 unfold seqItems?
 refine AA (AA (ES hop ?_))
 rw[hdp]
 refine AD ?_
 dsimp only
 have ek:(pl.map fun (i:Nat)=>rawInt i).toArray[((es.size:Nat):Int).toNat]? = none:=by
  rw[A4]
  simp[hl]
 rw[ek]
 dsimp only
 refine AA (BP hoI hdI (by simp) ?_)
 have h1:=Aj (Obj.mapFields (·.setIfInBounds 0 (rawInt 0))) hoI (BS (Az hdI _))
 have d1:=Az hdI (·.setIfInBounds 0 (rawInt 0))
 refine AA (BP h1 d1 (by simp) ?_)
 show wpAny _ _ (newExc (.type "StopIteration") [] >>= _) _ _ _
 refine AA ?_
 simp only[newExc,newTuple]
 refine AA (Ap ?_ (by size_fits))
 refine AA (m:=firstArgMember _ _) (BO (a:=Value.none) (by first | rfl | (simp only[firstArgMember];rfl)) ?_)
 refine Ap ?_ (by size_fits)
 simp only[raiseNew]
 refine AA (Dm ?_)
 rw[show A.in1.handled=none from hh]
 refine AA (AD (D5 ?_))
 refine AA (Bb (T := "StopIteration") (b:=true) ⟨_,AO _ rfl,rfl⟩ D7 ?_)
 exact AD (hQ _ ((((A5 ..).trans (A5 ..)).extBut.push _).push _))
theorem walks_dr (hh:A.handled=none) (hp:I ≠ p) (ha:I ≠ a) (hl:pl.Perm (List.range es.size)):Walks prog w A I [I,a,p] [I] es.size (fun i v=>∃ k e,pl[i]? = some k/\es[k]? = some e/\v=e.2) (fun i h=>DrIt h I a p i es.size ep pl/\EnAt h a es ep t) where
 sub:=fun b hb=>by simp at hb;simp[hb]
 frame:=fun _ _ _ st hk=>by
  obtain⟨⟨⟨o1,e1,r1⟩,o2,e2,r2⟩,o3,e3,r3⟩:=st
  exact⟨⟨⟨o1,hk I (by simp) o1 e1,r1⟩,o2,hk p (by simp) o2 e2,r2⟩,o3,hk a (by simp) o3 e3,r3⟩
 item:=fun i s Q E hi st hQ=>by
  have hi':i < pl.length:=by rw[hl.length_eq,AZ];exact hi
  have hk:pl[i]? = some pl[i]:=AG hi'
  have hm:pl[i] < es.size:=Af.mp (hl.mem_iff.mp (Ci hi'))
  have he:es[pl[i]]? = some es[pl[i]]:=Bl hm
  refine wj hp st.1 rfl st.2 hk he fun h' hit' hs'=>?_
  obtain⟨o3,e3,r3⟩:=st.2
  exact hQ _ h' s.toks ⟨_,_,hk,he,rfl⟩ ⟨hit',o3,hs'.extBut a o3 (BD ha) e3,r3⟩ fun b o hb e=>hs'.extBut b o (fun h=>hb (by simp[h])) e
 done:=fun s Q E st hQ=>Wr hh st.1 rfl (by rw[hl.length_eq,AZ]) st.2 fun h' he'=>hQ h' s.toks fun b o hb e=>he' b o (fun h=>hb (by simp[h])) e
 self:=fun _ _ _ _ st hQ=>by
  refine Ck st.1.typeIs jh (Ay jh st.1.typeIs Zx ?_ (Z2 _))
  show wpAny _ _ (ret (.ref I)) _ _ _
  exact AD ⟨_,rfl, "set_iterator",_,st.1.typeIs,zx.lookup,hQ⟩
theorem xA {R:List Value->Shared->Prop} (hh:A.handled=none) (hd:EnAt s.heap a es ep t) (hdr:(!qx w && (!t.plain && decide (es.size > 1)))=true) (hz:es.size<=sizeLine)
  (h:∀ (h':Heap) (tk:Nat) (d':Drawn) (pl:List Nat) (acc:Array Value),(∀ b o,s.heap.get? b=some o->h'.get? b=some o)->pl.Perm (List.range es.size)->ItemsOf (fun i v=>∃ k e,pl[i]? = some k/\es[k]? = some e/\v=e.2) acc es.size->R acc.toList { s with heap:=h',toks:=tk,drawn:=d' }) :
  wpAny (model prog w) A (collect (.ref a)) R E s:=by
 obtain⟨o,ho,hx,hdat,hf⟩:=id hd
 have la:=AN ho
 unfold collect
 refine AA (D6 (BA entry_proto_collect' ?_))
 rw[Ax PySem.F.plain_proto_collect _]
 show wpAny _ A.in1 (newList [] >>= fun l=>again (.builtin "list.__iadd__" ⟨[l,.ref a],[]⟩)) _ _ s
 refine AA (Ap ?_)
 refine AD ⟨BK PySem.F.plain_list_iadd _,BA entry_list_iadd' ?_⟩
 rw[Ax PySem.F.plain_list_iadd _]
 have hS1:(s.heap.push { cls:=.type "list",data:=.seq ([]:List Value).toArray }).get? s.heap.objs.size=some { cls:=.type "list",data:=.seq #[] }:=AO _ rfl
 show wpAny _ A.in1 (Builtin.List.listExtendWith (.ref s.heap.objs.size) (.ref a) (.ref s.heap.objs.size)) _ _ _
 have hd1:EnAt (s.heap.push { cls:=.type "list",data:=.seq ([]:List Value).toArray }) a es ep t:=⟨o,AF _ ho,hx,hdat,hf⟩
 have sz1:(s.heap.push { cls:=.type "list",data:=.seq ([]:List Value).toArray }).objs.size=s.heap.objs.size+1:=Bp ..
 have kp1:∀ b ob,s.heap.get? b=some ob->(s.heap.push { cls:=.type "list",data:=.seq ([]:List Value).toArray }).get? b=some ob:=fun b ob e=>AF _ e
 generalize s.heap.push { cls:=.type "list",data:=.seq ([]:List Value).toArray } = g1 at hS1 hd1 sz1 kp1 ⊢
 have key:∀ (g2:Heap) (tk c1:Nat) (d':Drawn) (I p:Addr) (pl:List Nat),pl.Perm (List.range es.size)->s.heap.objs.size < I->s.heap.objs.size < p->I ≠ p->DrIt g2 I a p 0 es.size ep pl->EnAt g2 a es ep t->(∀ b ob,b < s.heap.objs.size->g1.get? b=some ob->g2.get? b=some ob)->g2.get? s.heap.objs.size=some { cls:=.type "list",data:=.seq #[] c1 } ->
   codeAny (model prog w) A (.builtin "list.extend.loop" ⟨[.ref s.heap.objs.size,.ref I,.ref s.heap.objs.size],[]⟩) (fun r s'=>∃ (h':Heap) (tk:Nat) (acc':Array Value) (c':Nat) (d':Drawn) (pl:List Nat),r=.ok (.ret (.ref s.heap.objs.size))/\s' = { s with heap:=h',toks:=tk,drawn:=d' }/\(∀ b o,s.heap.get? b=some o->h'.get? b=some o)/\h'.get? s.heap.objs.size=some { cls:=.type "list",dict:=none,data:=.seq acc' c',slots:=#[] }/\pl.Perm (List.range es.size)/\ItemsOf (fun i v=>∃ k e,pl[i]? = some k/\es[k]? = some e/\v=e.2) acc' es.size) { s with heap:=g2,toks:=tk,drawn:=d' }:=by
  intro g2 tk c1 d' I p pl hpl hI hp hne hit hen kp hS
  refine codeAny_extend_loopS (walks_dr (A:=A.in1) (t:=t) (ep:=ep) hh hne (BF (DJ la hI)) hpl).toS hz s.heap.objs.size (by
   simp only[List.mem_cons,List.not_mem_nil,or_false,not_or]
   exact⟨AR hI,BF la,AR hp⟩) _ es.size 0 _ #[] c1 rfl (A9 _) ⟨hit,hen⟩ hS (ItemsOf.nil _) fun s' acc' c' hm hS' hacc=>?_
  refine⟨s'.heap,s'.toks,acc',c',d',pl,rfl,?_,fun b ob e=>hm.heap b ob (fun hb=>?_) (kp b ob (AN e) (kp1 b ob e)),hS',hpl,hacc⟩
  ·have e1:=hm.gens
   have e2:=hm.drawn
   have e3:=hm.os
   obtain⟨q1,q2,q3,q4,q5⟩:=s'
   dsimp only at e1 e2 e3 ⊢
   rw[e1,e2,e3]
  ·have hl:=AN e
   rcases AV.mp hb with z | z
   ·exact absurd hl (z ▸ A6 _)
   ·rw[AE.mp z] at hl
    exact absurd hl (Nat.not_lt_of_gt hI)
 have fin:∀ (r:Result) (s':Shared),(∃ (h':Heap) (tk:Nat) (acc':Array Value) (c':Nat) (d':Drawn) (pl:List Nat),r=.ok (.ret (.ref s.heap.objs.size))/\s' = { s with heap:=h',toks:=tk,drawn:=d' }/\(∀ b o,s.heap.get? b=some o->h'.get? b=some o)/\h'.get? s.heap.objs.size=some { cls:=.type "list",dict:=none,data:=.seq acc' c',slots:=#[] }/\pl.Perm (List.range es.size)/\ItemsOf (fun i v=>∃ k e,pl[i]? = some k/\es[k]? = some e/\v=e.2) acc' es.size)->r=.ok (.ret (.ref s.heap.objs.size))/\wpAny (model prog w) A (load s.heap.objs.size >>= fun o=>match o.data with
     | Data.seq xs _=>pure xs.toList
     | _=>unsupported "internal:collect") R E s':=by
  rintro r s' ⟨h',tk,acc',c',d',pl,e,rfl,hk,hS',hpl,hacc⟩
  exact⟨e,AA (ES hS' (AD (h h' tk d' pl acc' hk hpl hacc)))⟩
 unfold Builtin.List.listExtendWith
 have hT:Shared.TypeIs { s with heap:=g1 } (.ref a) "set":=by
  obtain⟨o',ho',hx',_⟩:=hd1
  exact⟨o',ho',hx'.1⟩
 refine AA (Bm (T := "set") hT ?_)
 have h1:Builtin.List.listSameRef (.ref s.heap.objs.size) (.ref a)=false:=by simp[Builtin.List.listSameRef,Nat.ne_of_gt la]
 simp only[h1,show (Value.type "set" == Value.type "list")=false by decide,show (Value.type "set" == Value.type "tuple")=false by decide,Bool.or_false,Bool.false_eq_true,if_false]
 refine AA (zah hd1 hdr hz fun pl d' hpl=>?_)
 have k2:∀ b ob,g1.get? b=some ob->((g1.push { cls:=.type "tuple",data:=.seq (pl.map fun (i:Nat)=>rawInt i).toArray }).push { cls:=.type "set_iterator",data:=.fields #[.ref g1.objs.size,.int (0:Nat) 0,.ref a,.int (es.size:Nat) 0,.int (ep:Nat) 0] }).get? b=some ob:=fun b ob e=>AF _ (AF _ e)
 have hit:DrIt ((g1.push { cls:=.type "tuple",data:=.seq (pl.map fun (i:Nat)=>rawInt i).toArray }).push { cls:=.type "set_iterator",data:=.fields #[.ref g1.objs.size,.int (0:Nat) 0,.ref a,.int (es.size:Nat) 0,.int (ep:Nat) 0] }) (g1.objs.size+1) a g1.objs.size 0 es.size ep pl:=by
  refine⟨⟨{ cls:=.type "set_iterator",data:=.fields #[.ref g1.objs.size,.int (0:Nat) 0,.ref a,.int (es.size:Nat) 0,.int (ep:Nat) 0] },?_,rfl,rfl⟩,_,AF _ (AO _ rfl),_,rfl⟩
  have e:(g1.push { cls:=.type "tuple",data:=.seq (pl.map fun (i:Nat)=>rawInt i).toArray }).objs.size=g1.objs.size+1:=Bp ..
  rw[<- e]
  exact AO _ rfl
 dsimp only
 generalize (g1.push { cls:=.type "tuple",data:=.seq (pl.map fun (i:Nat)=>rawInt i).toArray }).push { cls:=.type "set_iterator",data:=.fields #[.ref g1.objs.size,.int (0:Nat) 0,.ref a,.int (es.size:Nat) 0,.int (ep:Nat) 0] } = g2 at k2 hit ⊢
 have hS2:=k2 _ _ hS1
 have hd2:EnAt g2 a es ep t:=by
  obtain⟨o',ho',r'⟩:=hd1
  exact⟨o',k2 _ _ ho',r'⟩
 have nI:s.heap.objs.size < g1.objs.size+1:=by rw[sz1];exact Au (BM _)
 have np:s.heap.objs.size < g1.objs.size:=by rw[sz1];exact BM _
 refine AA (BJ (JD (by
  obtain⟨o',ho',hx',_⟩:=hd2
  exact⟨o',ho',hx'.1⟩) ?_))
 refine BE (fun _=>?_) (fun _=>?_)
 ·refine AA (Bd ?_)
  refine AA ?_
  show wpAny _ _ (updateSeq s.heap.objs.size (·.push .none) >>= fun _=>updateSeq s.heap.objs.size (·.pop)) _ _ _
  refine AA (CY hS2 rfl ?_)
  have hS3:=Aj (Obj.mapSeq (·.push Value.none)) hS2 rfl
  refine CY (hz:=by seq_fits) hS3 rfl ?_
  have hS4:=Aj (Obj.mapSeq (·.pop)) hS3 rfl
  have k4:∀ b ob,b ≠ s.heap.objs.size->g2.get? b=some ob->((g2.update s.heap.objs.size (Obj.mapSeq (·.push Value.none))).update s.heap.objs.size (Obj.mapSeq (·.pop))).get? b=some ob:=fun b ob hb e=>(BI _ _ (BD hb)).trans ((BI _ _ (BD hb)).trans e)
  refine AD ⟨BK Cm _,CL (key _ s.toks _ d' (g1.objs.size+1) g1.objs.size pl hpl nI np (BF (BM _)) ?_ ?_ (fun b ob hb e=>k4 b ob (AR hb) (k2 b ob e)) hS4) fun r s' z=>?_⟩
  ·obtain⟨⟨o1,e1,r1⟩,o2,e2,r2⟩:=hit
   exact⟨⟨o1,k4 _ _ (BF nI) e1,r1⟩,o2,k4 _ _ (BF np) e2,r2⟩
  ·obtain⟨o3,e3,r3⟩:=hd2
   exact⟨o3,k4 _ _ (AR la) e3,r3⟩
  ·obtain⟨e,z2⟩:=fin r s' z
   cases e
   exact z2
 ·refine AD ⟨BK Cm _,CL (key _ s.toks _ d' (g1.objs.size+1) g1.objs.size pl hpl nI np (BF (BM _)) hit hd2 (fun b ob _ e=>k2 b ob e) hS2) fun r s' z=>?_⟩
  obtain⟨e,z2⟩:=fin r s' z
  cases e
  exact z2
end
theorem JK {α:Type} [DecidableEq α]:∀ (l m:List α),l.Nodup->(∀ x ∈ l,x ∈ m)->m.length=l.length->m.Perm l
 | [],m,_,_,h=>by rw[CO.mp h]
 | x :: l,m,nd,hs,hl=>by
  obtain⟨n1,n2⟩:=Bf.mp nd
  have hx:=hs x AW
  refine (List.perm_cons_erase hx).trans (List.Perm.cons _ (JK l (m.erase x) n2 (fun y hy=>?_) ?_))
  ·exact (List.mem_erase_of_ne (fun (e:y=x)=>n1 (e ▸ hy))).mpr (hs y (AY _ hy))
  ·rw[DU hx,hl,Aq]
   omega
theorem wS {acc:Array Value} {W:List (Int×Value)} (hl:acc.size=W.length) (hi:∀ (i:Nat) (v:Value),acc[i]? = some v->∃ e:Int×Value,W[i]? = some e/\v=e.2) (hv:∀ e ∈ W,∃ x tk,e.2=Value.str x tk):∃ ss,StrsAre acc.toList ss/\StrsAre (W.map (·.2)) ss:=by
 have e:acc.toList=W.map (·.2):=by
  refine CB fun i=>?_
  rw[AJ,B2]
  by_cases h:i < acc.size
  ·have g:acc[i]? = some acc[i]:=Bl h
   obtain⟨e,he,ee⟩:=hi i _ g
   rw[g,he,ee]
   rfl
  ·rw[Bi (by omega),BB (by omega)]
   rfl
 rw[e]
 clear e hi hl
 induction W with
 | nil=>exact⟨[],.nil,.nil⟩
 | cons z W ih=>
  obtain⟨ss,h1,h2⟩:=ih fun e he=>hv e (AY _ he)
  obtain⟨x,tk,ex⟩:=hv z AW
  refine⟨x :: ss,?_,?_⟩ <;> · rw[Ag,ex];exact .cons x tk (by assumption)
theorem yo {us vs:List Value} (h:us.Perm vs):∀ {ss ts:List Str},StrsAre us ss->StrsAre vs ts->ss.Perm ts:=by
 have e:∀ {us:List Value} {ss:List Str},StrsAre us ss->us.map strOf=ss:=fun h=>h.strs
 intro ss ts h1 h2
 rw[<- e h1,<- e h2]
 exact h.map _
theorem xB {a:Addr} {l:List Str} {R:List Value->Shared->Prop} (hh:A.handled=none) (hS:zae prog w (!qx w) s.heap a l) (nd:l.Nodup)
  (h:∀ (h':Heap) (tk:Nat) (d':Drawn) (vs:List Value) (ss:List Str),(∀ b o,s.heap.get? b=some o->h'.get? b=some o)->StrsAre vs ss->ss.Perm l->R vs { s with heap:=h',toks:=tk,drawn:=d' }) :
  wpAny (model prog w) A (collect (.ref a)) R E s:=by
 obtain⟨o,es,ep,t,ho,hx,hdat,hel,hmem,hb,hf,hn,ti⟩:=hS
 have hz:es.size<=sizeLine:=CK hb
 have hv:∀ e ∈ es.toList,∃ x tk,e.2=Value.str x tk:=fun e he=>by
  obtain⟨⟨k,hk,_⟩,_⟩:=hel e he
  cases hs:e.2 with
  | str x tk=>exact⟨x,tk,rfl⟩
  | _=>rw[hs] at hk;simp[PySem.strKind,Value.isStrOf] at hk
 have lp:∀ (ss:List Str),StrsAre (es.toList.map (·.2)) ss->ss.Perm l:=fun ss hss=>by
  refine JK l ss nd (fun x hx=>?_) ?_
  ·obtain⟨e,he,hk⟩:=(hmem x).mp (Ai hx)
   have e1:=hss.strs
   have:strOf e.2 ∈ ss:=by
    rw[<- e1]
    exact AM.mpr ⟨e.2,AM.mpr ⟨e,he,rfl⟩,rfl⟩
   obtain⟨y,tk,ey⟩:=hv e he
   rw[ey] at hk this
   have:x=y:=by
    simp[PySem.strKind,Value.isStrOf] at hk
    first | exact hk | exact hk.symm
   subst this
   assumption
  ·have:=hss.length
   rw[AB,Av] at this
   omega
 by_cases hdr:(!qx w && (!t.plain && decide (es.size > 1)))=true
 ·refine xA hh ⟨o,ho,hx,hdat,hf⟩ hdr hz fun h' tk d' pl acc hk hpl hacc=>?_
  have pl2:pl.length=es.size:=by rw[hpl.length_eq,AZ]
  have hW:List.Perm (pl.map fun k=>es.getD k (0,.none)) es.toList:=by
   have h1:=hpl.map fun k=>es.getD k (0,Value.none)
   refine h1.trans (.of_eq ?_)
   refine CB fun i=>?_
   rw[AJ]
   by_cases hi:i < es.size
   ·rw[A3 hi]
    simp[Array.getD,hi]
   ·rw[BB (by rw[AZ];omega),BB (by rw[Av];omega)]
    rfl
  obtain⟨ss,h1,h2⟩:=wS (acc:=acc) (W:=pl.map fun k=>es.getD k (0,.none)) (by rw[AB,pl2];exact hacc.1) (fun i v hiv=>by
   obtain⟨k,e,e1,e2,e3⟩:=hacc.2 i v hiv
   refine⟨e,?_,e3⟩
   rw[AJ,e1]
   show some (es.getD k (0,.none))=some e
   have hk':=(Ce.mp e2)
   obtain⟨hk1,hk2⟩:=hk'
   simp[Array.getD,hk1,hk2]) fun e he=>hv e (hW.mem_iff.mp he)
  refine h h' tk d' acc.toList ss hk h1 ?_
  have h3:∃ ts,StrsAre (es.toList.map (·.2)) ts:=⟨_,strsAre_map _ fun v hv'=>by
   obtain⟨e,he,rfl⟩:=AM.mp hv'
   exact hv e he⟩
  obtain⟨ts,h3⟩:=h3
  exact (yo (hW.map _) h2 h3).trans (lp ts h3)
 ·have wk:Wk w es t:=⟨ti,hf,by
   cases hb:qx w with
   | true=>exact .inl rfl
   | false=>
    rw[hb] at hdr
    exact .inr (DT.mpr (by simpa using hdr))⟩
  refine kdu_collect (kdl_setW (a:=a) (es:=es) (ep:=ep) (t:=t)) hh ⟨o,ho,hx,hdat,wk⟩ hz fun h' tk acc hk hacc=>?_
  have wp:=JB w a es ep
  obtain⟨ss,h1,h2⟩:=wS (acc:=acc) (W:=(JA w a es ep).toList) (by rw[Av,jm];exact hacc.1) (fun i v hiv=>by
   obtain⟨e,e1,e2⟩:=hacc.2 i v hiv
   exact⟨e,by rw[B2];exact e1,e2⟩) fun e he=>hv e (wp.mem_iff.mp he)
  have h3:∃ ts,StrsAre (es.toList.map (·.2)) ts:=⟨_,strsAre_map _ fun v hv'=>by
   obtain⟨e,he,rfl⟩:=AM.mp hv'
   exact hv e he⟩
  obtain⟨ts,h3⟩:=h3
  exact h h' tk s.drawn acc.toList ss hk h1 ((yo (wp.map _) h2 h3).trans (lp ts h3))
theorem zai {a:Addr} {l:List Str} {Q:Value->Shared->Prop} (hh:A.handled=none) (hS:zae prog w (!qx w) s.heap a l) (nd:l.Nodup) (h64:l.length < 64)
  (h:∀ (h1 h':Heap) (tk:Nat) (d':Drawn) (out:Array Value) (e:Nat) (ss:List Str),(∀ b o,s.heap.get? b=some o->h1.get? b=some o)->(∀ b o,h1.get? b=some o->h'.get? b=some o)->h'.get? h1.objs.size=some (seqObj "list" out e)->StrsAre out.toList ss->ss.Perm l->sortedS ss=true->Q (.ref h1.objs.size) { s with heap:=h',toks:=tk,drawn:=d' }) :
  wpAny (model prog w) A (call (.builtin "sorted") [.ref a]) Q E s:=by
 refine Calls.call_function_entry kind_sorted plain_sorted entry_sorted (args_sorted1 _) ?_
 unfold Builtin.«sorted»
 refine AA (m:=checkCount "sorted" 1 1 _) (AD ?_)
 refine AA (xB (A:=A.in1) hh hS nd fun h' tk d' vs ss hk hv hp=>?_)
 have hl:vs.length=l.length:=by rw[hv.length,hp.length_eq]
 refine AA (wpAny_newList ?_ (by rw[hl,Dh];omega))
 have hoL:(h'.push (seqObj "list" vs.toArray 0)).get? h'.objs.size=some (seqObj "list" vs.toArray 0):=AO _ rfl
 show wpAny _ _ _ _ _ { s with heap:=h'.push (seqObj "list" vs.toArray 0),toks:=tk,drawn:=d' }
 refine AA (BJ (Ay slot_list_sort ⟨_,hoL,rfl⟩ entry_list_sort (list_sort_treeK strKind_oneLt hoL hv.keysOf (fun v1 v2 rest e=>keyKind_strs (by rw[<- e];exact hv)) (by omega) fun st' a1 a2=>⟨_,rfl,?_⟩) (args_list_sort _)))
 obtain⟨ss',b1,b2,b3⟩:=sorted_out_str hv a1 a2
 obtain⟨e,he⟩:=sortedHeap_at (vs:=vs) (out:=(arrOf st').map (·.2)) hoL
 exact AD ⟨_,rfl,h h' _ tk d' _ e ss' hk (fun b o q1=>by
  have hb:=AN q1
  rw[sortedHeap_old (AR hb) (by rw[Bp];exact Au hb)]
  exact AF _ q1) he b1 (b2.trans hp) b3⟩
end
def TxSet (P:Program) (w:World) (a:Addr) (l:List Str):HO:=.ext fun h=>zae P w (!qx w) h a l
theorem Inv.lots {X:Cx} {pins:List (Addr×Obj)} {σ:List (Option V)} {H:Hp} {s:Shared} (I:Inv X pins σ H s) (d':Drawn):Inv X pins σ H { s with drawn:=d' }:=⟨I.ok,I.os,I.bare,I.base,I.loc,I.cell,I.free,I.freeC,I.pin,I.hok,I.len⟩
theorem QP {α:Type} [DecidableEq α] (vs:List α):(we vs).Nodup:=by
 have key:∀ (vs l:List α),l.Nodup->(vs.foldl Xy l).Nodup:=by
  intro vs
  induction vs with
  | nil=>exact fun l h=>h
  | cons v vs ih=>
   intro l h
   refine ih _ ?_
   unfold Xy
   split
   ·exact h
   ·rename_i hv
    refine EA.mpr ⟨h,by simp,fun a ha b hb=>?_⟩
    rw[AE.mp hb]
    exact fun e=>hv (e ▸ ha)
 exact key vs [] .nil
theorem YN {α:Type} [DecidableEq α] {vs:List α} {x:α}:x ∈ we vs ↔ x ∈ vs:=by
 have key:∀ (vs l:List α),x ∈ vs.foldl Xy l ↔ x ∈ l\/x ∈ vs:=by
  intro vs
  induction vs with
  | nil=>intro l;simp
  | cons v vs ih=>
   intro l
   rw[B5,ih,YC,AV,or_assoc]
 have:=key vs []
 simpa [we] using this
section
variable {X : Cx}
theorem wT (K:PySem.W.Frag) (hc:X.calm=true) (hK:X.K=K:=by rfl):jB X (.type "set") (fun xs H Q=>∃ p ys,xs=[.ref p]/\SqL K H p (ys.map V.str)/\ys.length<=1000/\∀ a,H a=none->Q (.ref a) (upd H a (TxSet X.prog X.w a (we ys)))):=by
 subst hK
 intro pins s σ H xs us Q I r h
 obtain⟨p,ys,rfl,hq,hz,q⟩:=h
 obtain⟨u,rfl,ru⟩:=vals1 r
 cases ru
 obtain⟨its,rv,pl,_⟩:=I.list hq
 have hb:ys.length+1 < scanBound:=by unfold scanBound;omega
 refine zag (I.ok.hd hc) pl.isList (xg rv) hb fun h' tk hS hk=>?_
 have fr:=I.hok.fresh (AK s.heap.objs.size)
 refine⟨.ref s.heap.objs.size,_,I.laid (t':=tk) (o:=TxSet X.prog X.w s.heap.objs.size (we ys)) (fun b o e=>hk b o (AN e) e) (AK _) ⟨hS,?_,fun h1 h2 z k=>JH z k⟩,rfl,q _ fr⟩
 obtain⟨o,_,_,_,ho,_⟩:=hS
 exact⟨o,ho⟩
theorem zaj {us:List Value} {ss:List Str} (h:StrsAre us ss):qA (ss.map V.str) us:=by
 induction h with
 | nil=>exact .nil
 | cons x t _ ih=>exact .cons ⟨t,rfl⟩ ih
theorem Qx (hc:X.calm=true):jB X (.builtin "sorted") (fun xs H Q=>∃ (a:Addr) (l:List Str),xs=[.ref a]/\H a=some (TxSet X.prog X.w a l)/\l.Nodup/\l.length < 64/\∀ (k:Addr) (ss:List Str),H k=none->ss.Perm l->sortedS ss=true->Q (.ref k) (upd H k (.lst (ss.map V.str)))):=by
 intro pins s σ H xs us Q I r h
 obtain⟨a,l,rfl,ha,nd,h64,q⟩:=h
 obtain⟨u,rfl,rx⟩:=vals1 r
 cases rx
 have hd:=(I.hok a _ ha).1
 refine zai (I.ok.hd hc) hd nd h64 fun h1 h' tk d' out e ss k1 k2 he a1 a2 a3=>?_
 have I1:Inv X pins σ H { s with heap:=h1,toks:=tk,drawn:=d' }:=(I.un (t':=tk) (Un.kept k1) (I.hok.kept k1)).lots d'
 refine⟨.ref h1.objs.size,_,I1.laid (t':=tk) (o:=.lst (ss.map V.str)) k2 (AK _) ?_,rfl,q _ ss (I1.hok.fresh (AK _)) a2 a3⟩
 refine⟨by rw[AB,a2.length_eq,Dh];omega,out.toList,e,zaj a1,?_⟩
 simpa [seqObj] using he
end
section
variable {X : Cx}
def rKIn:R2:=fun y x H Q=>∃ a kvs k,x=.ref a/\y=kV k/\H a=some (.dK kvs)/\Q (.bl (jo kvs k).isSome) H
theorem op_kIn {j:Nat} (hr:QI j X.A):OpR X (compareOp .In) rKIn:=by
 intro pins s σ H x y v u Q I rx ry h
 obtain⟨a,kvs,k,rfl,rfl,ha,q⟩:=h
 have hu:X.A.units+64 < cLine:=hr.units
 obtain rfl:u=Value.ref a:=ry
 exact d_in (by omega) I (Js.k ha) rx fun s' I'=>⟨.bl _,H,I',rfl,q⟩
theorem yp:jB X (.builtin "len") (fun xs H Q=>∃ a kvs,xs=[.ref a]/\H a=some (.dK kvs)/\Q (.int (kvs.length:Nat)) H):=by
 intro pins s σ H xs us Q I r h
 obtain⟨a,kvs,rfl,ha,q⟩:=h
 obtain⟨u,rfl,rx⟩:=vals1 r
 cases rx
 exact d_len I (.inl ha) fun t s' I'=>⟨.int _,H,I',⟨_,rfl⟩,q⟩
end
end L2
namespace L4
open PySem L2
structure Cn where
 nm:Str
 pl:Nat
 cs:List Nat
structure Tb where
 m:Nat
 ws:List Nat
 cs:List Cn
def Cns (H:Hp):List Cn->List V->Prop:=Paired fun c v=>∃ t u,v=.ref t/\H t=some (.tup [.str c.nm,nV c.pl,.ref u])/\H u=some (.tup (c.cs.map nV))
theorem Cns.same {H H':Hp} (s:zD H H') {cs:List Cn} {vs:List V} (h:Cns H cs vs):Cns H' cs vs:=by
 unfold Cns at h ⊢
 induction h with
 | nil=>exact .nil
 | cons r _ ih=>
  obtain⟨t,u,e,h1,h2⟩:=r
  exact .cons ⟨t,u,e,s _ _ h1,s _ _ h2⟩ ih
theorem Cns.snoc {H:Hp} {cs:List Cn} {vs:List V} {c:Cn} {t u:Addr} (h:Cns H cs vs) (h1:H t=some (.tup [.str c.nm,nV c.pl,.ref u])) (h2:H u=some (.tup (c.cs.map nV))):Cns H (cs++[c]) (vs++[.ref t]):=by
 unfold Cns at h ⊢
 induction h with
 | nil=>exact .cons ⟨t,u,rfl,h1,h2⟩ .nil
 | cons r _ ih=>exact .cons r ih
theorem Cns.len {H:Hp} {cs:List Cn} {vs:List V} (h:Cns H cs vs):cs.length=vs.length:=Al h
theorem Cns.get {H:Hp} {cs:List Cn} {vs:List V} (h:Cns H cs vs) {i:Nat} {c:Cn} (hc:cs[i]? = some c):∃ t u,vs[i]? = some (.ref t)/\H t=some (.tup [.str c.nm,nV c.pl,.ref u])/\H u=some (.tup (c.cs.map nV)):=by
 have hi:i < vs.length:=by
  rw[<- h.len]
  exact (AC.mp hc).1
 have e:vs[i]? = some vs[i]:=AG hi
 obtain⟨t,u,e1,h1,h2⟩:=Paired.at h i c _ hc e
 exact⟨t,u,by rw[e,e1],h1,h2⟩
def ZT (H:Hp) (v:V) (T:Tb):Prop:=∃ a w c vs,v=.ref a/\H a=some (.tup [nV T.m,.ref w,.ref c])/\H w=some (.tup (T.ws.map nV))/\H c=some (.tup vs)/\Cns H T.cs vs
theorem ZT.same {H H':Hp} (s:zD H H') {v:V} {T:Tb} (h:ZT H v T):ZT H' v T:=by
 obtain⟨a,w,c,vs,e,h1,h2,h3,h4⟩:=h
 exact⟨a,w,c,vs,e,s _ _ h1,s _ _ h2,s _ _ h3,h4.same s⟩
structure zY (T:Tb):Prop where
 m1:1<=T.m
 m9:T.m<=9
 ris:T.ws.Pairwise (· < ·)
 wlt:∀ x ∈ T.ws,x < T.m
 cl:T.cs.length<=16
 cn:∀ c ∈ T.cs,c.nm.length<=100/\c.pl<=2/\Tn.Cs T.m c.pl c.cs
theorem JL {m k:Nat} (h9:m<=9) (k2:k<=2):m ^ k<=81:=by
 have h1:m ^ k<=9 ^ k:=DI h9 k
 have h2:(9:Nat) ^ k<=9 ^ 2:=Cb (by decide) k2
 exact Ab h1 h2
theorem ws_len {T:Tb} (g:zY T):T.ws.length<=9:=Ab (Tn.nodup_len T.m T.ws (g.ris.imp fun h=>AR h) g.wlt) g.m9
theorem Cns.tk {H H':Hp} (s:Tk H H') {cs:List Cn} {vs:List V} (h:Cns H cs vs):Cns H' cs vs:=by
 unfold Cns at h ⊢
 induction h with
 | nil=>exact .nil
 | cons r _ ih=>
  obtain⟨t,u,e,h1,h2⟩:=r
  exact .cons ⟨t,u,e,s _ _ h1,s _ _ h2⟩ ih
theorem ZT.tk {H H':Hp} (s:Tk H H') {v:V} {T:Tb} (h:ZT H v T):ZT H' v T:=by
 obtain⟨a,w,c,vs,e,h1,h2,h3,h4⟩:=h
 exact⟨a,w,c,vs,e,s _ _ h1,s _ _ h2,s _ _ h3,h4.tk s⟩
theorem Zf {xs:List Nat} {i:Nat} (hi:i < xs.length):atI (xs.map nV) (i:Int)=some (nV (Tn.at' xs i)):=by
 refine qw ?_
 rw[AJ,AG hi]
 unfold Tn.at'
 rw[Ao,AG hi]
 rfl
theorem jq (a:Nat) (ws:List Nat):inV (nV a) (ws.map nV)=decide (a ∈ ws):=by
 induction ws with
 | nil=>rfl
 | cons w ws ih=>
  unfold inV at ih ⊢
  rw[Ag,By,ih]
  have e:eqV (nV w) (nV a)=decide (a=w):=by
   by_cases h:a=w
   ·rw[h]
    simp[eqV]
   ·rw[Aw h]
    simp[eqV]
    omega
  rw[e,<- Bool.decide_or]
  exact decide_eq_decide.mpr AV.symm
theorem qk (ws:List Nat):(ws.map nV).all jY=true:=by
 rw[DK,A0]
 intro i _
 rfl
def qc (T:Tb):List Str:=T.cs.map Cn.nm
def findC (T:Tb) (nm:Str):Option Cn:=T.cs.find? fun c=>decide (c.nm=nm)
theorem Zg {T:Tb} (hn:(qc T).Nodup) {c:Cn} (hc:c ∈ T.cs):findC T c.nm=some c:=by
 obtain⟨m,ws,cs⟩:=T
 unfold findC qc at *
 dsimp only at *
 induction cs with
 | nil=>cases hc
 | cons d cs ih=>
  rw[Ag,Bf] at hn
  rw[List.find?_cons]
  rcases AV.mp hc with rfl | hc
  ·rw[Ai rfl]
  ·have ne:¬ d.nm=c.nm:=fun e=>hn.1 (e ▸ AM.mpr ⟨c,hc,rfl⟩)
   rw[Aw ne]
   exact ih hn.2 hc
def cellOf (T:Tb) (nm:Str) (r:List Nat):Nat:=match findC T nm with
 | some c=>Tn.at' c.cs (Tn.place T.m r)
 | none=>0
theorem zY.cell_lt {T:Tb} (g:zY T) (hn:(qc T).Nodup) {c:Cn} (hc:c ∈ T.cs) {r:List Nat} (hr:Tn.Rw T.m c.pl r):cellOf T c.nm r < T.m:=by
 unfold cellOf
 rw[Zg hn hc]
 exact (g.cn c hc).2.2.at_lt (Tn.place_lt _ _ hr)
def d0:Cn:=⟨"",0,[]⟩
def yq (c:Cn):List Key:=[Sum.inr c.nm,Sum.inl (c.pl:Int)]
def xC (H:Hp) (d:Addr) (T:Tb):Prop:=∃ kvs,H d=some (.dT kvs)/\∀ c ∈ T.cs,∃ u,jo kvs (yq c)=some (.ref u)/\H u=some (.tup (c.cs.map nV))
theorem xC.same {H H':Hp} {d:Addr} {T:Tb} (h:xC H d T) (s:zD H H'):xC H' d T:=by
 obtain⟨kvs,h1,h2⟩:=h
 refine⟨kvs,s _ _ h1,fun c hc=>?_⟩
 obtain⟨u,e1,e2⟩:=h2 c hc
 exact⟨u,e1,s _ _ e2⟩
def ctOf (T:Tb) (au:Nat->Addr) (n:Nat):List (List Key×V):=(List.range n).map fun i=>(yq (T.cs.getD i d0),.ref (au i))
theorem ct_snoc (T:Tb) (au:Nat->Addr) (n:Nat):ctOf T au (n+1)=ctOf T au n++[(yq (T.cs.getD n d0),.ref (au n))]:=by
 unfold ctOf
 rw[Bj,AL]
 rfl
theorem ZN {ls:List (Str×Nat)} {x:Str} {o:Nat} (h:ls.lookup x=some o):(x,o) ∈ ls:=by
 induction ls with
 | nil=>cases h
 | cons p ls ih=>
  obtain⟨y,q⟩:=p
  rw[BY] at h
  by_cases e:x=y
  ·subst e
   rw[CM] at h
   cases h
   exact AW
  ·rw[beq_eq_false_iff_ne.mpr e] at h
   exact AY _ (ih h)
theorem ct_keys (T:Tb) (au:Nat->Addr):(ctOf T au T.cs.length).map Prod.fst=T.cs.map yq:=by
 unfold ctOf
 rw[A2]
 refine CB fun i=>?_
 rw[AJ,AJ]
 by_cases hi:i < T.cs.length
 ·rw[A3 hi,AG hi]
  simp[List.getD,hi]
 ·rw[BB (by rw[AZ];omega),BB (by omega)]
  rfl
theorem ct_nd {T:Tb} {au:Nat->Addr} (h:(qc T).Nodup):((ctOf T au T.cs.length).map Prod.fst).Nodup:=by
 rw[ct_keys]
 unfold qc at h
 unfold List.Nodup at h ⊢
 rw[CW] at h ⊢
 exact h.imp fun hab e=>hab (by
  unfold yq at e
  exact Cw (Dt e).1)
namespace Sy
def sub:Sy->List Sy
 | .ltr x=>[.ltr x]
 | .n0 n=>[.n0 n]
 | .n1 n a=>.n1 n a :: a.sub
 | .n2 n a b=>.n2 n a b :: (a.sub++b.sub)
end Sy
theorem Sy.sub_ps (s:Sy):s.sub=s :: s.ps.flatMap Sy.sub:=by
 cases s <;> simp[Sy.sub,Sy.ps]
theorem Sy.sub_len (s:Sy):s.sub.length=s.sz:=by
 induction s with
 | ltr x=>rfl
 | n0 n=>rfl
 | n1 n a ih=>show a.sub.length+1=a.sz+1;rw[ih]
 | n2 n a b iha ihb=>show (a.sub++b.sub).length+1=a.sz+b.sz+1;rw[AH,iha,ihb]
theorem Sy.dp_sz (s:Sy):s.dp<=s.sz:=by
 induction s with
 | ltr x=>exact A9 _
 | n0 n=>exact AK _
 | n1 n a ih=>exact DC ih
 | n2 n a b iha ihb=>show max a.dp b.dp+1<=a.sz+b.sz+1;omega
theorem Sy.ps_le (s:Sy):s.ps.length<=2:=by cases s <;> simp[Sy.ps]
theorem Sy.ps_mk {nm:Str} {ss:List Sy} (h:ss.length<=2):(Sy.mk nm ss).ps=ss:=by
 match ss,h with
 | [],_=>rfl
 | [a],_=>rfl
 | [a,b],_=>rfl
def GSt (T:Tb) (L:List Str):Sy->Prop
 | .ltr x=>x ∈ L
 | .n0 nm=>∃ c ∈ T.cs,c.nm=nm/\c.pl=0
 | .n1 nm a=>(∃ c ∈ T.cs,c.nm=nm/\c.pl=1)/\GSt T L a
 | .n2 nm a b=>(∃ c ∈ T.cs,c.nm=nm/\c.pl=2)/\GSt T L a/\GSt T L b
theorem GSt.node {T:Tb} {L:List Str} {s:Sy} (h:GSt T L s) (hs:s.isL=false):(∃ c ∈ T.cs,c.nm=s.nm/\c.pl=s.ps.length)/\∀ a ∈ s.ps,GSt T L a:=by
 cases s with
 | ltr x=>cases hs
 | n0 nm=>exact⟨h,fun a ha=>by cases ha⟩
 | n1 nm a=>exact⟨h.1,fun b hb=>by rw[AE.mp hb];exact h.2⟩
 | n2 nm a b=>
  refine⟨h.1,fun c hc=>?_⟩
  rcases AV.mp hc with rfl | hc
  ·exact h.2.1
  ·rw[AE.mp hc]
   exact h.2.2
theorem GSt.letter {T:Tb} {L:List Str} {s:Sy} (h:GSt T L s) (hs:s.isL=true):s.nm ∈ L:=by
 cases s with
 | ltr x=>exact h
 | _=>cases hs
theorem GSt.of {T:Tb} {L:List Str} {c:Cn} {ss:List Sy} (hc:c ∈ T.cs) (hl:c.pl=ss.length) (h:∀ a ∈ ss,GSt T L a) (h2:ss.length<=2):GSt T L (Sy.mk c.nm ss):=by
 match ss,hl,h,h2 with
 | [],hl,_,_=>exact⟨c,hc,rfl,hl⟩
 | [a],hl,h,_=>exact⟨⟨c,hc,rfl,hl⟩,h a (by simp)⟩
 | [a,b],hl,h,_=>exact⟨⟨c,hc,rfl,hl⟩,h a (by simp),h b (by simp)⟩
theorem GSt.sub {T:Tb} {L:List Str}:∀ {s a:Sy},GSt T L s->a ∈ s.sub->GSt T L a
 | .ltr x,a,h,ha=>by rw[AE.mp ha];exact h
 | .n0 n,a,h,ha=>by rw[AE.mp ha];exact h
 | .n1 n b,a,h,ha=>by
  rcases AV.mp ha with rfl | ha
  ·exact h
  ·exact GSt.sub h.2 ha
 | .n2 n b c,a,h,ha=>by
  rcases AV.mp ha with rfl | ha
  ·exact h
  ·rcases AQ.mp ha with ha | ha
   ·exact GSt.sub h.2.1 ha
   ·exact GSt.sub h.2.2 ha
theorem GSt.mono {T:Tb} {L M:List Str} (k:∀ x ∈ L,x ∈ M):∀ {s:Sy},GSt T L s->GSt T M s
 | .ltr x,h=>k x h
 | .n0 n,h=>h
 | .n1 n a,h=>⟨h.1,h.2.mono k⟩
 | .n2 n a b,h=>⟨h.1,h.2.1.mono k,h.2.2.mono k⟩
def Sy.lets:Sy->List Str
 | .ltr x=>[x]
 | .n0 _=>[]
 | .n1 _ a=>a.lets
 | .n2 _ a b=>a.lets++b.lets
theorem GSt.lets {T:Tb} {L:List Str}:∀ {s:Sy},GSt T L s->GSt T s.lets s
 | .ltr x,h=>AE.mpr rfl
 | .n0 n,h=>h
 | .n1 n a,h=>⟨h.1,h.2.lets⟩
 | .n2 n a b,h=>⟨h.1,h.2.1.lets.mono fun x hx=>Ah _ hx,h.2.2.lets.mono fun x hx=>Aa _ hx⟩
theorem GSt.lets_in {T:Tb} {L:List Str}:∀ {s:Sy} {x:Str},GSt T L s->x ∈ s.lets->x ∈ L
 | .ltr y,x,h,hx=>by rw[AE.mp hx];exact h
 | .n0 n,x,h,hx=>by cases hx
 | .n1 n a,x,h,hx=>GSt.lets_in (s:=a) h.2 hx
 | .n2 n a b,x,h,hx=>by
  rcases AQ.mp hx with hx | hx
  ·exact GSt.lets_in h.2.1 hx
  ·exact GSt.lets_in h.2.2 hx
def ltrs (ss:List Sy):List Str:=ss.filterMap fun s=>if s.isL=true then some s.nm else none
theorem Ws (a b:List Sy):ltrs (a++b)=ltrs a++ltrs b:=List.filterMap_append
theorem Je:∀ s:Sy,ltrs s.sub=s.lets
 | .ltr x=>rfl
 | .n0 n=>rfl
 | .n1 n a=>Je a
 | .n2 n a b=>by
  show ltrs (a.sub++b.sub)=_
  rw[Ws,Je a,Je b]
  rfl
def grT (T:Tb) (γ:Str->Nat):Sy->Nat
 | .ltr x=>γ x
 | .n0 nm=>cellOf T nm []
 | .n1 nm a=>cellOf T nm [grT T γ a]
 | .n2 nm a b=>cellOf T nm [grT T γ a,grT T γ b]
theorem grT_node {T:Tb} {γ:Str->Nat} {s:Sy} (hs:s.isL=false):grT T γ s=cellOf T s.nm (s.ps.map (grT T γ)):=by
 cases s with
 | ltr x=>cases hs
 | _=>rfl
theorem xD {T:Tb} {γ:Str->Nat} {s:Sy} (hs:s.isL=true):grT T γ s=γ s.nm:=by
 cases s with
 | ltr x=>rfl
 | _=>cases hs
theorem YO {T:Tb} (g:zY T) (nd:(qc T).Nodup) {L:List Str} {γ:Str->Nat} (hγ:∀ x ∈ L,γ x < T.m):∀ {s:Sy},GSt T L s->grT T γ s < T.m
 | .ltr x,h=>hγ x h
 | .n0 nm,⟨c,hc,e,p⟩=>by
  show cellOf T nm [] < T.m
  rw[<- e]
  exact g.cell_lt nd hc ⟨p.symm,fun x hx=>by cases hx⟩
 | .n1 nm a,⟨⟨c,hc,e,p⟩,h⟩=>by
  show cellOf T nm [grT T γ a] < T.m
  rw[<- e]
  exact g.cell_lt nd hc ⟨p.symm,fun x hx=>by rw[AE.mp hx];exact YO g nd hγ h⟩
 | .n2 nm a b,⟨⟨c,hc,e,p⟩,h1,h2⟩=>by
  show cellOf T nm [grT T γ a,grT T γ b] < T.m
  rw[<- e]
  refine g.cell_lt nd hc ⟨p.symm,fun x hx=>?_⟩
  rcases AV.mp hx with rfl | hx
  ·exact YO g nd hγ h1
  ·rw[AE.mp hx]
   exact YO g nd hγ h2
theorem Zz {T:Tb} {γ δ:Str->Nat}:∀ {s:Sy},(∀ x ∈ s.lets,γ x=δ x)->grT T γ s=grT T δ s
 | .ltr x,h=>h x (AE.mpr rfl)
 | .n0 nm,h=>rfl
 | .n1 nm a,h=>by
  show cellOf T nm [grT T γ a]=cellOf T nm [grT T δ a]
  rw[Zz (s:=a) h]
 | .n2 nm a b,h=>by
  show cellOf T nm [grT T γ a,grT T γ b]=cellOf T nm [grT T δ a,grT T δ b]
  rw[Zz (s:=a) fun x hx=>h x (Ah _ hx),Zz (s:=b) fun x hx=>h x (Aa _ hx)]
def WS (T:Tb) (ls:List (Str×Nat)):Sy->Nat->Prop
 | .ltr x,y=>match ls.lookup x with
  | some o=>y=o
  | none=>y < T.m
 | .n0 nm,y=>y=cellOf T nm []
 | .n1 nm a,y=>∃ p,WS T ls a p/\y=cellOf T nm [p]
 | .n2 nm a b,y=>∃ p q,WS T ls a p/\WS T ls b q/\y=cellOf T nm [p,q]
def PosL (T:Tb) (ls:List (Str×Nat)):List Sy->List Nat->Prop:=Paired (WS T ls)
theorem zak {T:Tb} {ls:List (Str×Nat)} {ss:List Sy} {r:List Nat} {s:Sy} {y:Nat} (h:PosL T ls ss r) (k:WS T ls s y):PosL T ls (ss++[s]) (r++[y]):=by
 unfold PosL at h ⊢
 induction h with
 | nil=>exact .cons k .nil
 | cons z _ ih=>exact .cons z ih
theorem Q0 {T:Tb} {ls:List (Str×Nat)} {s:Sy}:∀ {ss:List Sy} {r:List Nat},PosL T ls (ss++[s]) r->∃ r' y,r=r'++[y]/\PosL T ls ss r'/\WS T ls s y
 | [],_,.cons k .nil=>⟨[],_,rfl,.nil,k⟩
 | a :: ss,_,.cons k t=>by
  obtain⟨r',y,rfl,h1,h2⟩:=Q0 (ss:=ss) t
  exact⟨_ :: r',y,rfl,.cons k h1,h2⟩
theorem pos_node {T:Tb} {ls:List (Str×Nat)} {s:Sy} (hs:s.isL=false) (y:Nat):WS T ls s y ↔ ∃ r,PosL T ls s.ps r/\y=cellOf T s.nm r:=by
 cases s with
 | ltr x=>cases hs
 | n0 nm=>
  constructor
  ·intro h
   exact⟨[],.nil,h⟩
  ·rintro⟨r,h,e⟩
   cases h
   exact e
 | n1 nm a=>
  constructor
  ·rintro⟨p,h,e⟩
   exact⟨[p],.cons h .nil,e⟩
  ·rintro⟨r,h,e⟩
   cases h with
   | cons k t=>
    cases t
    exact⟨_,k,e⟩
 | n2 nm a b=>
  constructor
  ·rintro⟨p,q,h,k,e⟩
   exact⟨[p,q],.cons h (.cons k .nil),e⟩
  ·rintro⟨r,h,e⟩
   cases h with
   | cons k t=>
    cases t with
    | cons k2 t=>
     cases t
     exact⟨_,_,k,k2,e⟩
theorem wU {T:Tb} {ls:List (Str×Nat)} {s:Sy} (hs:s.isL=true) (y:Nat):WS T ls s y ↔ (match ls.lookup s.nm with
  | some o=>y=o
  | none=>y < T.m):=by
 cases s with
 | ltr x=>exact Iff.rfl
 | _=>cases hs
theorem YQ {T:Tb} (g:zY T) (nd:(qc T).Nodup) {L:List Str} {ls:List (Str×Nat)} (hls:∀ p ∈ ls,p.2 < T.m):∀ {s:Sy} {y:Nat},GSt T L s->WS T ls s y->y < T.m
 | .ltr x,y,h,hy=>by
  unfold WS at hy
  cases e:ls.lookup x with
  | none=>
   rw[e] at hy
   exact hy
  | some o=>
   rw[e] at hy
   have hy:y=o:=hy
   rw[hy]
   exact hls (x,o) (ZN e)
 | .n0 nm,y,⟨c,hc,e,p⟩,hy=>by
  have hy:y=cellOf T nm []:=hy
  rw[hy,<- e]
  exact g.cell_lt nd hc ⟨p.symm,fun x hx=>by cases hx⟩
 | .n1 nm a,y,⟨⟨c,hc,e,p⟩,h⟩,⟨u,hu,hy⟩=>by
  rw[hy,<- e]
  exact g.cell_lt nd hc ⟨p.symm,fun x hx=>by rw[AE.mp hx];exact YQ g nd hls h hu⟩
 | .n2 nm a b,y,⟨⟨c,hc,e,p⟩,h1,h2⟩,⟨u,v,hu,hv,hy⟩=>by
  rw[hy,<- e]
  refine g.cell_lt nd hc ⟨p.symm,fun x hx=>?_⟩
  rcases AV.mp hx with rfl | hx
  ·exact YQ g nd hls h1 hu
  ·rw[AE.mp hx]
   exact YQ g nd hls h2 hv
def Keeps (γ:Str->Nat) (ls:List (Str×Nat)):Prop:=∀ p ∈ ls,γ p.1=p.2
theorem yt {T:Tb} {ls:List (Str×Nat)} {γ:Str->Nat} (hγ:∀ x,γ x < T.m) (k:Keeps γ ls):∀ (s:Sy),WS T ls s (grT T γ s)
 | .ltr x=>by
  unfold WS
  cases e:ls.lookup x with
  | none=>exact hγ x
  | some o=>exact k (x,o) (ZN e)
 | .n0 nm=>rfl
 | .n1 nm a=>⟨_,yt hγ k a,rfl⟩
 | .n2 nm a b=>⟨_,_,yt hγ k a,yt hγ k b,rfl⟩
theorem JM {T:Tb} {ls:List (Str×Nat)} {γ:Str->Nat}:∀ {s:Sy} {y:Nat},(∀ x ∈ s.lets,ls.lookup x=some (γ x))->WS T ls s y->y=grT T γ s
 | .ltr x,y,h,hy=>by
  unfold WS at hy
  rw[h x (AE.mpr rfl)] at hy
  exact hy
 | .n0 nm,y,h,hy=>hy
 | .n1 nm a,y,h,⟨p,hp,e⟩=>by
  rw[e,JM (s:=a) h hp]
  rfl
 | .n2 nm a b,y,h,⟨p,q,hp,hq,e⟩=>by
  rw[e,JM (fun x hx=>h x (Ah _ hx)) hp,JM (fun x hx=>h x (Aa _ hx)) hq]
  rfl
def Clo (T:Tb) (ls:List (Str×Nat)) (ps:List Sy) (S:Sy):Prop:=(∃ p ∈ ps,∀ y,WS T ls p y->y ∉ T.ws)\/∀ y,WS T ls S y->y ∈ T.ws
def Bar (T:Tb) (γ:Str->Nat) (ps:List Sy) (S:Sy):Prop:=(∀ p ∈ ps,grT T γ p ∈ T.ws)/\grT T γ S ∉ T.ws
def Gd (T:Tb) (γ:Str->Nat):Prop:=∀ x,γ x < T.m
def FolL (T:Tb) (ls:List (Str×Nat)) (ps:List Sy) (S:Sy):Prop:=∀ γ,Gd T γ->Keeps γ ls->¬ Bar T γ ps S
def Fol (T:Tb) (ps:List Sy) (S:Sy):Prop:=∀ γ,Gd T γ->¬ Bar T γ ps S
theorem fol_nil {T:Tb} {ps:List Sy} {S:Sy}:FolL T [] ps S ↔ Fol T ps S:=⟨fun h γ g=>h γ g (fun p hp=>by cases hp),fun h γ g _=>h γ g⟩
theorem clo_fol {T:Tb} {ls:List (Str×Nat)} {ps:List Sy} {S:Sy} (h:Clo T ls ps S):FolL T ls ps S:=fun γ g k b=>by
 rcases h with ⟨p,hp,hn⟩ | h
 ·exact hn _ (yt g k p) (b.1 p hp)
 ·exact b.2 (h _ (yt g k S))
theorem bar_of {T:Tb} {ls:List (Str×Nat)} {ps:List Sy} {S:Sy} {γ:Str->Nat} (h:¬ Clo T ls ps S) (hp:∀ p ∈ ps,∀ x ∈ p.lets,ls.lookup x=some (γ x)) (hS:∀ x ∈ S.lets,ls.lookup x=some (γ x)):Bar T γ ps S:=by
 refine⟨fun p hpp=>DR fun hn=>h (.inl ⟨p,hpp,fun y hy=>?_⟩),fun hn=>h (.inr fun y hy=>?_)⟩
 ·rw[JM (hp p hpp) hy]
  exact hn
 ·rw[JM hS hy]
  exact hn
theorem zal {T:Tb} {ls:List (Str×Nat)} {ps:List Sy} {S:Sy} (x:Str) (h:∀ o,o < T.m->FolL T (ls++[(x,o)]) ps S):FolL T ls ps S:=fun γ g k=>h (γ x) (g x) γ g fun p hp=>by
 rcases AQ.mp hp with hp | hp
 ·exact k p hp
 ·rw[AE.mp hp]
theorem xE {γ:Str->Nat} {ls ms:List (Str×Nat)} (h:Keeps γ (ls++ms)):Keeps γ ls:=fun p hp=>h p (Ah _ hp)
def ZA (H:Hp) (g:Addr) (ls:List (Str×Nat)):Prop:=∃ kvs:List (Key×V),H g=some (.dK kvs)/\Paired (fun (p:Str×Nat) (kv:Key×V)=>kv.1=Sum.inr p.1/\∃ u,kv.2=.ref u/\H u=some (.tup [nV p.2])) ls kvs
theorem ZA.tk' {H H':Hp} {g:Addr} {ls:List (Str×Nat)} (h:ZA H g ls) (k:Tk H H') (e:∀ kvs,H g=some (.dK kvs)->H' g=some (.dK kvs)):ZA H' g ls:=by
 obtain⟨kvs,h1,h2⟩:=h
 refine⟨kvs,e kvs h1,Paired.imp' (fun _ _ z=>?_) h2⟩
 obtain⟨e1,u,e2,e3⟩:=z
 exact⟨e1,u,e2,k _ _ e3⟩
theorem ZA.same {H H':Hp} {g:Addr} {ls:List (Str×Nat)} (h:ZA H g ls) (s:zD H H'):ZA H' g ls:=h.tk' (Tk.of s) fun kvs e=>s _ _ e
theorem YR {H:Hp} {ls:List (Str×Nat)} {kvs:List (Key×V)} (h:Paired (fun (p:Str×Nat) (kv:Key×V)=>kv.1=Sum.inr p.1/\∃ u,kv.2=.ref u/\H u=some (.tup [nV p.2])) ls kvs) (x:Str) :
  match ls.lookup x with
  | some o=>∃ u,jo kvs (Sum.inr x)=some (.ref u)/\H u=some (.tup [nV o])
  | none=>jo kvs (Sum.inr x)=none:=by
 induction h with
 | nil=>exact rfl
 | @cons p kv ls kvs r _ ih=>
  obtain⟨e1,u,e2,e3⟩:=r
  obtain⟨y,o⟩:=p
  rw[BY]
  by_cases e:x=y
  ·subst e
   rw[CM]
   refine⟨u,?_,e3⟩
   rw[qF e1,e2]
  ·rw[beq_eq_false_iff_ne.mpr e,qG (by rw[e1];intro z;exact e (Cw z).symm)]
   exact ih
theorem sets_put {ls:List (Str×Nat)} {kvs:List (Key×V)} {H:Hp} {x:Str} {v:V} (h:Paired (fun (p:Str×Nat) (kv:Key×V)=>kv.1=Sum.inr p.1/\∃ u,kv.2=.ref u/\H u=some (.tup [nV p.2])) ls kvs) (hx:x ∉ ls.map Prod.fst):jX kvs (Sum.inr x) v=kvs++[(Sum.inr x,v)]:=by
 unfold jX
 rw[if_neg]
 intro z
 obtain⟨kv,hkv,e⟩:=Cj.mp z
 refine hx ?_
 clear z
 induction h with
 | nil=>cases hkv
 | @cons p kv' ls kvs r _ ih=>
  rcases AV.mp hkv with rfl | hkv
  ·rw[Ag]
   have e2:=Ak e
   rw[r.1] at e2
   exact AV.mpr (.inl (Cw e2).symm)
  ·exact AY _ (ih (fun z=>hx (AY _ z)) hkv)
theorem xF {L:List Str} {ls:List (Str×Nat)} (nd:L.Nodup) (e:ls.map Prod.fst=L) {x:Str} (hx:x ∈ L):∃ o,ls.lookup x=some o:=by
 rw[<- e] at hx
 obtain⟨p,hp,rfl⟩:=AM.mp hx
 clear e nd
 induction ls with
 | nil=>cases hp
 | cons q ls ih=>
  obtain⟨y,o⟩:=q
  rw[BY]
  by_cases e:p.1=y
  ·rw[e,CM]
   exact⟨o,rfl⟩
  ·rw[beq_eq_false_iff_ne.mpr e]
   rcases AV.mp hp with rfl | hp
   ·exact absurd rfl e
   ·exact ih hp (AM.mpr ⟨p,hp,rfl⟩)
end L4
namespace L2
open PySem PySem.Spec PyProof.Rows
section
variable {prog : Program} {w : World} {A : Around} {E : Value -> Shared -> Prop} {s : Shared}
end
section
variable {X : Cx}
end
end L2
namespace L4
open PySem L2
theorem GSt.into {T U:Tb} {L:List Str} (h:∀ c ∈ T.cs,∃ d ∈ U.cs,d.nm=c.nm/\d.pl=c.pl):∀ {s:Sy},GSt T L s->GSt U L s
 | .ltr x,k=>k
 | .n0 n,⟨c,hc,e,p⟩=>by
  obtain⟨d,hd,e1,e2⟩:=h c hc
  exact⟨d,hd,e1.trans e,e2.trans p⟩
 | .n1 n a,⟨⟨c,hc,e,p⟩,k⟩=>by
  obtain⟨d,hd,e1,e2⟩:=h c hc
  exact⟨⟨d,hd,e1.trans e,e2.trans p⟩,k.into h⟩
 | .n2 n a b,⟨⟨c,hc,e,p⟩,k1,k2⟩=>by
  obtain⟨d,hd,e1,e2⟩:=h c hc
  exact⟨⟨d,hd,e1.trans e,e2.trans p⟩,k1.into h,k2.into h⟩
structure HomN (N T U:Tb) (h:Nat->Nat):Prop where
 cell:∀ c ∈ N.cs,∀ r,Tn.Rw T.m c.pl r->L4.cellOf U c.nm (r.map h)=h (L4.cellOf T c.nm r)/\L4.cellOf T c.nm r < T.m
 lt:∀ x,x < T.m->h x < U.m
 ws:∀ x,x < T.m->(x ∈ T.ws ↔ h x ∈ U.ws)
theorem HomN.gr {N T U:Tb} {h:Nat->Nat} (hh:HomN N T U h) {γ:Str->Nat} (g:Gd T γ) {L:List Str}:∀ {s:Sy},GSt N L s->grT U (fun x=>h (γ x)) s=h (grT T γ s)/\grT T γ s < T.m
 | .ltr x,_=>⟨rfl,g x⟩
 | .n0 nm,⟨c,hc,e,p⟩=>by
  have:=hh.cell c hc [] ⟨p.symm,fun x hx=>by cases hx⟩
  rw[e] at this
  exact this
 | .n1 nm a,⟨⟨c,hc,e,p⟩,k⟩=>by
  obtain⟨i1,i2⟩:=hh.gr g k
  have:=hh.cell c hc [grT T γ a] ⟨p.symm,fun x hx=>by rw[AE.mp hx];exact i2⟩
  rw[e] at this
  refine⟨?_,this.2⟩
  show L4.cellOf U nm [grT U _ a]=_
  rw[i1]
  exact this.1
 | .n2 nm a b,⟨⟨c,hc,e,p⟩,k1,k2⟩=>by
  obtain⟨i1,i2⟩:=hh.gr g k1
  obtain⟨j1,j2⟩:=hh.gr g k2
  have:=hh.cell c hc [grT T γ a,grT T γ b] ⟨p.symm,fun x hx=>by
   rcases AV.mp hx with rfl | hx
   ·exact i2
   ·rw[AE.mp hx]
    exact j2⟩
  rw[e] at this
  refine⟨?_,this.2⟩
  show L4.cellOf U nm [grT U _ a,grT U _ b]=_
  rw[i1,j1]
  exact this.1
theorem HomN.fol {N T U:Tb} {h:Nat->Nat} (hh:HomN N T U h) {L:List Str} {ps:List Sy} {S:Sy} (hp:∀ p ∈ ps,GSt N L p) (hS:GSt N L S) (f:Fol U ps S):Fol T ps S:=fun γ g b=>by
 refine f (fun x=>h (γ x)) (fun x=>hh.lt _ (g x)) ⟨fun p hpp=>?_,fun hn=>?_⟩
 ·obtain⟨e1,e2⟩:=hh.gr g (hp p hpp)
  rw[e1]
  exact (hh.ws _ e2).mp (b.1 p hpp)
 ·obtain⟨e1,e2⟩:=hh.gr g hS
  rw[e1] at hn
  exact b.2 ((hh.ws _ e2).mpr hn)
end L4
namespace L2
open PySem PySem.Spec PyProof.Rows
section
variable {prog : Program} {w : World} {A : Around} {E : Value -> Shared -> Prop} {s : Shared}
variable {z TI TO i1 i2 t1 t2 : Addr} {xs ys : Array Value} {k : Nat} {a0 : Addr} {b : Bool}
variable {R : Result -> Shared -> Prop}
end
section
variable {X : Cx}
end
section
variable {X : Cx}
end
end L2
namespace L4
open PySem L2
end L4
namespace L2
open PySem PySem.Spec PyProof.Rows
section
variable {prog : Program} {w : World} {A : Around} {E : Value -> Shared -> Prop} {s : Shared}
variable {z TI TO i1 i2 t1 t2 : Addr} {xs ys : Array Value} {k1 k2 : Nat}
end
section
variable {X : Cx}
end
section
variable {prog : Program} {w : World} {A : Around} {R : Result -> Shared -> Prop}
end
section
variable {X : Cx}
end
section
variable {X : Cx}
end
section
variable {prog : Program} {w : World} {A : Around} {E : Value -> Shared -> Prop} {s : Shared}
end
section
variable {X : Cx}
end
section
variable {X : Cx}
end
section
variable {X : Cx}
end
section
variable {prog : Program} {w : World} {A : Around} {E : Value -> Shared -> Prop} {s : Shared}
end
section
variable {X : Cx}
end
section
variable {X : Cx} {pins : List (Addr × Obj)} {σ : List (Option V)} {H : Hp} {s : Shared}
end
section
variable {X : Cx}
end
open PySem PySem.Spec PyProof.Rows PySem.W
section
variable {α β : Type} {a : Nat -> Nat -> Bool} {n : Nat}
end
section
variable {a : Nat -> Nat -> Bool} {n : Nat}
end
section
variable {prog : Program} {w : World} {A : Around} {E : Value -> Shared -> Prop} {s : Shared}
end
open PySem PySem.Spec PyProof.Rows PySem.W L4
section
variable {prog : Program} {w : World} {A : Around} {E : Value -> Shared -> Prop} {s : Shared}
end
section
variable {X : Cx}
end
section
variable {prog : Program} {w : World} {A : Around} {E : Value -> Shared -> Prop} {s : Shared} {d it : Addr} {es : Array DictEntry} {ep i : Nat}
end
section
variable {X : Cx}
end
open PySem PySem.Spec PyProof.Rows L4
section
variable {X : Cx}
end
open Builtin
theorem Wt (l:Addr) (items:Array Value) (n:Nat) (dd:Option Addr) (sl:Array (Option Value)) (u:Tok) :
  Meets (Builtin.«tuple.__mul__» ⟨[.ref l,.int 1 u],[]⟩) (fun _ R s=>s.heap.get? l=some { cls:=.type "tuple",dict:=dd,data:=.seq items n,slots:=sl }/\R (.ok (.ret (Value.ref l))) s):=
 .of_wp fun prog w A R s h=>by
  obtain⟨hp,g,d,tk,os⟩:=s;obtain⟨hl,h⟩:=h
  wp_walk
  exact⟨_,rfl,h⟩
theorem wm (l:Addr) (items:Array Value) (n:Nat) (dd:Option Addr) (sl:Array (Option Value)) (u:Tok) (hi:items.isEmpty=false) :
  Meets (Builtin.«tuple.__mul__» ⟨[.ref l,.int 0 u],[]⟩) (fun _ R s=>s.heap.get? l=some { cls:=.type "tuple",dict:=dd,data:=.seq items n,slots:=sl }/\R (.ok (.ret (Value.ref s.heap.objs.size))) { s with heap:=s.heap.push { cls:=Value.type "tuple",data:=Data.seq #[] } }):=
 .of_wp fun prog w A R s h=>by
  obtain⟨hp,g,d,tk,os⟩:=s;obtain⟨hl,h⟩:=h
  wp_walk
  exact⟨_,rfl,h⟩
section
variable {X : Cx}
def rRep01 (K:PySem.W.Frag):R2:=fun x y H Q=>∃ a xs,x=.ref a/\SqT K H a xs/\((y=.int 1/\Q (.ref a) H)\/(y=.int 0/\xs ≠ []/\∀ p,H p=none->Q (.ref p) (upd H p (.tup []))))
theorem op_rep01 (K:PySem.W.Frag) (hK:X.K=K:=by rfl):OpR X (binaryOp .Mult) (rRep01 K):=by
 subst hK
 intro pins s σ H x y v u Q I rx ry h
 obtain⟨a,xs,rfl,ha,h⟩:=h
 cases rx
 obtain⟨its,r1,p1,_⟩:=I.tuple ha
 obtain⟨⟨cls,dd,data,sl⟩,ho,hc,n,hd⟩:=id p1
 simp only at hc hd
 subst hc hd
 rcases h with ⟨rfl,q⟩ | ⟨rfl,hne,q⟩
 ·obtain⟨t,rfl⟩:=ry
  refine wpAny_binaryOp_repeat_ref (T := "tuple") (U := "int") (by decide) ⟨_,ho,rfl⟩ (fun s'=>EU s' 1 t) Zn F.fills_int_mul Du QX F.slot_int_index.lookup
   (Cr Du (EU s 1 t) F.entry_int_rmul (F.args_int_rmul_2 _ _) (ZX 1 t a its.toArray n dd sl)
    ⟨ho,rfl,⟨_,ho,rfl⟩,Cr Dq ⟨_,ho,rfl⟩ F.entry_tuple_mul (F.args_tuple_mul_2 _ _) (Wt a its.toArray n dd sl t) ⟨ho,?_⟩⟩)
  exact⟨.ref a,H,I,rfl,q⟩
 ·obtain⟨t,rfl⟩:=ry
  have hin:its ≠ []:=fun z=>hne ((qA.nil_iff r1).mp z)
  refine wpAny_binaryOp_repeat_ref (T := "tuple") (U := "int") (by decide) ⟨_,ho,rfl⟩ (fun s'=>EU s' 0 t) Zn F.fills_int_mul Du QX F.slot_int_index.lookup
   (Cr Du (EU s 0 t) F.entry_int_rmul (F.args_int_rmul_2 _ _) (ZX 0 t a its.toArray n dd sl)
    ⟨ho,rfl,⟨_,ho,rfl⟩,Cr Dq ⟨_,ho,rfl⟩ F.entry_tuple_mul (F.args_tuple_mul_2 _ _) (wm a its.toArray n dd sl t (by simpa using hin)) ⟨ho,?_⟩⟩)
  exact⟨.ref s.heap.objs.size,_,I.laid (t':=s.toks) (o:=.tup []) (fun b o e=>AF _ e) (AK _) ⟨A9 _,[],.nil,Ys.new _ _⟩,rfl,q _ (I.hok.fresh (AK _))⟩
end
section
variable {prog : Program} {w : World} {A : Around} {E : Value -> Shared -> Prop} {s : Shared}
theorem cat_tup0 {t b:Addr} {vs ws:List Value} {Q:Value->Shared->Prop} (ht:IsTup s.heap t vs.toArray) (hb:IsTup s.heap b ws.toArray)
  (h0:vs=[]->Q (.ref b) s) (h1:vs ≠ []->ws=[]->Q (.ref t) s) (h2:vs ≠ []->ws ≠ []->Q (.ref s.heap.objs.size) { s with heap:=s.heap.push { cls:=.type "tuple",data:=.seq (vs++ws).toArray } })
  (hsz:vs.length+ws.length<=sizeLine):wpAny (model prog w) A (binaryOp .Add (.ref t) (.ref b)) Q E s:=by
 by_cases hv:vs=[]
 ·obtain⟨⟨cls,dd,data,sl⟩,ho,hc,n,hd⟩:=id ht
  obtain⟨⟨cls2,dd2,data2,sl2⟩,ho2,hc2,n2,hd2⟩:=id hb
  simp only at hc hd hc2 hd2
  subst hc hd hc2 hd2
  exact Eb ⟨_,ho,rfl⟩ ⟨_,ho2,rfl⟩ Dn EM C1 Cy (Ct _ _)
   (tuple_addW0 t b vs.toArray ws.toArray n n2 dd dd2 sl sl2 (by simp[hv])) ⟨ho,ho2,h0 hv⟩
 ·exact HT.cat_tup ht hb hv (h1 hv) (h2 hv) hsz
def SumOk (N:Nat) (os:List (Addr×List Value)) (h:Heap) (t:Addr) (acc:List Value):Prop:=(∃ z ∈ os,z.1=t/\z.2=acc)\/(N<=t/\Ys h t acc.toArray)
theorem zam {R:Result->Shared->Prop} {J l S N:Nat} {rs os:List (Addr×List Value)} (hh:A.in1.handled=none) (hJ:l ≠ J) (SJ:S ≠ J) (Sl:S ≠ l) (hz:(rs.flatMap Prod.snd).length<=sizeLine)
  (hN:N<=S) (JN:N<=J) (hos:∀ z ∈ os,z.1 < N) (sub:∀ z ∈ rs,z ∈ os) :
  ∀ (k i:Nat) (s:Shared) (t:Addr) (c:Nat),rs.length - i=k->i<=rs.length->s.heap.IsListIter J l i->s.heap.IsList l (rs.map fun z=>Value.ref z.1).toArray->(∀ z ∈ os,IsTup s.heap z.1 z.2.toArray) ->
   s.heap.get? S=some { cls:=.type "list",dict:=none,data:=.seq #[.ref t] c,slots:=#[] }->SumOk N os s.heap t ((rs.take i).flatMap Prod.snd)->N<=s.heap.objs.size ->
   t ≠ S->t ≠ J->(∀ h' tk t',(∀ b o,b ≠ J->b ≠ S->s.heap.get? b=some o->h'.get? b=some o)->SumOk N os h' t' (rs.flatMap Prod.snd)->R (.ok (.ret (.ref t'))) { s with heap:=h',toks:=tk }) ->
   codeAny (model prog w) A (.builtin "sum.loop" ⟨[.ref J,.ref S,rawInt 2,rawInt 0],[]⟩) R s:=by
 intro k
 induction k with
 | zero=>
  intro i s t c hk hi h1 h2 h3 hS hg hNs tS tJ hR
  have e:i=rs.length:=by omega
  subst e
  refine BA PySem.F.entry_sum_loop ?_
  rw[Ax C2 _]
  show wpAny _ A.in1 (seqItems? (.ref S) >>= _) _ _ s
  refine AA (CS hS rfl ?_)
  show wpAny _ A.in1 (tryCatch (pyNext (.ref J)) _ >>= _) _ _ s
  refine AA (DV (Bs hh h1 h2 (by simp) fun h' eb=>?_))
  rw[Ae] at hg
  refine AD (hR h' s.toks t (fun b o nJ _ e=>eb b o nJ e) ?_)
  rcases hg with hg | ⟨g1,o,g2,g3⟩
  ·exact .inl hg
  ·exact .inr ⟨g1,o,eb t o tJ g2,g3⟩
 | succ k ih=>
  intro i s t c hk hi h1 h2 h3 hS hg hNs tS tJ hR
  have hlt:i < rs.length:=by omega
  have hzi:rs[i]? = some rs[i]:=AG hlt
  generalize rs[i]=z at hzi
  have hzm:=AI hzi
  refine BA PySem.F.entry_sum_loop ?_
  rw[Ax C2 _]
  show wpAny _ A.in1 (seqItems? (.ref S) >>= _) _ _ s
  refine AA (CS hS rfl ?_)
  show wpAny _ A.in1 (tryCatch (pyNext (.ref J)) _ >>= _) _ _ s
  refine AA (DV (Bn (x:=.ref z.1) h1 h2 (by simp[hzi]) fun h' h1' sb=>?_))
  show wpAny _ A.in1 ((holding [Value.ref z.1] (binaryOp .Add (.ref t) (.ref z.1))).attempt >>= _) _ _ _
  have ft:(rs.take (i+1)).flatMap Prod.snd=(rs.take i).flatMap Prod.snd++z.2:=by
   rw[DS,hzi,BG]
   simp
  have lz:((rs.take i).flatMap Prod.snd).length+z.2.length<=sizeLine:=by
   have e1:rs.flatMap Prod.snd=(rs.take (i+1)).flatMap Prod.snd++(rs.drop (i+1)).flatMap Prod.snd:=by
    rw[<- BG,B1]
   rw[e1,ft,AH,AH] at hz
   omega
  have k1:∀ b o,b ≠ J->s.heap.get? b=some o->h'.get? b=some o:=fun b o nb e=>(sb.2 b nb).trans e
  have hS1:=k1 S _ SJ hS
  have osJ:∀ y ∈ os,y.1 ≠ J/\y.1 ≠ S:=fun y hy=>by
   have:=hos y hy
   exact⟨fun e=>A6 _ (Am (e ▸ this) JN),fun e=>A6 _ (Am (e ▸ this) hN)⟩
  have zt:IsTup h' z.1 z.2.toArray:=by
   obtain⟨o,e,r⟩:=h3 z (sub z hzm)
   exact⟨o,k1 _ _ (osJ z (sub z hzm)).1 e,r⟩
  have tt:IsTup h' t ((rs.take i).flatMap Prod.snd).toArray:=by
   rcases hg with ⟨y,hy,e1,e2⟩ | ⟨_,o,e,r,n,_⟩
   ·obtain⟨o,e,r⟩:=h3 y hy
    rw[<- e1,<- e2]
    exact⟨o,k1 _ _ (osJ y hy).1 e,r⟩
   ·exact⟨o,k1 _ _ tJ e,r,n⟩
  have hl1:h'.IsList l (rs.map fun z=>Value.ref z.1).toArray:=by
   obtain⟨o,e,r⟩:=h2
   exact⟨o,k1 _ _ hJ e,r⟩
  have sz1:N<=h'.objs.size:=Ab hN (Br (AN hS1))
  have fin:∀ (h2':Heap) (r:Addr),(∀ b o,h'.get? b=some o->h2'.get? b=some o)->SumOk N os h2' r ((rs.take (i+1)).flatMap Prod.snd)->r ≠ S->r ≠ J ->
    wpAny (model prog w) A.in1 (do
     updateSeq S fun x=>#[Value.ref r]
     letGo [Value.ref t,Value.ref z.1]
     updateSeq S fun x=>#[Value.ref r]
     again (Code.builtin "sum.loop" { pos:=[Value.ref J,Value.ref S,rawInt 2,rawInt 0] }))
     (fun fin s'=>match fin with
      | Fin.done f=>R (Except.ok f) s'
      | Fin.again c'=>c'.quiet=true/\codeAny (model prog w) A c' R s') (fun e s'=>R (Except.error e) s') { s with heap:=h2' }:=by
   intro h2' r ext ok rS rJ
   have hS2:=ext _ _ hS1
   refine AA (CY hS2 rfl (AA (wpAny_letGo (AA (CY (Aj _ hS2 rfl) rfl (AD ⟨BK C2 _,?_⟩))))))
   have k2:∀ b o,b ≠ S->h2'.get? b=some o->((h2'.update S (Obj.mapSeq fun x=>#[Value.ref r])).update S (Obj.mapSeq fun x=>#[Value.ref r])).get? b=some o:=fun b o nb e=>(BI _ _ (BD nb)).trans ((BI _ _ (BD nb)).trans e)
   refine ih (i+1) _ r _ (by omega) hlt ?_ ?_ ?_ (Aj _ (Aj _ hS2 rfl) rfl) ?_ ?_ rS rJ ?_
   ·obtain⟨o,e,q⟩:=h1'
    exact⟨o,k2 _ _ (BD SJ) (ext _ _ e),q⟩
   ·obtain⟨o,e,q⟩:=hl1
    exact⟨o,k2 _ _ (BD Sl) (ext _ _ e),q⟩
   ·intro y hy
    obtain⟨o,e,q⟩:=h3 y hy
    exact⟨o,k2 _ _ (osJ y hy).2 (ext _ _ (k1 _ _ (osJ y hy).1 e)),q⟩
   ·rcases ok with ok | ⟨g1,o,g2,g3⟩
    ·exact .inl ok
    ·exact .inr ⟨g1,o,k2 _ _ rS g2,g3⟩
   ·have:=AN (Aj (fun o=>Obj.mapSeq (fun x=>#[Value.ref r]) o) (Aj (fun o=>Obj.mapSeq (fun x=>#[Value.ref r]) o) hS2 rfl) rfl)
    exact Ab hN (Br this)
   ·exact fun h'' tk t' kk ok'=>hR h'' tk t' (fun b o nJ nS e=>kk b o nJ nS (k2 _ _ nS (ext _ _ (k1 _ _ nJ e)))) ok'
  have zm:=osJ z (sub z hzm)
  refine AA (Bk (BJ (cat_tup0 tt zt (fun e=>fin h' z.1 (fun _ _ e=>e) (.inl ⟨z,sub z hzm,rfl,by rw[ft,e];rfl⟩) zm.2 zm.1) (fun _ e=>fin h' t (fun _ _ e=>e) ?_ tS tJ) (fun _ _=>fin _ _ (fun b o e=>AF _ e) (.inr ⟨sz1,by rw[ft];exact Ys.new _ _⟩) ?_ ?_) lz)))
  ·rw[ft,e,BW]
   rcases hg with hg | ⟨g1,o,g2,g3⟩
   ·exact .inl hg
   ·exact .inr ⟨g1,o,k1 _ _ tJ g2,g3⟩
  ·exact BF (AN hS1)
  ·obtain⟨o,e,_⟩:=h1'
   exact BF (AN e)
theorem zan (a b:Value):argsOk "sum" ⟨[a,b],[]⟩:=by unfold argsOk;kernel_rfl
theorem Wu:isSubtype (.type "tuple") (.type "str")=pure false:=by rw[BZ];kernel_rfl
theorem JO:isSubtype (.type "tuple") (.type "bytes")=pure false:=by rw[BZ];kernel_rfl
theorem Qd:isSubtype (.type "tuple") (.type "bytearray")=pure false:=by rw[BZ];kernel_rfl
theorem zao {l u:Addr} {rs:List (Addr×List Value)} {Q:Value->Shared->Prop} (hh:A.in1.handled=none) (hl:s.heap.IsList l (rs.map fun z=>Value.ref z.1).toArray) (hos:∀ z ∈ (u,[]) :: rs,IsTup s.heap z.1 z.2.toArray) (hz:(rs.flatMap Prod.snd).length<=sizeLine)
  (q:∀ h' tk t',(∀ b o,s.heap.get? b=some o->h'.get? b=some o)->SumOk s.heap.objs.size ((u,[]) :: rs) h' t' (rs.flatMap Prod.snd)->Q (.ref t') { s with heap:=h',toks:=tk }) :
  wpAny (model prog w) A (call (.builtin "sum") [.ref l,.ref u]) Q E s:=by
 have hlt:l < s.heap.objs.size:=by obtain⟨_,e,_⟩:=hl;exact AN e
 have olt:∀ z ∈ (u,([]:List Value)) :: rs,z.1 < s.heap.objs.size:=fun z hz=>by obtain⟨_,e,_⟩:=hos z hz;exact AN e
 have hu:=hos _ AW
 have ult:u < s.heap.objs.size:=olt _ AW
 refine call_function_tree PySem.F.kind_sum PySem.F.plain_sum PySem.F.entry_sum (zan _ _) ?_
 unfold Builtin.«sum»
 simp only[List.length_cons,List.length_nil]
 rw[if_neg (by decide)]
 refine AA (BO (show Builtin.Builtins.bindParams "sum" ["start"] 0 { pos:=[.ref u] } = pure [some (.ref u)] from rfl) ?_)
 refine AA (Bo hl ?_)
 refine AA (AD ?_)
 simp only[List.forIn_cons,List.forIn_nil]
 obtain⟨ou,eu,cu,nu⟩:=id hu
 have ty:Shared.TypeIs { s with heap:=s.heap.push { cls:=.type "list_iterator",data:=.fields #[.ref l,.int 0 0] } } (.ref u) "tuple":=⟨ou,AF _ eu,cu⟩
 refine AA (AA (AA (Bb (T := "tuple") (b:=false) ty Wu ?_)))
 simp only[Bool.false_eq_true,if_false]
 refine AD (AA (AA (Bb (T := "tuple") (b:=false) ty JO ?_)))
 simp only[Bool.false_eq_true,if_false]
 refine AD (AA (AA (Bb (T := "tuple") (b:=false) ty Qd ?_)))
 simp only[Bool.false_eq_true,if_false]
 refine AD (AD ?_)
 refine AA (Ap ?_)
 have k0:∀ b o,s.heap.get? b=some o->((s.heap.push { cls:=.type "list_iterator",data:=.fields #[.ref l,.int 0 0] }).push { cls:=.type "list",data:=.seq #[.ref u] }).get? b=some o:=fun b o e=>AF _ (AF _ e)
 have sp:(s.heap.push { cls:=.type "list_iterator",data:=.fields #[.ref l,.int 0 0] }).objs.size=s.heap.objs.size+1:=by simp[Heap.push]
 refine AD ⟨BK C2 _,zam (rs:=rs) (os:=(u,[]) :: rs) (N:=s.heap.objs.size) (l:=l) hh (AR hlt) ?_ ?_ hz ?_ (AK _) olt (fun z hz=>AY _ hz) _ 0 _ u 0 rfl (A9 _) ?_ ?_ ?_ (AO _ rfl) (.inl ⟨_,AW,rfl,rfl⟩) ?_ ?_ (AR ult) ?_⟩
 ·rw[sp];exact EG _
 ·rw[sp];exact BF (Au hlt)
 ·rw[sp];exact B8 _
 ·exact⟨_,AF _ (AO _ rfl),rfl,rfl⟩
 ·obtain⟨o,e,r⟩:=hl
  exact⟨o,k0 _ _ e,r⟩
 ·intro z hz
  obtain⟨o,e,r⟩:=hos z hz
  exact⟨o,k0 _ _ e,r⟩
 ·show s.heap.objs.size<=((s.heap.push { cls:=.type "list_iterator",data:=.fields #[.ref l,.int 0 0] }).push { cls:=.type "list",data:=.seq #[.ref u] }).objs.size
  simp only[Heap.push,Array.size_push]
  exact B7 (B8 _)
 ·rw[sp];exact AR (Au ult)
 ·intro h' tk t' kk ok
  refine q h' tk t' (fun b o e=>kk b o ?_ ?_ (k0 _ _ e)) ok
  ·exact AR (AN e)
  ·rw[sp];exact AR (Au (AN e))
end
section
variable {X : Cx}
def rSumT (K:PySem.W.Frag):List V->Hp->VK->Prop:=fun xs H Q=>∃ (p u:Addr) (rs:List (Addr×List V)),xs=[.ref p,.ref u]/\SqL K H p (rs.map fun z=>V.ref z.1)/\H u=some (.tup [])/\(∀ z ∈ rs,H z.1=some (.tup z.2))/\(rs.flatMap Prod.snd).length<=1000/\∀ t H',zD H H'->H' t=some (.tup (rs.flatMap Prod.snd))->Q (.ref t) H'
theorem yu {f:Addr×List V->List Value}:∀ (rs:List (Addr×List V)),(∀ z ∈ rs,qA z.2 (f z))->qA (rs.flatMap Prod.snd) ((rs.map fun z=>(z.1,f z)).flatMap Prod.snd)
 | [],_=>.nil
 | z :: rs,h=>by
  rw[Ag,BR,BR]
  exact (h z AW).append (yu rs fun y hy=>h y (AY _ hy))
theorem xG (K:PySem.W.Frag) (hc:X.calm=true) (hK:X.K=K:=by rfl):jB X (.builtin "sum") (rSumT K):=by
 subst hK
 intro pins s σ H xs us Q I r h
 obtain⟨p,u,rs,rfl,hq,hu,hrs,hz,q⟩:=h
 obtain⟨u1,u2,rfl,r1,r2⟩:=vals2 r
 cases r1
 cases r2
 obtain⟨its,rv,pl,_⟩:=I.list hq
 have ex:∀ z:Addr×List V,∃ vs:List Value,z ∈ rs->qA z.2 vs/\Ys s.heap z.1 vs.toArray:=fun z=>by
  by_cases hm:z ∈ rs
  ·obtain⟨_,vs,q1,p1⟩:=I.hok z.1 _ (hrs z hm)
   exact⟨vs,fun _=>⟨q1,p1⟩⟩
  ·exact⟨[],fun h=>absurd h hm⟩
 obtain⟨f,hf⟩:=DY ex
 obtain⟨_,vu,q0,p0⟩:=I.hok u _ hu
 cases q0
 have hil:its=(rs.map fun z=>(z.1,f z)).map fun z=>Value.ref z.1:=by
  rw[A2]
  have:∀ (rs:List (Addr×List V)) (its:List Value),qA (rs.map fun z=>V.ref z.1) its->its=rs.map ((fun z=>Value.ref z.1) ∘ fun z=>(z.1,f z)):=by
   intro rs
   induction rs with
   | nil=>intro its h;cases h;rfl
   | cons z rs ih=>
    intro its h
    cases h with
    | cons a b=>
     cases a
     rw[ih _ b]
     rfl
  exact this rs its rv
 have vf:=yu (f:=f) rs fun z hz=>(hf z hz).1
 have sz:(rs.flatMap Prod.snd).length<=sizeLine:=L4.zq hz
 refine zao (rs:=rs.map fun z=>(z.1,f z)) (I.ok.hd hc) (by rw[<- hil];exact pl.isList) (fun z hz=>?_) (by rw[<- vf.length];exact sz) fun h' tk t' kk ok=>?_
 ·rcases AV.mp hz with rfl | hz
  ·exact p0.isTup
  ·obtain⟨y,hy,rfl⟩:=AM.mp hz
   exact (hf y hy).2.isTup
 ·rcases ok with ⟨z,hz,rfl,e⟩ | ⟨g1,g2⟩
  ·rcases AV.mp hz with rfl | hz
   ·refine⟨.ref u,H,I.kept kk,rfl,q u H (zD.refl H) ?_⟩
    have e':([]:List Value)=(rs.map fun z=>(z.1,f z)).flatMap Prod.snd:=e
    rw[<- e'] at vf
    have:rs.flatMap Prod.snd=[]:=by
     cases hx:rs.flatMap Prod.snd with
     | nil=>rfl
     | cons a b=>rw[hx] at vf;cases vf
    rw[this]
    exact hu
   ·obtain⟨y,hy,rfl⟩:=AM.mp hz
    refine⟨.ref y.1,H,I.kept kk,rfl,q y.1 H (zD.refl H) ?_⟩
    have e':f y=(rs.map fun z=>(z.1,f z)).flatMap Prod.snd:=e
    have v1:=(hf y hy).1
    rw[e'] at v1
    rw[<- v1.inj vf]
    exact hrs y hy
  ·refine⟨.ref t',_,I.laid (t':=tk) (o:=.tup (rs.flatMap Prod.snd)) kk g1 ⟨sz,_,vf,g2⟩,rfl,q t' _ (L4.zf (I.hok.fresh g1) _) ze⟩
end
end L2
namespace K96
open PySem L2 L4
local macro_rules | `(tactic| walk_at "hp") => `(tactic| first | assumption | exact ze | (rw [zI (by first | assumption | exact Ne.symm (by assumption) | exact zH (by assumption) (by assumption) | exact Ne.symm (zH (by assumption) (by assumption)))]; walk_at "hp"))
local macro_rules | `(tactic| walk_at "r1") => `(tactic| first | refine ⟨_, rfl, ?_⟩ | refine .inl ⟨_, _, _, _, rfl, rfl, SqL.of (by walk_at "hp"), rfl, ?_⟩ | refine .inr (.inl ⟨_, _, _, _, rfl, rfl, SqT.of (by walk_at "hp"), rfl, ?_⟩) | refine ⟨_, _, rfl, rfl, ?_⟩ | refine ⟨(show CMul _ _ from .inr ⟨by omega, by omega⟩), ?_⟩ | refine ⟨(show CMul _ _ from .inl ⟨by omega, by omega⟩), ?_⟩ | refine ⟨(show CDiv _ _ from ⟨by omega, by omega⟩), ?_⟩ | refine ⟨(show CPow _ _ from ⟨by decide, by decide, by decide⟩), ?_⟩ | refine ⟨(show (0 : Int) < _ by omega), ?_⟩ | refine ⟨_, _, _, _, rfl, rfl, (by walk_at "hp"), rfl, ?_⟩)
local macro_rules | `(tactic| walk_at "rd") => `(tactic| repeat walk_at "r1")
local macro_rules | `(tactic| walk_at "dc") => `(tactic| first | refine W5 ?_ | refine WP ?_ | refine iteDT (by decide +kernel) ?_ | refine iteDF (by decide +kernel) ?_ | refine ⟨_, rfl, rfl, _, rfl, ?_⟩)
local macro_rules | `(tactic| walk_at "ds") => `(tactic| repeat walk_at "dc")
local macro_rules | `(tactic| walk_at "v") => `(tactic| first | exact Or.inl rfl | exact Or.inr (Or.inl rfl) | exact Or.inr (Or.inr rfl))
local macro_rules | `(tactic| walk_at "f") => `(tactic| first | exact .inl rfl | exact .inr rfl | assumption)
theorem at0 {x:V} {us:List V}:atI (x :: us) 0=some x:=qw (j:=0) rfl
theorem Qy {xs:List V} (h:1<=xs.length):wc xs (some 1) none=xs.drop 1:=by
 unfold wc
 rw[show HT.sIx xs.length 0 (some 1)=1 by rw[show (1:Int)=((1:Nat):Int) from rfl,HT.sIx_nat];omega,HT.sIx_none]
 exact C3 (by rw[Bz];omega)
theorem yw {K:PySem.W.Frag} {H:Hp} {a:Addr} {xs:List V} {lo hi:Option Int} {Q:VK} (ha:H a=some (.tup xs)) (F:∀ t H',zD H H'->H' t=some (.tup (wc xs lo hi))->Q (.ref t) H'):rSlT K (.ref a) lo hi H Q\/rSlTW K (.ref a) lo hi H Q:=by
 by_cases h:HT.sIx xs.length 0 lo=0/\HT.sIx xs.length xs.length hi=xs.length
 ·refine .inr ⟨a,xs,rfl,SqT.of ha,h,F a H (zD.refl H) ?_⟩
  unfold wc
  rw[h.1,h.2,DP,Nat.sub_zero,Ae]
  exact ha
 ·exact .inl ⟨a,xs,rfl,SqT.of ha,h,fun p hp=>F p _ (zf hp _) ze⟩
theorem JP {K:PySem.W.Frag} {H:Hp} {a b:Addr} {xs ys:List V} {Q:VK} (ha:H a=some (.tup xs)) (hb:H b=some (.tup ys)) (hz:xs.length+ys.length<=1000) (F:∀ t H',zD H H'->H' t=some (.tup (xs++ys))->Q (.ref t) H'):rCatA K (.ref a) (.ref b) H Q:=
 ⟨a,b,xs,ys,rfl,rfl,SqT.of ha,SqT.of hb,zq hz,fun z=>F b H (zD.refl H) (by rw[z];exact hb),fun _ z=>F a H (zD.refl H) (by rw[z,BW];exact ha),fun _ _ p hp=>F p _ (zf hp _) ze⟩
def Ls (L:List Str):Prop:=∀ x ∈ L,Ltr x
def Ye:Sp:=fun vs H Q _=>∃ x:Str,vs=[.str x]/\Small x/\x.length<=8/\∀ H',zD H H'->Q (.bl true) H'
def xH:Sp:=fun vs H Q _=>∃ (v:V) (s:Sy),vs=[v]/\jL H s v/\(s.isL=true->Ltr s.nm)/\∀ H',zD H H'->Q (.bl s.isL) H'
theorem zap {α:Type} {f:α->Nat} (xs:List α) (h:∀ x,1<=f x):xs.length<=(xs.map f).sum:=by
 induction xs with
 | nil=>exact AK _
 | cons x xs ih=>
  rw[Aq,Ag,List.sum_cons]
  have:=h x
  omega
def YS:Sp:=fun vs H Q _=>∃ (ps gs:Addr) (m:Nat) (P G:List Nat),vs=[.ref ps,nV m,.ref gs]/\m<=9/\H ps=some (.lst (P.map nV))/\H gs=some (.lst (G.map nV))/\P.length<=9/\G.length<=9/\∀ l H',zD H H'->H' l=some (.lst ((P.flatMap fun p=>G.map fun g=>p * m+g).map nV))->Q (.ref l) H'
def WT (s:Sy):Prop:=∀ x ∈ s.lets,Ltr x
theorem WT.part {s a:Sy} (h:WT s) (ha:a ∈ s.ps):WT a:=by
 cases s with
 | ltr x=>cases ha
 | n0 n=>cases ha
 | n1 n b=>
  rw[AE.mp ha]
  exact h
 | n2 n b c=>
  rcases AV.mp ha with rfl | ha
  ·exact fun x hx=>h x (Ah _ hx)
  ·rw[AE.mp ha]
   exact fun x hx=>h x (Aa _ hx)
theorem WT.isl {s:Sy} (h:WT s) (hs:s.isL=true):Ltr s.nm:=by
 cases s with
 | ltr x=>exact h x (AE.mpr rfl)
 | _=>cases hs
theorem WT.of {T:Tb} {L:List Str} {s:Sy} (hL:Ls L) (h:GSt T L s):WT s:=fun x hx=>hL x (h.lets_in hx)
theorem WT.sub:∀ {s a:Sy},WT s->a ∈ s.sub->WT a
 | .ltr x,a,h,ha=>by rw[AE.mp ha];exact h
 | .n0 n,a,h,ha=>by rw[AE.mp ha];exact h
 | .n1 n b,a,h,ha=>by
  rcases AV.mp ha with rfl | ha
  ·exact h
  ·exact WT.sub (s:=b) h ha
 | .n2 n b c,a,h,ha=>by
  rcases AV.mp ha with rfl | ha
  ·exact h
  ·rcases AQ.mp ha with ha | ha
   ·exact WT.sub (s:=b) (fun x hx=>h x (Ah _ hx)) ha
   ·exact WT.sub (s:=c) (fun x hx=>h x (Aa _ hx)) ha
def SyS (H:Hp) (ps:List (V×Sy)):Prop:=∀ z ∈ ps,WT z.2/\jL H z.2 z.1
theorem SyS.same {H H':Hp} (s:zD H H') {ps:List (V×Sy)} (h:SyS H ps):SyS H' ps:=fun z hz=>⟨(h z hz).1,(h z hz).2.same s⟩
theorem SyS.paired {H:Hp}:∀ {ps:List (V×Sy)},SyS H ps->Paired (jL H) (ps.map Prod.snd) (ps.map Prod.fst)
 | [],_=>.nil
 | z :: ps,h=>.cons (h z AW).2 (SyS.paired fun y hy=>h y (AY _ hy))
theorem xI {H:Hp} {ss:List Sy} {us:List V} (h:Paired (jL H) ss us) (g:∀ a ∈ ss,WT a):SyS H (us.zip ss)/\(us.zip ss).map Prod.fst=us/\(us.zip ss).map Prod.snd=ss:=by
 induction h with
 | nil=>exact⟨(fun z hz=>by cases hz),rfl,rfl⟩
 | @cons a u ss us r _ ih=>
  obtain⟨i1,i2,i3⟩:=ih fun b hb=>g b (AY _ hb)
  refine⟨fun z hz=>?_,?_,?_⟩
  ·rcases AV.mp hz with rfl | hz
   ·exact⟨g _ (AW ..),r⟩
   ·exact i1 z hz
  ·rw[DM,Ag,i2]
  ·rw[DM,Ag,i3]
theorem ZB:∀ s:Sy,s.lets.length<=s.sz
 | .ltr x=>AK _
 | .n0 n=>A9 _
 | .n1 n a=>B7 (ZB a)
 | .n2 n a b=>by
  have h1:=ZB a
  have h2:=ZB b
  show (a.lets++b.lets).length<=a.sz+b.sz+1
  rw[AH]
  omega
theorem ZC:∀ ps:List (V×Sy),(∀ z ∈ ps,z.2.sz<=63)->(ps.flatMap fun z=>z.2.lets).length<=63 * ps.length
 | [],_=>A9 _
 | z :: ps,h=>by
  have h1:=ZC ps fun y hy=>h y (AY _ hy)
  have h2:=ZB z.2
  have h3:=h z AW
  rw[BR,AH,Aq]
  omega
theorem posL_rw {T:Tb} (g:zY T) (nd:(qc T).Nodup) {L:List Str} {ls:List (Str×Nat)} (hls:∀ p ∈ ls,p.2 < T.m) {ss:List Sy} {r:List Nat} (h:PosL T ls ss r) (hg:∀ a ∈ ss,GSt T L a):Tn.Rw T.m ss.length r:=by
 unfold PosL at h
 induction h with
 | nil=>exact⟨rfl,fun x hx=>by cases hx⟩
 | @cons a y ss r k _ ih=>
  obtain⟨h1,h2⟩:=ih fun b hb=>hg b (AY _ hb)
  refine⟨by rw[Aq,Aq,h1],fun x hx=>?_⟩
  rcases AV.mp hx with rfl | hx
  ·exact YQ g nd hls (hg a AW) k
  ·exact h2 x hx
theorem no_non (xs:List Nat):inV .non (xs.map nV)=false:=by
 induction xs with
 | nil=>rfl
 | cons x xs ih=>exact ih
theorem Yf {α:Type} (xs:List α) (f:α->Bool):(xs.map fun y=>V.bl (f y))=(xs.map f).map V.bl:=by rw[A2];rfl
theorem zaq {ls:List (Str×Nat)} (nd:(ls.map Prod.fst).Nodup) {p:Str×Nat} (hp:p ∈ ls):ls.lookup p.1=some p.2:=by
 induction ls with
 | nil=>cases hp
 | cons q ls ih=>
  obtain⟨y,o⟩:=q
  rw[Ag,Bf] at nd
  rw[BY]
  rcases AV.mp hp with rfl | hp
  ·rw[CM]
  ·have ne:¬ p.1=y:=fun e=>nd.1 (e ▸ AM.mpr ⟨p,hp,rfl⟩)
   rw[beq_eq_false_iff_ne.mpr ne]
   exact ih nd.2 hp
theorem YT:∀ (ps acc:List (Key×V)),((acc++ps).map Prod.fst).Nodup->putAll acc ps=acc++ps
 | [],acc,_=>by rw[BW];rfl
 | p :: ps,acc,nd=>by
  show putAll (jX acc p.1 p.2) ps=_
  have e:jX acc p.1 p.2=acc++[p]:=by
   unfold jX
   rw[if_neg]
   intro z
   obtain⟨kv,hkv,e⟩:=Cj.mp z
   rw[AL,Ag] at nd
   have:=(EA.mp nd).2.2 kv.1 (AM.mpr ⟨kv,hkv,rfl⟩) p.1 AW
   exact this (Ak e)
  rw[e,YT ps (acc++[p]) (by rw[CC];exact nd),CC]
  rfl
theorem gkv_put {L:List Str} (nd:L.Nodup) (γ:Str->Nat):putAll [] (L.map fun x=>((Sum.inr x:Key),nV (γ x)))=L.map fun x=>(Sum.inr x,nV (γ x)):=by
 rw[YT _ [] ?_,Dj]
 rw[Dj,A2]
 unfold List.Nodup at nd ⊢
 rw[CW]
 exact nd.imp fun hab e=>hab (Cw e)
def YU:Sp:=fun vs H Q _=>∃ (v:V) (s:Sy),vs=[v]/\jL H s v/\WT s/\s.sz<=63/\∀ l us H',zD H H'->H' l=some (.lst us)->Paired (jL H') s.sub us->Q (.ref l) H'
def Wv:Sp:=fun vs H Q _=>∃ (l:Addr) (ps:List (V×Sy)) (L0:List Str),vs=[.ref l]/\H l=some (.lst (ps.map Prod.fst))/\SyS H ps/\ps.length<=15/\(∀ z ∈ ps,z.2.sz<=63/\∀ x ∈ z.2.lets,x ∈ L0)/\L0.length<=60/\∀ (k:Addr) (L:List Str) (H':Hp),zD H H'->H' k=some (.lst (L.map V.str))->L.Nodup->(∀ x,x ∈ L ↔ ∃ z ∈ ps,x ∈ z.2.lets)->PyProof.Rows.sortedS L=true->Q (.ref k) H'
def Yg:Sp:=fun vs H Q _=>∃ (g u:Addr) (x:Str) (o:Nat) (ls:List (Str×Nat)),vs=[.ref g,.str x,.ref u]/\ZA H g ls/\ls.length<=60/\x ∉ ls.map Prod.fst/\H u=some (.tup [nV o])/\∀ g' H',zD H H'->ZA H' g' (ls++[(x,o)])->Q (.ref g') H'
def xJ:Sp:=fun vs H Q _=>∃ (v:V) (T:Tb),vs=[v]/\ZT H v T/\zY T/\(qc T).Nodup/\∀ e H',zD H H'->xC H' e T->Q (.ref e) H'
def zar:Sp:=fun vs H Q _=>∃ (e l:Addr) (us:List V) (ss:List Sy) (T:Tb) (L:List Str),vs=[.ref e,.ref l]/\xC H e T/\H l=some (.lst us)/\Paired (jL H) ss us/\(∀ s ∈ ss,GSt T L s)/\Ls L/\∀ H',zD H H'->Q .non H'
def YV:Nat->Sp
 | 0=>fun _ _ _ _=>False
 | j+1=>fun vs H Q _=>∃ (e g:Addr) (v:V) (T:Tb) (L:List Str) (s:Sy) (ls:List (Str×Nat)),vs=[.ref e,nV T.m,v,.ref g]/\xC H e T/\zY T/\(qc T).Nodup/\jL H s v/\GSt T L s/\Ls L/\ZA H g ls/\(∀ p ∈ ls,p.2 < T.m)/\s.dp<=j/\∀ (l:Addr) (xs:List Nat) (H':Hp),zD H H'->H' l=some (.lst (xs.map nV))->(∀ y,y ∈ xs ↔ WS T ls s y)->xs.length<=9->Q (.ref l) H'
structure Ask (H:Hp) (v:V) (pl:Addr) (sv:V) (T:Tb) (L:List Str) (ps:List (V×Sy)) (S:Sy):Prop where
 tb:ZT H v T
 gt:zY T
 nd:(qc T).Nodup
 hp:H pl=some (.lst (ps.map Prod.fst))
 pn:ps.length<=14
 ps:∀ z ∈ ps,GSt T L z.2/\z.2.dp<=10/\z.2.sz<=63/\jL H z.2 z.1
 sv:jL H S sv
 gs:GSt T L S
 sd:S.dp<=10
 sz:S.sz<=63
 hL:Ls L
 ln:L.length<=5
theorem Ask.same {H H':Hp} {v:V} {pl:Addr} {sv:V} {T:Tb} {L:List Str} {ps:List (V×Sy)} {S:Sy} (a:Ask H v pl sv T L ps S) (s:zD H H'):Ask H' v pl sv T L ps S:=
 ⟨a.tb.same s,a.gt,a.nd,s _ _ a.hp,a.pn,(fun z hz=>by obtain⟨h1,h2,h3,h4⟩:=a.ps z hz;exact⟨h1,h2,h3,h4.same s⟩),a.sv.same s,a.gs,a.sd,a.sz,a.hL,a.ln⟩
theorem Ask.lets {H:Hp} {v:V} {pl:Addr} {sv:V} {T:Tb} {L M:List Str} {ps:List (V×Sy)} {S:Sy} (a:Ask H v pl sv T L ps S) (h1:∀ x ∈ M,x ∈ L) (h2:∀ z ∈ ps,∀ x ∈ z.2.lets,x ∈ M) (h3:∀ x ∈ S.lets,x ∈ M) (hl:M.length<=5):Ask H v pl sv T M ps S:=
 ⟨a.tb,a.gt,a.nd,a.hp,a.pn,(fun z hz=>by obtain⟨k1,k2,k3,k4⟩:=a.ps z hz;exact⟨k1.lets.mono (h2 z hz),k2,k3,k4⟩),a.sv,a.gs.lets.mono h3,a.sd,a.sz,fun x hx=>a.hL x (h1 x hx),hl⟩
def Ww:Sp:=fun vs H Q _=>∃ (v:V) (pl g:Addr) (sv:V) (T:Tb) (L:List Str) (ps:List (V×Sy)) (S:Sy) (ls:List (Str×Nat)),vs=[v,.ref pl,sv,.ref g]/\Ask H v pl sv T L ps S/\ZA H g ls/\(∀ p ∈ ls,p.2 < T.m)/\(Clo T ls (ps.map Prod.snd) S->∀ H',zD H H'->Q (.bl true) H')/\(¬ Clo T ls (ps.map Prod.snd) S->∀ H',zD H H'->Q (.bl false) H')
def gkv (L:List Str) (γ:Str->Nat):List (Key×V):=L.map fun x=>(Sum.inr x,nV (γ x))
def Jf:Nat->Sp
 | 0=>fun _ _ _ _=>False
 | j+1=>fun vs H Q _=>∃ (v:V) (pl la g:Addr) (sv:V) (T:Tb) (L:List Str) (ps:List (V×Sy)) (S:Sy) (ls:List (Str×Nat)),vs=[v,.ref pl,sv,.ref la,.ref g]/\Ask H v pl sv T L ps S/\L.Nodup/\H la=some (.lst (L.map V.str))/\ZA H g ls/\(∀ p ∈ ls,p.2 < T.m)/\ls.map Prod.fst=L.take ls.length/\L.length<=ls.length+j /\
  (FolL T ls (ps.map Prod.snd) S->∀ t tv H',zD H H'->H' t=some (.tup [.str "follows",tv])->Q (.ref t) H') /\
  (∀ γ,Gd T γ->Keeps γ ls->Bar T γ (ps.map Prod.snd) S->∀ t d H',zD H H'->H' t=some (.tup [.str "barred",.ref d])->H' d=some (.dK (gkv L γ))->Q (.ref t) H')
def Qz:Sp:=fun vs H Q _=>∃ (v:V) (pl:Addr) (sv:V) (T:Tb) (L:List Str) (ps:List (V×Sy)) (S:Sy),vs=[v,.ref pl,sv]/\Ask H v pl sv T L ps S /\
  (Fol T (ps.map Prod.snd) S->∀ t tv H',zD H H'->H' t=some (.tup [.str "follows",tv])->Q (.ref t) H') /\
  (∀ γ (M:List Str),Gd T γ->Bar T γ (ps.map Prod.snd) S->M.Nodup->(∀ x,x ∈ M ↔ (∃ z ∈ ps,x ∈ z.2.lets)\/x ∈ S.lets)->∀ t d H',zD H H'->H' t=some (.tup [.str "barred",.ref d])->H' d=some (.dK (gkv M γ))->Q (.ref t) H')
def Yh (H:Hp) (d:Addr) (L:List Str) (m:Nat) (γ:Str->Nat):Prop:=∃ kvs,H d=some (.dK kvs)/\∀ x ∈ L,jo kvs (Sum.inr x)=some (nV (γ x))/\γ x < m
theorem Yh.same {H H':Hp} {d:Addr} {L:List Str} {m:Nat} {γ:Str->Nat} (h:Yh H d L m γ) (s:zD H H'):Yh H' d L m γ:=by
 obtain⟨kvs,h1,h2⟩:=h
 exact⟨kvs,s _ _ h1,h2⟩
def JQ:Nat->Sp
 | 0=>fun _ _ _ _=>False
 | j+1=>fun vs H Q _=>∃ (v sv:V) (g:Addr) (s:Sy) (T:Tb) (L:List Str) (γ:Str->Nat),vs=[v,sv,.ref g]/\ZT H v T/\zY T/\(qc T).Nodup/\jL H s sv/\GSt T L s/\Yh H g L T.m γ/\s.dp<=j/\∀ H',zD H H'->Q (nV (grT T γ s)) H'
def spOfL:Nat->Sp
 | 0=>fun _ _ _ _=>False
 | j+1=>fun vs H Q _=>∃ (sv:V) (s:Sy),vs=[sv]/\jL H s sv/\s.sz<=63/\s.dp<=j/\∀ l H',zD H H'->H l=none->H' l=some (.lst (s.lets.map V.str))->Q (.ref l) H'
noncomputable def barB (T:Tb) (γ:Str->Nat) (ps:List Sy) (S:Sy):Bool:=(ps.all fun p=>decide (grT T γ p ∈ T.ws)) && !decide (grT T γ S ∈ T.ws)
def Yi:Sp:=fun vs H Q _=>∃ (v:V) (pl:Addr) (sv:V) (g:Addr) (T:Tb) (L:List Str) (ps:List (V×Sy)) (S:Sy) (γ:Str->Nat),vs=[v,.ref pl,sv,.ref g]/\Ask H v pl sv T L ps S/\Yh H g L T.m γ/\∀ H',zD H H'->Q (.bl (barB T γ (ps.map Prod.snd) S)) H'
theorem zas {s:Sy} (h:s.isL=false):s.lets=s.ps.flatMap Sy.lets:=by
 cases s with
 | ltr x=>cases h
 | n0 n=>rfl
 | n1 n a=>simp[Sy.lets,Sy.ps]
 | n2 n a b=>simp[Sy.lets,Sy.ps]
theorem sz_part {s a:Sy} (h:a ∈ s.ps):a.sz<=s.sz:=by
 cases s with
 | ltr x=>cases h
 | n0 n=>cases h
 | n1 n b=>
  rw[AE.mp h]
  exact B8 _
 | n2 n b c=>
  show a.sz<=b.sz+c.sz+1
  rcases AV.mp h with rfl | h
  ·omega
  ·rw[AE.mp h]
   omega
theorem zat {α β:Type} (xs:List α) (f:α->List β) (i:Nat):((xs.take i).flatMap f).length<=(xs.flatMap f).length:=by
 have:=B1 i xs
 conv=>rhs;rw[<- this,BG,AH]
 omega
def Wx (m:Nat):Nat->List (List Nat)
 | 0=>[[]]
 | k+1=>(Wx m k).flatMap fun r=>(List.range m).map fun o=>r++[o]
theorem zau (m:Nat) (rs:List (List Nat)):(rs.flatMap fun r=>(List.range m).map fun o=>r++[o]).length=rs.length * m:=by
 induction rs with
 | nil=>simp
 | cons r rs ih=>
  rw[BR,AH,ih,AB,AZ,Aq,Bv]
  omega
theorem JR (m:Nat):∀ k,(Wx m k).length=m ^ k
 | 0=>rfl
 | k+1=>by
  have ih:=JR m k
  show ((Wx m k).flatMap fun r=>(List.range m).map fun o=>r++[o]).length=_
  rw[CQ,<- ih]
  generalize Wx m k=rs
  induction rs with
  | nil=>simp
  | cons r rs ih2=>
   rw[BR,AH,ih2,AB,AZ,Aq,Bv]
   omega
theorem j6 {m:Nat}:∀ {k:Nat} {r:List Nat},r ∈ Wx m k ↔ Tn.Rw m k r
 | 0,r=>by
  show r ∈ [[]] ↔ _
  rw[AE]
  constructor
  ·rintro rfl
   exact⟨rfl,fun x hx=>by cases hx⟩
  ·intro h
   exact CO.mp h.1
 | k+1,r=>by
  show r ∈ (Wx m k).flatMap _ ↔ _
  rw[BN]
  constructor
  ·rintro⟨r',hr',h⟩
   obtain⟨o,ho,rfl⟩:=AM.mp h
   obtain⟨h1,h2⟩:=j6.mp hr'
   refine⟨by rw[AH,h1];rfl,fun x hx=>?_⟩
   rcases AQ.mp hx with h | h
   ·exact h2 x h
   ·rw[AE.mp h]
    exact Af.mp ho
  ·rintro⟨h1,h2⟩
   rcases C9 r with rfl | ⟨r',o,rfl⟩
   ·cases h1
   rw[CV] at *
   rw[AH] at h1
   have h1:r'.length+1=k+1:=h1
   exact⟨r',j6.mpr ⟨by omega,fun x hx=>h2 x (Ah _ hx)⟩,AM.mpr ⟨o,Af.mpr (h2 o (by simp)),rfl⟩⟩
def zkv (L:List Str) (r:List Nat):List (Key×V):=(L.zip r).map fun p=>((Sum.inr p.1:Key),nV p.2)
theorem zkv_snoc {L:List Str} {r:List Nat} (h:L.length=r.length) (y:Str) (k:Nat):zkv (L++[y]) (r++[k])=zkv L r++[((Sum.inr y:Key),nV k)]:=by
 unfold zkv
 rw[List.zip_append h,AL]
 rfl
theorem zkv_keys {L:List Str} {r:List Nat} (h:L.length=r.length):(zkv L r).map Prod.fst=L.map Sum.inr:=by
 unfold zkv
 rw[A2]
 have e:((Prod.fst:Key×V->Key) ∘ fun p:Str×Nat=>((Sum.inr p.1:Key),nV p.2))=Sum.inr ∘ Prod.fst:=rfl
 rw[e,<- A2,List.map_fst_zip (by omega)]
theorem zav {L:List Str} {r:List Nat} (h:L.length=r.length):(zkv L r).length=L.length:=by
 unfold zkv
 rw[AB,List.length_zip]
 omega
theorem wV:∀ {kvs:List (Key×V)} {k:Key},k ∉ kvs.map Prod.fst->jo kvs k=none
 | [],k,_=>rfl
 | q :: kvs,k,h=>by
  rw[Ag,AV,not_or] at h
  rw[qG (fun e=>h.1 e.symm)]
  exact wV h.2
theorem zkv_put {L:List Str} {r:List Nat} (h:L.length=r.length) {y:Str} (hy:y ∉ L) (k:Nat):jX (zkv L r) (Sum.inr y) (nV k)=zkv (L++[y]) (r++[k]):=by
 rw[zkv_snoc h,putK_new _ (wV (by
  rw[zkv_keys h]
  intro hm
  obtain⟨z,hz,e⟩:=AM.mp hm
  exact hy (Cw e ▸ hz)))]
def GnsR (H:Hp) (gs:List (Addr×List Nat)) (L:List Str):Prop:=∀ z ∈ gs,H z.1=some (.dK (zkv L z.2))
def JS (gs:List (Addr×List Nat)):List V:=gs.map fun z=>V.ref z.1
def zaw (L:List Str) (r:List Nat) (x:Str):Nat:=((L.zip r).lookup x).getD 0
theorem zval:∀ (L:List Str) (r:List Nat) (x:Str),jo (zkv L r) (Sum.inr x)=((L.zip r).lookup x).map nV
 | [],r,x=>rfl
 | y :: L,[],x=>rfl
 | y :: L,o :: r,x=>by
  show jo (((Sum.inr y:Key),nV o) :: zkv L r) _=(((y,o) :: L.zip r).lookup x).map nV
  rw[BY]
  by_cases h:x=y
  ·subst h
   rw[CM,qF rfl]
   rfl
  ·rw[beq_eq_false_iff_ne.mpr h,qG (fun e=>h (Cw e).symm)]
   exact zval L r x
theorem lk_zip:∀ {L:List Str} {r:List Nat} {x:Str},L.length=r.length->x ∈ L->∃ o ∈ r,(L.zip r).lookup x=some o
 | [],r,x,_,h=>by cases h
 | y :: L,[],x,h,_=>by cases h
 | y :: L,o :: r,x,h,hx=>by
  show ∃ o' ∈ o :: r,((y,o) :: L.zip r).lookup x=some o'
  rw[BY]
  by_cases hy:x=y
  ·subst hy
   rw[CM]
   exact⟨o,AW,rfl⟩
  ·rw[beq_eq_false_iff_ne.mpr hy]
   rcases AV.mp hx with e | hx
   ·exact absurd e hy
   obtain⟨o',ho,e⟩:=lk_zip (L:=L) (r:=r) (by simpa using h) hx
   exact⟨o',AY _ ho,e⟩
theorem Yj {L:List Str} {r:List Nat} {m:Nat} (h:Tn.Rw m L.length r) (m1:1<=m) (x:Str):zaw L r x < m:=by
 unfold zaw
 cases e:(L.zip r).lookup x with
 | none=>exact m1
 | some o=>
  have:=ZN e
  exact h.2 o (DG this).2
theorem JT {γ:Str->Nat}:∀ {L:List Str} {x:Str},x ∈ L->zaw L (L.map γ) x=γ x
 | [],x,h=>by cases h
 | y :: L,x,h=>by
  show (((y,γ y) :: L.zip (L.map γ)).lookup x).getD 0=_
  rw[BY]
  by_cases hy:x=y
  ·subst hy
   rw[CM]
   rfl
  ·rw[beq_eq_false_iff_ne.mpr hy]
   rcases AV.mp h with e | h
   ·exact absurd e hy
   ·exact JT h
theorem yx {H:Hp} {d:Addr} {L:List Str} {r:List Nat} {m:Nat} (hd:H d=some (.dK (zkv L r))) (h:Tn.Rw m L.length r) (m1:1<=m):Yh H d L m (zaw L r):=⟨_,hd,fun x hx=>⟨by
 obtain⟨o,_,e⟩:=lk_zip h.1.symm hx
 rw[zval,zaw,e]
 rfl,Yj h m1 x⟩⟩
theorem Wz {T:Tb} {γ:Str->Nat} {ps:List Sy} {S:Sy}:barB T γ ps S=true ↔ Bar T γ ps S:=by
 unfold barB Bar
 rw[Bg,A0,EC,decide_eq_false_iff_not]
 simp only[decide_eq_true_eq]
theorem hide {R:TS} {D:xZ} {P:TS->xZ->Prop} {G:Prop} (main:P R D->G) (r:P R D):G:=main r
theorem QA {K:PySem.W.Frag} {H H':Hp} {a:Addr} {xs:List V} (h:SqL K H a xs) (s:zD H H'):SqL K H' a xs:=by
 rcases h with (h | ⟨o,h⟩) | h
 ·exact .inl (.inl (s _ _ h))
 ·exact .inl (.inr ⟨o,s _ _ h⟩)
 ·exact .inr h
theorem nm_inj {T:Tb} (nT:(qc T).Nodup) {i k:Nat} {d c:Cn} (h1:T.cs[i]? = some d) (h2:T.cs[k]? = some c) (e:d.nm=c.nm):i=k:=by
 have r1:(qc T)[i]? = some c.nm:=by
  unfold qc
  rw[AJ,h1,<- e]
  rfl
 have r2:(qc T)[k]? = some c.nm:=by
  unfold qc
  rw[AJ,h2]
  rfl
 obtain⟨l1,e1⟩:=AC.mp r1
 obtain⟨l2,e2⟩:=AC.mp r2
 have m1:=nT.idxOf_getElem i l1
 have m2:=nT.idxOf_getElem k l2
 rw[e1] at m1
 rw[e2] at m2
 omega
def yy:Str := "abcdefghijklmnopqrstuvwxyz"
theorem xK:yy.cps.toList=(List.range 26).map (97 + ·):=by decide +kernel
theorem yz {v:Nat} (h1:v < 26):atI yy.cps.toList (v:Int)=some (97+v):=qw (by rw[xK,AJ,A3 h1];rfl)
theorem in_strs (c:Str) (cs:List Str):inV (.str c) (cs.map V.str)=decide (c ∈ cs):=by
 induction cs with
 | nil=>rfl
 | cons w cs ih=>
  unfold inV at ih ⊢
  rw[Ag,By,ih]
  have e:eqV (.str w) (.str c)=decide (c=w):=by
   by_cases h:c=w
   ·rw[h]
    simp[eqV]
   ·rw[Aw h]
    simp[eqV]
    exact fun z=>h z.symm
  rw[e,<- Bool.decide_or]
  exact decide_eq_decide.mpr AV.symm
theorem zax (cs:List Str):(cs.map V.str).all jY=true:=by
 rw[DK,A0]
 intro i _
 rfl
theorem sz_len:∀ ss:List (V×Sy),ss.length<=(ss.map fun z=>z.2.sz).sum
 | []=>AK _
 | z :: ss=>by
  have h1:=sz_len ss
  have h2:=Sy.sz_ps z.2
  simp only[List.map_cons,List.sum_cons,List.length_cons]
  omega
theorem sz_mk {nm:Str} {ss:List Sy} (h:ss.length<=2):(Sy.mk nm ss).sz=(ss.map Sy.sz).sum+1:=by
 rw[<- Sy.sz_ps,Sy.ps_mk h]
theorem JU {α:Type} {xs:List α} {k:Nat} (h:k < xs.length):∃ x,xs[k]? = some x:=⟨_,AG h⟩
theorem pr_of {H:Hp}:∀ {ps:List (V×Sy)},(∀ z ∈ ps,jL H z.2 z.1)->Paired (jL H) (ps.map Prod.snd) (ps.map Prod.fst)
 | [],_=>.nil
 | z :: ps,h=>.cons (h z AW) (pr_of fun y hy=>h y (AY _ hy))
theorem Yk {xs:List V} (a b:Nat) (hb:b<=xs.length) (ha:a<=b):wc xs (some (a:Int)) (some (b:Int))=(xs.drop a).take (b - a):=by
 unfold wc
 rw[HT.sIx_nat,HT.sIx_nat,show min a xs.length=a by omega,show min b xs.length=b by omega]
theorem cut_upto {xs:List V} (b:Nat) (hb:b<=xs.length):wc xs none (some (b:Int))=xs.take b:=by
 unfold wc
 rw[HT.sIx_none,HT.sIx_nat,show min b xs.length=b by omega,DP,Nat.sub_zero]
theorem cut_fr {xs:List V} (k:Nat) (hk:k<=xs.length):wc xs (some (k:Int)) none=xs.drop k:=by
 unfold wc
 rw[HT.sIx_nat,HT.sIx_none,show min k xs.length=k by omega]
 exact C3 (by rw[Bz];omega)
theorem six (x:Nat):∃ pl:Nat,atI [V.int 2,V.int 1,V.int 2,V.int 0,V.int 2,V.int 1] ((x:Int) % 6)=some (nV pl)/\pl<=2:=by
 have h6:x % 6 < 6:=Cc _ (by decide)
 rw[show (x:Int) % 6=((x % 6:Nat):Int) from rfl]
 generalize x % 6=i at h6
 match i,h6 with
 | 0,_=>exact⟨2,qw rfl,by decide⟩
 | 1,_=>exact⟨1,qw rfl,by decide⟩
 | 2,_=>exact⟨2,qw rfl,by decide⟩
 | 3,_=>exact⟨0,qw rfl,by decide⟩
 | 4,_=>exact⟨2,qw rfl,by decide⟩
 | 5,_=>exact⟨1,qw rfl,by decide⟩
theorem size3 (m:Nat) {pl:Nat} (h:pl<=2):atI [V.int 1,nV m,V.int ((m:Int) * (m:Int))] (pl:Int)=some (nV (m ^ pl)):=by
 match pl,h with
 | 0,_=>exact qw rfl
 | 1,_=>rw[Cz];exact qw rfl
 | 2,_=>rw[EO];exact qw rfl
theorem zay (xs:List Nat) (p n:Nat) (h:p+1+n<=xs.length):wc (xs.map nV) (some ((p:Int)+1)) (some ((p:Int)+1+(n:Int)))=((xs.drop (p+1)).take n).map nV:=by
 rw[show ((p:Int)+1)=((p+1:Nat):Int) from rfl,show (((p+1:Nat):Int)+(n:Int))=((p+1+n:Nat):Int) by omega,Yk (p+1) (p+1+n) (by rw[AB];exact h) (by omega),<- DE,<- DD,show p+1+n - (p+1)=n by omega]
theorem pow16 {m pl:Nat} (h:m<=4) (h2:pl<=2):m ^ pl<=16:=Ab (DI h pl) (by
 match pl,h2 with
 | 0,_=>decide
 | 1,_=>decide
 | 2,_=>decide)
def zs (k:Nat):Str:=Str.ofString "z" ++ Str.mk #[97+k]
theorem zs_nd:∀ k,k < 4->((List.range k).map zs).Nodup:=by decide +kernel
def YW (K:PySem.W.Frag):Sp:=fun vs H Q _=>∃ (a:Addr) (k n:Int) (ns:List Int),vs=[.ref a,.int k,.int n]/\SqL K H a (ns.map V.int)/\ns.length<=63/\0<=k/\0<=n/\n<=60/\∀ l (xs:List Nat) H',zD H H'->H' l=some (.lst (xs.map nV))->xs.length=n.toNat->(∀ x ∈ xs,x < 1000000)->Q (.ref l) H'
def Yl:Sp:=fun vs H Q _=>∃ (l:Addr) (xs:List Nat),vs=[.ref l]/\H l=some (.lst (xs.map nV))/\xs.length<=3/\∀ l' (ws:List Str) H',zD H H'->H l'=none->H' l'=some (.lst (ws.map V.str))->ws.Nodup->ws.length=xs.length->(∀ w ∈ ws,w.length<=9)->Q (.ref l') H'
def Ym (K:PySem.W.Frag):Sp:=fun vs H Q _=>∃ (a sl:Addr) (k:Int) (ns:List Int) (zz:List Nat),vs=[.ref a,.int k,.ref sl]/\SqL K H a (ns.map V.int)/\ns.length<=63/\0<=k/\H sl=some (.lst (zz.map nV))/\0 < zz.length/\zz.length<=9/\(∀ z ∈ zz,1<=z/\z<=4)/\∀ v T H',zD H H'->ZT H' v T->zY T->(qc T).Nodup->T.m ∈ zz->T.cs.length<=3->Q v H'
def Few (T:Tb) (L:List Str) (s:Sy):Prop:=GSt T L s/\s.dp<=5/\s.sz<=5
def WA:Sp:=fun vs H Q _=>∃ (nl c la:Addr) (xs:List Nat) (T:Tb) (cv:List V) (L:List Str),vs=[.ref nl,.ref c,.ref la]/\H nl=some (.lst (xs.map nV))/\1<=xs.length/\xs.length<=5/\zY T/\H c=some (.tup cv)/\Cns H T.cs cv/\H la=some (.lst (L.map V.str))/\1<=L.length/\L.length<=2/\∀ v S H',zD H H'->jL H' S v->Few T L S->Q v H'
def WB:Sp:=fun vs H Q _=>∃ (v:V) (T:Tb) (c:Cn),vs=[v,.str c.nm,nV c.pl]/\ZT H v T/\(qc T).Nodup/\c ∈ T.cs/\∀ u,H u=some (.tup (c.cs.map nV))->Q (.ref u) H
def WC:Sp:=fun vs H Q _=>∃ (la:Addr) (m:Nat) (LT:List Str),vs=[nV m,.ref la]/\1<=m/\m<=9/\H la=some (.lst (LT.map V.str))/\LT.Nodup/\LT.length<=5/\m ^ LT.length<=125/\∀ fl gs H',zD H H'->H' fl=some (.lst (JS gs))->gs.map Prod.snd=Wx m LT.length->GnsR H' gs LT->Q (.ref fl) H'
def YX:Sp:=fun vs H Q _=>∃ (l:Addr) (ps:List (V×Sy)) (L0:List Str),vs=[.ref l]/\H l=some (.lst (ps.map Prod.fst))/\ps.length<=14/\(∀ z ∈ ps,z.2.dp<=10/\z.2.sz<=63/\jL H z.2 z.1/\∀ x ∈ z.2.lets,x ∈ L0)/\L0.length<=5/\∀ k (M:List Str) H',zD H H'->H' k=some (.lst (M.map V.str))->M.Nodup->(∀ x,x ∈ M ↔ ∃ z ∈ ps,x ∈ z.2.lets)->Q (.ref k) H'
def YY:Sp:=fun vs H Q _=>∃ (v:V) (pl:Addr) (sv:V) (T:Tb) (L:List Str) (ps:List (V×Sy)) (S:Sy),vs=[v,.ref pl,sv]/\Ask H v pl sv T L ps S/\T.m ^ L.length<=125/\ps.length<=13/\(Fol T (ps.map Prod.snd) S->∀ H',zD H H'->Q (.bl true) H')/\(¬ Fol T (ps.map Prod.snd) S->∀ H',zD H H'->Q (.bl false) H')
theorem ltr_of {s:Str} {c:Nat} (h:s.cps = #[c]) (h1:97<=c) (h2:c<=122):Ltr s:=⟨by show s.cps.size=1;rw[h];rfl,fun x hx=>by
 rw[h] at hx
 have:x=c:=by simpa using hx
 rw[this]
 exact⟨h1,h2⟩⟩
def spLaw (K:PySem.W.Frag):Sp:=fun vs H Q _=>∃ (a:Addr) (ns:List Int),vs=[.ref a]/\SqL K H a (ns.map V.int)/\ns.length<=63/\∀ H',Q (.bl true) H'
theorem YZ {vs:List V} {H:Hp} {Q:VK} {E:XK} (h:∃ (v:V) (pl:Addr) (sv:V) (T:Tb) (L:List Str) (ps:List (V×Sy)) (S:Sy),vs=[v,.ref pl,sv]/\Ask H v pl sv T L ps S/\T.m ^ L.length<=125/\ps.length<=13/\∀ b H',zD H H'->(b=true ↔ Fol T (ps.map Prod.snd) S)->Q (.bl b) H'):YY vs H Q E:=by
 obtain⟨v,pl,sv,T,L,ps,S,e,ak,p1,p2,q⟩:=h
 exact⟨v,pl,sv,T,L,ps,S,e,ak,p1,p2,fun f H' s=>q true H' s ⟨fun _=>f,fun _=>rfl⟩,fun f H' s=>q false H' s ⟨fun z=>(by cases z),fun z=>absurd z f⟩⟩
theorem Yn {vs:List V} {H:Hp} {Q:VK} {E:XK} (h:∃ (v:V) (pl:Addr) (sv:V) (T:Tb) (L:List Str) (ps:List (V×Sy)) (S:Sy),vs=[v,.ref pl,sv]/\Ask H v pl sv T L ps S/\∀ (w:Str) t tv H',zD H H'->H' t=some (.tup [.str w,tv])->(w = "follows" ↔ Fol T (ps.map Prod.snd) S)->Q (.ref t) H'):Qz vs H Q E:=by
 obtain⟨v,pl,sv,T,L,ps,S,e,ak,q⟩:=h
 exact⟨v,pl,sv,T,L,ps,S,e,ak,fun f t tv H' s ht=>q _ t tv H' s ht ⟨fun _=>f,fun _=>rfl⟩,fun γ M gd bar _ _ t d H' s ht _=>q _ t _ H' s ht ⟨fun z=>absurd z (by decide +kernel),fun f=>absurd bar (f γ gd)⟩⟩
theorem pq_ok (z:Nat):∃ L:List Str,wc [V.str (Str.ofString "p"),V.str (Str.ofString "q")] none (some (1+(z:Int) % 2))=L.map V.str/\1<=L.length/\L.length<=2/\Ls L:=by
 have lp:Ltr (Str.ofString "p"):=ltr_of (c:=112) (by decide +kernel) (by decide) (by decide)
 have lq:Ltr (Str.ofString "q"):=ltr_of (c:=113) (by decide +kernel) (by decide) (by decide)
 rcases Int.emod_two_eq (z:Int) with e | e <;> rw[e]
 ·exact⟨[Str.ofString "p"],rfl,by decide,by decide,fun x hx=>by rw[AE.mp hx];exact lp⟩
 ·refine⟨[Str.ofString "p",Str.ofString "q"],rfl,by decide,by decide,fun x hx=>?_⟩
  rcases AV.mp hx with rfl | hx
  ·exact lp
  ·rw[AE.mp hx];exact lq
theorem zaz {H:Hp} {v:V} {pl:Addr} {sv:V} {T:Tb} {L:List Str} {ps:List (V×Sy)} {S:Sy} (tb:ZT H v T) (gT:zY T) (nT:(qc T).Nodup) (hp:H pl=some (.lst (ps.map Prod.fst))) (pn:ps.length<=2) (hps:∀ z ∈ ps,jL H z.2 z.1/\Few T L z.2) (iS:jL H S sv) (fS:Few T L S) (hL:Ls L) (l2:L.length<=2):Ask H v pl sv T L ps S:=
 ⟨tb,gT,nT,hp,by omega,fun z hz=>by
  obtain⟨h1,h2,h3,h4⟩:=hps z hz
  exact⟨h2,by omega,by omega,h1⟩,iS,fS.1,by have:=fS.2.1;omega,by have:=fS.2.2;omega,hL,by omega⟩
def thCn (c:Cn):Th:=.tup [.str c.nm,.int (c.pl:Int),.tup (c.cs.map fun (i:Nat)=>Th.int (i:Int))]
def thTb (T:Tb):Th:=.tup [.int (T.m:Int),.tup (T.ws.map fun (i:Nat)=>Th.int (i:Int)),.tup (T.cs.map thCn)]
theorem zaA {H:Hp} {p:Addr} {is:List Nat} (h:H p=some (.tup (is.map nV))) (hl:is.length<=1000):WR H (.tup (is.map fun (i:Nat)=>Th.int (i:Int))) (.ref p):=Ths.tup (XB (fun (i:Nat)=>Th.int (i:Int)) nV is fun i _=>.int _) h (by rw[AB];exact hl)
theorem th_cns {H:Hp} {cs:List Cn} {vs:List V} (h:Cns H cs vs) (hc:∀ c ∈ cs,c.nm.length<=100/\c.cs.length<=1000):Ths H (cs.map thCn) vs:=by
 unfold Cns at h
 unfold Ths
 induction h with
 | nil=>exact .nil
 | @cons c v cs vs r _ ih=>
  obtain⟨t,u,rfl,h1,h2⟩:=r
  obtain⟨n8,l⟩:=hc c (AW ..)
  refine .cons ?_ (ih fun d hd=>hc d (AY _ hd))
  exact Ths.tup (vs:=[.str c.nm,nV c.pl,.ref u]) (.cons (.str _ (by omega)) (.cons (.int _) (.cons (zaA h2 l) .nil))) h1 (by show 3<=1000;decide)
theorem ZT.th {H:Hp} {v:V} {T:Tb} (h:ZT H v T) (g:zY T):WR H (thTb T) v:=by
 obtain⟨a,w,c,vs,rfl,h1,h2,h3,h4⟩:=h
 have hw:=ws_len g
 refine Ths.tup (vs:=[nV T.m,.ref w,.ref c]) (.cons (.int _) (.cons (zaA h2 (by omega)) (.cons ?_ .nil))) h1 (by show 3<=1000;decide)
 refine Ths.tup (th_cns h4 fun c hc=>?_) h3 (by rw[AB];have:=g.cl;omega)
 obtain⟨n8,p2,c3⟩:=g.cn c hc
 refine⟨n8,?_⟩
 rw[c3.len]
 exact Ab (JL g.m9 p2) (by decide)
theorem zaB (n:Nat) (ws:List Nat):(ws.map fun (i:Nat)=>Th.int (i:Int)).all (okD n)=true:=by
 rw[DK,A0]
 intro i _
 cases n <;> rfl
theorem ok_tb (T:Tb):okD 4 (thTb T)=true:=by
 show (true && ((T.ws.map fun (i:Nat)=>Th.int (i:Int)).all (okD 2) && ((T.cs.map thCn).all (okD 2) && true)))=true
 rw[zaB,show (T.cs.map thCn).all (okD 2)=true from ?_]
 ·rfl
 rw[DK,A0]
 intro c _
 show (true && (true && ((c.cs.map fun (i:Nat)=>Th.int (i:Int)).all (okD 0) && true)))=true
 rw[zaB]
 rfl
theorem same_tb {H:Hp} {v u:V} {T:Tb} (h:ZT H v T) (k:ZT H u T) (g:zY T):∃ a b xs ys,v=.ref a/\u=.ref b/\H a=some (.tup xs)/\H b=some (.tup ys)/\Paired (yS H 3) xs ys:=by
 rcases YG 4 (ok_tb T) (ZT.th h g) (ZT.th k g) with al | ⟨va,vb,xs,ys,rfl,rfl,ea,eb,pr⟩
 ·obtain⟨a,w,c,vs,rfl,_⟩:=h
  cases al.2
 ·exact⟨va,vb,xs,ys,rfl,rfl,ea,eb,pr⟩
def Sh (T:Tb):List (Str×Nat):=T.cs.map fun c=>(c.nm,c.pl)
theorem rows_get {n k:Nat} (hk:k<=2) {r:List Nat} (hr:Tn.Rw n k r):(Tn.rowsR n k)[Tn.place n r]? = some r:=by
 obtain⟨hl,hx⟩:=hr
 match k,hk,r,hl with
 | 0,_,[],_=>rfl
 | 1,_,[a],_=>
  have ha:=hx a (by simp)
  show ((List.range n).map fun x=>[x])[0 * n+a]? = some [a]
  rw[AJ,A3 (by omega)]
  simp
 | 2,_,[a,b],_=>
  have ha:=hx a (by simp)
  have hb:=hx b (by simp)
  have hlt:a * n+b < n * n:=by
   have:(a+1) * n<=n * n:=BV n ha
   rw[ER] at this
   omega
  show ((List.range (n * n)).map fun p=>[p / n,p % n])[(0 * n+a) * n+b]? = some [a,b]
  rw[Nat.zero_mul,Nat.zero_add,AJ,A3 hlt]
  have e1:(a * n+b) / n=a:=by rw[Cf,EW (by omega),EI hb,D9]
  have e2:(a * n+b) % n=b:=by rw[Cf,EV,EH hb]
  simp[e1,e2]
theorem Y0 {T U:Tb} (h:Sh T=Sh U):qc T=qc U:=by
 have e:∀ X:Tb,qc X=(Sh X).map Prod.fst:=fun X=>by
  unfold qc Sh
  rw[A2]
  rfl
 rw[e,e,h]
structure Hom (U T:Tb) (F:List Nat):Prop where
 len:F.length=U.m
 lt:∀ x ∈ F,x < T.m
 sh:Sh U=Sh T
 cell:∀ (c:Cn),c ∈ U.cs->∀ r,Tn.Rw U.m c.pl r->Tn.at' F (L4.cellOf U c.nm r)=L4.cellOf T c.nm (r.map (Tn.at' F))
 wish:∀ j,j < U.m->(j ∈ U.ws ↔ Tn.at' F j ∈ T.ws)
abbrev Stp:Type:=Cn×Nat×Option Nat
def xT (m:Nat) (c:Cn):List Stp:=(if c.pl=1 then [(c,0,none)] else [])++(if c.pl=2 then (List.range m).map (fun o=>(c,0,some o))++(List.range m).map (fun o=>(c,1,some o)) else [])
def ZO (T:Tb):List Stp:=T.cs.flatMap (xT T.m)
def jr (m:Nat) (s:Stp) (x:Nat):Nat:=match s.2.2 with
 | none=>Tn.at' s.1.cs x
 | some o=>if s.2.1=0 then Tn.at' s.1.cs (x * m+o) else Tn.at' s.1.cs (o * m+x)
def fsT (T:Tb):List (Nat->Nat):=(ZO T).map (jr T.m)
def mkT (T:Tb):List Nat:=Tn.mkN T.m T.ws (fsT T)
def j7 (T:Tb):List Nat:=Tn.reps T.m (mkT T)
def ZU (T:Tb):List Nat:=Tn.homes T.m (mkT T)
def zaC (m:Nat) (G F:List Nat) (c:Cn):Cn:=⟨c.nm,c.pl,(Tn.pls m G c.pl).map fun p=>Tn.at' F (Tn.at' c.cs p)⟩
def xU (T:Tb) (G F:List Nat):Tb:=⟨G.length,(List.range G.length).filter fun j=>decide (Tn.at' G j ∈ T.ws),T.cs.map (zaC T.m G F)⟩
def jc (T:Tb):Tb:=xU T (j7 T) (ZU T)
theorem map_sh (T:Tb) (G F:List Nat):Sh T=Sh (xU T G F):=by
 unfold Sh xU
 dsimp only
 rw[A2]
 rfl
theorem je {T:Tb} (g:zY T):Tn.Fix T.m T.ws (fsT T) (mkT T):=Tn.mkN_fix _ _ g.m1
theorem step1 {T:Tb} {c:Cn} (hc:c ∈ T.cs) (h:c.pl=1):(fun x=>Tn.at' c.cs x) ∈ fsT T:=
 AM.mpr ⟨(c,0,none),BN.mpr ⟨c,hc,Ah _ (by rw[if_pos h];exact AE.mpr rfl)⟩,rfl⟩
theorem step2 {T : Tb} {c : Cn} (hc : c ∈ T.cs) (h : c.pl = 2) {o : Nat} (ho : o < T.m) : (fun x => Tn.at' c.cs (x * T.m + o)) ∈ fsT T /\ (fun x => Tn.at' c.cs (o * T.m + x)) ∈ fsT T :=
  ⟨AM.mpr ⟨(c, 0, some o), BN.mpr ⟨c, hc, Aa _ (by rw [if_pos h]; exact Ah _ (AM.mpr ⟨o, Af.mpr ho, rfl⟩))⟩, rfl⟩,
   AM.mpr ⟨(c, 1, some o), BN.mpr ⟨c, hc, Aa _ (by rw [if_pos h]; exact Aa _ (AM.mpr ⟨o, Af.mpr ho, rfl⟩))⟩, rfl⟩⟩
theorem xL {T:Tb} (g:zY T) {c:Cn} (hc:c ∈ T.cs) {r:List Nat} (hr:Tn.Rw T.m c.pl r):Tn.at' (mkT T) (Tn.at' c.cs (Tn.place T.m (r.map (Tn.at' (mkT T)))))=Tn.at' (mkT T) (Tn.at' c.cs (Tn.place T.m r)):=by
 have fx:=je g
 have k2:=(g.cn c hc).2.1
 obtain⟨hl,hx⟩:=hr
 match hk:c.pl,r,hl with
 | 0,[],_=>rfl
 | 1,[a],_=>
  have ha:=hx a (by simp)
  have:=fx.step _ a (fx.mks.lt ha) ha (fx.mks.rep a ha) _ (step1 hc hk)
  simpa [Tn.place] using this
 | 2,[a,b],_=>
  have ha:=hx a (by simp)
  have hb:=hx b (by simp)
  have h1:=fx.step _ a (fx.mks.lt ha) ha (fx.mks.rep a ha) _ (step2 hc hk (fx.mks.lt hb)).1
  have h2:=fx.step _ b (fx.mks.lt hb) hb (fx.mks.rep b hb) _ (step2 hc hk ha).2
  have h3:=h1.trans h2
  simpa [Tn.place] using h3
 | k+3,_,_=>omega
theorem rep_ne {T:Tb} (g:zY T):1<=(j7 T).length:=by
 have h:=(je g).mks.mem_reps (i:=0) g.m1
 exact Dc h
theorem homT_len (T:Tb):(ZU T).length=T.m:=by
 unfold ZU Tn.homes
 rw[AB,AZ]
theorem QQ {T:Tb} (g:zY T) {i:Nat} (hi:i < T.m):Tn.at' (ZU T) i < (j7 T).length:=Tn.homes_lt (je g).mks hi
theorem zaD {T:Tb}:∀ x ∈ j7 T,x < T.m:=fun x hx=>(Tn.reps_mem.mp hx).1
theorem QB {T:Tb} (g:zY T):zY (jc T):=by
 refine⟨rep_ne g,Ab (Tn.reps_le _ _) g.m9,Cd _ Bw,fun x hx=>Af.mp (B4.mp hx).1,?_,fun c hc=>?_⟩
 ·show (T.cs.map _).length<=16
  rw[AB]
  exact g.cl
 ·obtain⟨d,hd,rfl⟩:=AM.mp hc
  obtain⟨a1,a2,a3⟩:=g.cn d hd
  refine⟨a1,a2,?_,fun x hx=>?_⟩
  ·show ((Tn.pls T.m (j7 T) d.pl).map _).length=(j7 T).length ^ d.pl
   rw[AB,Tn.pls_len]
  ·obtain⟨p,hp,rfl⟩:=AM.mp hx
   exact QQ g (a3.at_lt (Tn.pls_lt' zaD d.pl p hp))
theorem map_cell {T:Tb} {G F:List Nat} (g:zY T) (nT:(qc T).Nodup) {c:Cn} (hc:c ∈ T.cs) {r:List Nat} (hr:Tn.Rw G.length c.pl r):L4.cellOf (xU T G F) c.nm r=Tn.at' F (Tn.at' c.cs (Tn.place T.m (r.map (Tn.at' G)))):=by
 have nP:(qc (xU T G F)).Nodup:=Y0 (map_sh T G F) ▸ nT
 have hc':zaC T.m G F c ∈ (xU T G F).cs:=AM.mpr ⟨c,hc,rfl⟩
 have f2:findC (xU T G F) c.nm=some (zaC T.m G F c):=Zg nP hc'
 have k2:=(g.cn c hc).2.1
 unfold L4.cellOf
 rw[f2]
 show Tn.at' ((Tn.pls T.m G c.pl).map fun p=>Tn.at' F (Tn.at' c.cs p)) (Tn.place G.length r)=_
 rw[Tn.pls_rows k2,A2]
 show ((Tn.rowsR G.length c.pl).map _).getD (Tn.place G.length r) 0=_
 rw[Ao,AJ,rows_get k2 hr]
 rfl
theorem JV {T:Tb} (g:zY T) (nT:(qc T).Nodup):Hom T (jc T) (ZU T):=by
 have fx:=je g
 refine⟨homT_len T,fun x hx=>?_,map_sh T _ _,fun c hc r hr=>?_,fun j hj=>?_⟩
 ·obtain⟨i,hi,rfl⟩:=AM.mp hx
  have hi:=Af.mp hi
  have:=QQ g hi
  unfold ZU at this
  rw[Tn.homes_at hi] at this
  exact this
 ·have hF:Tn.Rw (j7 T).length c.pl (r.map (Tn.at' (ZU T))):=⟨by rw[AB];exact hr.1,fun x hx=>by
   obtain⟨y,hy,rfl⟩:=AM.mp hx
   exact QQ g (hr.2 y hy)⟩
  show _=L4.cellOf (xU T (j7 T) (ZU T)) c.nm _
  rw[map_cell g nT hc hF,A2]
  have e1:r.map (Tn.at' (j7 T) ∘ Tn.at' (ZU T))=r.map (Tn.at' (mkT T)):=CI fun x hx=>Tn.reps_home fx.mks (hr.2 x hx)
  rw[e1]
  have e2:L4.cellOf T c.nm r=Tn.at' c.cs (Tn.place T.m r):=by
   unfold L4.cellOf
   rw[Zg nT hc]
  rw[e2]
  have k3:=(g.cn c hc).2.2
  have hrM:Tn.Rw T.m c.pl (r.map (Tn.at' (mkT T))):=⟨by rw[AB];exact hr.1,fun x hx=>by
   obtain⟨y,hy,rfl⟩:=AM.mp hx
   exact fx.mks.lt (hr.2 y hy)⟩
  exact ((Tn.homes_eq fx.mks (k3.at_lt (Tn.place_lt _ _ hr)) (k3.at_lt (Tn.place_lt _ _ hrM))).mpr (xL g hc hr).symm)
 ·have h1:Tn.at' (ZU T) j ∈ (jc T).ws ↔ Tn.at' (j7 T) (Tn.at' (ZU T) j) ∈ T.ws:=by
   show _ ∈ (List.range (j7 T).length).filter _ ↔ _
   rw[B4,Af,decide_eq_true_iff]
   exact⟨fun h=>h.2,fun h=>⟨QQ g hj,h⟩⟩
  have e:Tn.at' (j7 T) (Tn.at' (ZU T) j)=Tn.at' (mkT T) j:=Tn.reps_home fx.mks hj
  rw[h1,e]
  exact (fx.wish _ j (fx.mks.lt hj) hj (fx.mks.rep j hj)).symm
theorem ZP {T:Tb} (g:zY T):∀ y,y < (jc T).m->∃ x,x < T.m/\Tn.at' (ZU T) x=y:=fun y hy=>⟨_,Tn.homes_reps (je g).mks hy⟩
theorem JW {T:Tb} (W:Nat->Nat->Prop) (hw:∀ a b,W a b->a < T.m/\b < T.m) (hp:∀ a b,W a b->(a ∈ T.ws ↔ b ∈ T.ws)) (hs:∀ a b,W a b->∀ s ∈ ZO T,W (jr T.m s a) (jr T.m s b)) {a b:Nat} (h:W a b):Tn.at' (mkT T) a=Tn.at' (mkT T) b:=by
 have all:∀ k a b,W a b->Tn.at' (Tn.itr T.m (fsT T) (Tn.mk0 T.m T.ws) k) a=Tn.at' (Tn.itr T.m (fsT T) (Tn.mk0 T.m T.ws) k) b:=by
  intro k
  induction k with
  | zero=>
   intro a b h
   obtain⟨ha,hb⟩:=hw a b h
   show Tn.at' (Tn.mk0 T.m T.ws) a=Tn.at' (Tn.mk0 T.m T.ws) b
   unfold Tn.mk0
   rw[Tn.fp_eq (x:=decide (a ∈ T.ws)) (y:=decide (b ∈ T.ws)) (by rw[AJ,A3 ha];rfl) (by rw[AJ,A3 hb];rfl)]
   simpa using hp a b h
  | succ k ih=>
   intro a b h
   obtain⟨ha,hb⟩:=hw a b h
   show Tn.at' (Tn.refn _ _ _) a=Tn.at' (Tn.refn _ _ _) b
   rw[Tn.refn_eq ha hb]
   refine⟨ih a b h,fun f hf=>?_⟩
   obtain⟨s,hs',rfl⟩:=AM.mp hf
   exact ih _ _ (hs a b h s hs')
 exact all T.m a b h
theorem QR {T:Tb} (g:zY T) {s:Stp} (hs:s ∈ ZO T) {x:Nat} (hx:x < T.m):jr T.m s x < T.m:=by
 obtain⟨c,hc,h⟩:=BN.mp hs
 obtain⟨_,_,h3⟩:=g.cn c hc
 have two:∀ a b,a < T.m->b < T.m->c.pl=2->Tn.at' c.cs (a * T.m+b) < T.m:=fun a b ha hb e=>by
  refine h3.at_lt ?_
  rw[e]
  have:(a+1) * T.m<=T.m * T.m:=BV _ ha
  rw[ER] at this
  show _ < T.m ^ 2
  rw[CQ,Cz]
  omega
 rcases AQ.mp h with h | h
 ·split at h
  ·rename_i e
   rw[AE.mp h]
   show Tn.at' c.cs x < T.m
   refine h3.at_lt ?_
   rw[e,Cz]
   exact hx
  ·cases h
 ·split at h
  ·rename_i e
   rcases AQ.mp h with h | h
   ·obtain⟨o,ho,rfl⟩:=AM.mp h
    show (if 0=0 then Tn.at' c.cs (x * T.m+o) else Tn.at' c.cs (o * T.m+x)) < T.m
    rw[if_pos rfl]
    exact two x o hx (Af.mp ho) e
   ·obtain⟨o,ho,rfl⟩:=AM.mp h
    show (if 1=0 then Tn.at' c.cs (x * T.m+o) else Tn.at' c.cs (o * T.m+x)) < T.m
    rw[if_neg (by decide)]
    exact two o x (Af.mp ho) hx e
  ·cases h
theorem wW {T:Tb} (g:zY T) {s:Stp} (hs:s ∈ ZO T) {a b:Nat} (ha:a < T.m) (hb:b < T.m) (h:Tn.at' (mkT T) a=Tn.at' (mkT T) b):Tn.at' (mkT T) (jr T.m s a)=Tn.at' (mkT T) (jr T.m s b):=
 (je g).step a b ha hb h _ (AM.mpr ⟨s,hs,rfl⟩)
theorem wX {T:Tb} (g:zY T) {a b:Nat} (ha:a < T.m) (hb:b < T.m) (h:Tn.at' (mkT T) a=Tn.at' (mkT T) b):a ∈ T.ws ↔ b ∈ T.ws:=(je g).wish a b ha hb h
theorem zaE {n k:Nat} (h:n ≠ k):¬ nV n=V.int (k:Int):=fun e=>by
 have:((n:Nat):Int)=(k:Int):=V.int.inj e
 omega
theorem nVV_ne {n k:Nat} (h:n ≠ k):¬ nV n=nV k:=zaE h
theorem zaF (xs ys:List Nat):Xx (xs.map nV) (ys.map nV)=decide (xs=ys):=by
 unfold Xx
 rw[AB,AB]
 induction xs generalizing ys with
 | nil=>cases ys <;> simp
 | cons x xs ih=>
  cases ys with
  | nil=>simp
  | cons y ys=>
   have:=ih ys
   rw[Ag,Ag,DM,CH,Aq,Aq]
   have e1:eqV (nV x) (nV y)=decide (x=y):=by
    show (((x:Int)) == (y:Int))=_
    rw[BX,beq_iff_eq,decide_eq_true_iff]
    omega
   have e2:(xs.length+1 == ys.length+1)=(xs.length == ys.length):=by
    rw[BX,beq_iff_eq,beq_iff_eq]
    omega
   show ((eqV (nV x) (nV y) && _) && _)=_
   rw[e1,e2,Bool.and_assoc,this,BX]
   simp
theorem wY {α:Type} [DecidableEq α] {xs:List α} {x y:α} {m:Nat} (h:m < xs.idxOf x) (hm:xs[m]? = some y):y ≠ x:=fun e=>by
 subst e
 have:=Tn.idx_le hm
 omega
def ixo {α:Type} [DecidableEq α] (xs:List α) (x:α):Nat:=xs.idxOf x
def nO:Option Nat->V
 | none=>.non
 | some o=>nV o
def stV (s:Stp):List V:=[.str s.1.nm,nV s.2.1,nO s.2.2]
def IsSt (H:Hp) (s:Stp) (v:V):Prop:=∃ t,v=.ref t/\H t=some (.tup (stV s))
abbrev Sts (H:Hp):List Stp->List V->Prop:=Paired (IsSt H)
theorem IsSt.tk {H H':Hp} (k:Tk H H') {s:Stp} {v:V} (h:IsSt H s v):IsSt H' s v:=by
 obtain⟨t,e,h⟩:=h
 exact⟨t,e,k _ _ h⟩
theorem Sts.tk {H H':Hp} (k:Tk H H') {ss:List Stp} {vs:List V} (h:Sts H ss vs):Sts H' ss vs:=Paired.imp' (fun _ _ z=>z.tk k) h
theorem Sts.app {H:Hp} {as bs:List Stp} {xs ys:List V} (h:Sts H as xs) (k:Sts H bs ys):Sts H (as++bs) (xs++ys):=by
 induction h with
 | nil=>exact k
 | cons r _ ih=>exact .cons r ih
theorem stpC_len {m:Nat} (h:m<=9) (c:Cn):(xT m c).length<=18:=by
 unfold xT
 rw[AH]
 by_cases e:c.pl=1
 ·rw[if_pos e,if_neg (by omega)]
  show 1+0<=18
  decide
 ·rw[if_neg e]
  by_cases e2:c.pl=2
  ·rw[if_pos e2,AH,AB,AB,AZ]
   show 0+(m+m)<=18
   omega
  ·rw[if_neg e2]
   show 0+0<=18
   decide
theorem WD {m:Nat} (h:m<=9):∀ cs:List Cn,(cs.flatMap (xT m)).length<=18 * cs.length
 | []=>AK _
 | c :: cs=>by
  have h1:=WD h cs
  have h2:=stpC_len h c
  rw[BR,AH,Aq]
  omega
theorem JX {T:Tb} {s:Stp} (h:s ∈ ZO T):∃ c ∈ T.cs,(c.pl=1/\s=(c,0,none))\/(c.pl=2/\∃ o,o < T.m/\(s=(c,0,some o)\/s=(c,1,some o))):=by
 obtain⟨c,hc,h⟩:=BN.mp h
 refine⟨c,hc,?_⟩
 rcases AQ.mp h with h | h
 ·split at h
  ·exact .inl ⟨by assumption,AE.mp h⟩
  ·cases h
 ·split at h
  ·refine .inr ⟨by assumption,?_⟩
   rcases AQ.mp h with h | h
   ·obtain⟨o,ho,e⟩:=AM.mp h
    exact⟨o,Af.mp ho,.inl e.symm⟩
   ·obtain⟨o,ho,e⟩:=AM.mp h
    exact⟨o,Af.mp ho,.inr e.symm⟩
  ·cases h
def Tps (H:Hp):List (List Nat)->List V->Prop:=Paired fun ns v=>∃ a,v=.ref a/\H a=some (.tup (ns.map nV))
theorem Tps.tk {H H':Hp} (k:Tk H H') {ns:List (List Nat)} {vs:List V} (h:Tps H ns vs):Tps H' ns vs:=Paired.imp' (fun _ _ z=>by obtain⟨a,e,h⟩:=z;exact⟨a,e,k _ _ h⟩) h
theorem Tps.snoc {H:Hp} {ns:List (List Nat)} {vs:List V} {n:List Nat} {a:Addr} (h:Tps H ns vs) (k:H a=some (.tup (n.map nV))):Tps H (ns++[n]) (vs++[.ref a]):=by
 unfold Tps at h ⊢
 induction h with
 | nil=>exact .cons ⟨a,rfl,k⟩ .nil
 | cons r _ ih=>exact .cons r ih
def Lld (D:Addr) (H:Hp):List (List Nat)->List V->Prop:=Paired fun ns v=>∃ a,v=.ref a/\a ≠ D/\H a=some (.lst (ns.map nV))
theorem Lld.same {D:Addr} {H H':Hp} (s:zD H H') {ns:List (List Nat)} {vs:List V} (h:Lld D H ns vs):Lld D H' ns vs:=Paired.imp' (fun _ _ z=>by obtain⟨a,e,n,h⟩:=z;exact⟨a,e,n,s _ _ h⟩) h
theorem Lld.put {D:Addr} {H:Hp} {o:HO} {ns:List (List Nat)} {vs:List V} (h:Lld D H ns vs):Lld D (upd H D o) ns vs:=Paired.imp' (fun _ _ z=>by obtain⟨a,e,n,h⟩:=z;exact⟨a,e,n,by rw[zI n];exact h⟩) h
theorem Lld.snoc {D:Addr} {H:Hp} {ns:List (List Nat)} {vs:List V} {n:List Nat} {a:Addr} (h:Lld D H ns vs) (ne:a ≠ D) (k:H a=some (.lst (n.map nV))):Lld D H (ns++[n]) (vs++[.ref a]):=by
 unfold Lld at h ⊢
 induction h with
 | nil=>exact .cons ⟨a,rfl,ne,k⟩ .nil
 | cons r _ ih=>exact .cons r ih
theorem Lld.lls {D:Addr} {H:Hp} {ns:List (List Nat)} {vs:List V} (h:Lld D H ns vs):Lls H (ns.map (List.map nV)) vs:=by
 unfold Lld at h
 unfold Lls
 induction h with
 | nil=>exact .nil
 | cons r _ ih=>
  obtain⟨a,e,_,k⟩:=r
  exact .cons ⟨a,e,k⟩ ih
theorem Lld.at {D:Addr} {H:Hp} {ns:List (List Nat)} {vs:List V} (h:Lld D H ns vs) {i:Nat} {n:List Nat} (e:ns[i]? = some n):∃ a,vs[i]? = some (.ref a)/\H a=some (.lst (n.map nV)):=by
 obtain⟨v,e1,a,rfl,_,k⟩:=qJ h e
 exact⟨a,e1,k⟩
theorem Lld.len {D:Addr} {H:Hp} {ns:List (List Nat)} {vs:List V} (h:Lld D H ns vs):vs.length=ns.length:=(Al h).symm
def WE:Sp:=fun vs H Q _=>∃ (v:V) (T:Tb),vs=[v]/\ZT H v T/\zY T/\∀ l xs H',H l=none->zD H H'->H' l=some (.lst xs)->Sts H' (ZO T) xs->Q (.ref l) H'
def QC:Sp:=fun vs H Q _=>∃ (e t:Addr) (T:Tb) (s:Stp) (x:Nat),vs=[.ref e,nV T.m,.ref t,nV x]/\xC H e T/\zY T/\s ∈ ZO T/\H t=some (.tup (stV s))/\x < T.m/\∀ H',zD H H'->Q (nV (jr T.m s x)) H'
def WF:Sp:=fun vs H Q _=>∃ (l:Addr) (bs:List Bool),vs=[.ref l]/\H l=some (.lst (bs.map V.bl))/\bs.length<=9/\∀ k H',zD H H'->H' k=some (.lst ((Tn.fp bs).map nV))->Q (.ref k) H'
def WG:Sp:=fun vs H Q _=>∃ (l D:Addr) (xs:List V) (nss:List (List Nat)) (n:Nat),vs=[.ref l]/\H l=some (.lst xs)/\Lld D H nss xs/\(∀ ns ∈ nss,ns.length=n)/\nss.length<=9/\∀ k H',zD H H'->H' k=some (.lst ((Tn.fp nss).map nV))->Q (.ref k) H'
def WH:Sp:=fun vs H Q _=>∃ (v:V) (l:Addr) (T:Tb) (ms:List Nat),vs=[v,.ref l]/\ZT H v T/\zY T/\(qc T).Nodup/\H l=some (.lst (ms.map nV))/\ms.length=T.m/\∀ k H',zD H H'->H' k=some (.lst ((Tn.refn T.m (fsT T) ms).map nV))->Q (.ref k) H'
def zaG:Sp:=fun vs H Q _=>∃ (l:Addr) (ms:List Nat) (r:Nat),vs=[.ref l,nV r]/\H l=some (.lst (ms.map nV))/\ms.length<=9/\∀ t H',zD H H'->H' t=some (.tup ((Tn.partF ms.length ms r).map nV))->Q (.ref t) H'
def ptsT (T:Tb):List (List Nat):=(j7 T).map (Tn.partF T.m (mkT T))
def WI:Sp:=fun vs H Q _=>∃ (v:V) (T:Tb),vs=[v]/\ZT H v T/\zY T/\(qc T).Nodup/\∀ t xs H',zD H H'->H' t=some (.tup xs)->Tps H' (ptsT T) xs->Q (.ref t) H'
abbrev Pr:Type:=Nat×Nat
def pk (z:Pr):List Key:=[Sum.inl (z.1:Int),Sum.inl (z.2:Int)]
theorem pk_inj {y z:Pr} (h:pk y=pk z):y=z:=by
 unfold pk at h
 obtain⟨h1,h2⟩:=Dt h
 obtain⟨h3,_⟩:=Dt h2
 have e1:(y.1:Int)=z.1:=EN h1
 have e2:(y.2:Int)=z.2:=EN h3
 exact Prod.ext (by omega) (by omega)
def Pr2 (H:Hp):List Pr->List V->Prop:=Paired fun z v=>∃ t,v=.ref t/\H t=some (.tup [nV z.1,nV z.2])
theorem Pr2.tk {H H':Hp} (k:Tk H H') {ps:List Pr} {vs:List V} (h:Pr2 H ps vs):Pr2 H' ps vs:=Paired.imp' (fun _ _ z=>by obtain⟨a,e,h⟩:=z;exact⟨a,e,k _ _ h⟩) h
theorem Pr2.snoc {H:Hp} {ps:List Pr} {vs:List V} {z:Pr} {t:Addr} (h:Pr2 H ps vs) (k:H t=some (.tup [nV z.1,nV z.2])):Pr2 H (ps++[z]) (vs++[.ref t]):=by
 unfold Pr2 at h ⊢
 induction h with
 | nil=>exact .cons ⟨t,rfl,k⟩ .nil
 | cons r _ ih=>exact .cons r ih
def nxt (m:Nat) (s:Stp) (z:Pr):Pr:=(jr m s z.1,jr m s z.2)
def wlk (m:Nat) (ss:List Stp) (o:Pr):Pr:=ss.foldl (fun z s=>nxt m s z) o
structure Wy (H:Hp) (X:Tb×Pr) (kvs:List (List Key×V)) (W:List Pr):Prop where
 keys:kvs.map Prod.fst=W.map pk
 nd:W.Nodup
 lt:∀ z ∈ W,z.1 < X.1.m/\z.2 < X.1.m
 val:∀ z ∈ W,∃ t xs ss,jo kvs (pk z)=some (.ref t)/\H t=some (.tup xs)/\xs.length < W.length/\Sts H ss xs/\(∀ s ∈ ss,s ∈ ZO X.1)/\wlk X.1.m ss X.2=z
theorem Wy.tk {H H':Hp} {X:Tb×Pr} {kvs:List (List Key×V)} {W:List Pr} (h:Wy H X kvs W) (k:Tk H H'):Wy H' X kvs W:=by
 refine⟨h.keys,h.nd,h.lt,fun z hz=>?_⟩
 obtain⟨t,xs,ss,e1,e2,e3,e4,e5,e6⟩:=h.val z hz
 exact⟨t,xs,ss,e1,k _ _ e2,e3,Sts.tk k e4,e5,e6⟩
theorem Wy.mem {H:Hp} {X:Tb×Pr} {kvs:List (List Key×V)} {W:List Pr} (h:Wy H X kvs W) (z:Pr):(kvs.any fun kv=>decide (kv.1=pk z))=decide (z ∈ W):=by
 rw[BX,Cj,decide_eq_true_iff]
 constructor
 ·rintro⟨kv,hkv,e⟩
  have e:=Ak e
  have:pk z ∈ kvs.map Prod.fst:=e ▸ AM.mpr ⟨kv,hkv,rfl⟩
  rw[h.keys] at this
  obtain⟨y,hy,e2⟩:=AM.mp this
  rw[<- pk_inj e2]
  exact hy
 ·intro hz
  have:pk z ∈ kvs.map Prod.fst:=by rw[h.keys];exact AM.mpr ⟨z,hz,rfl⟩
  obtain⟨kv,hkv,e⟩:=AM.mp this
  exact⟨kv,hkv,Ai e⟩
theorem Wy.some_iff {H:Hp} {X:Tb×Pr} {kvs:List (List Key×V)} {W:List Pr} (h:Wy H X kvs W) (z:Pr):(jo kvs (pk z)).isSome=decide (z ∈ W):=by
 rw[<- h.mem z,ZL]
theorem Wy.add {H:Hp} {X:Tb×Pr} {kvs:List (List Key×V)} {W:List Pr} (h:Wy H X kvs W) {z:Pr} (hz:z ∉ W) (hl:z.1 < X.1.m/\z.2 < X.1.m) {t:Addr} {xs:List V} (ht:H t=some (.tup xs)) (hx:xs.length<=W.length) {ss:List Stp} (hss:Sts H ss xs) (hsm:∀ s ∈ ss,s ∈ ZO X.1) (hw:wlk X.1.m ss X.2=z):Wy H X (jX kvs (pk z) (.ref t)) (W++[z]):=by
 refine⟨?_,?_,fun y hy=>?_,fun y hy=>?_⟩
 ·unfold jX
  rw[h.mem z,if_neg (by rw[Aw hz];exact AS),AL,h.keys,AL]
  rfl
 ·rw[EA]
  refine⟨h.nd,by simp,fun a ha b hb e=>?_⟩
  rw[AE.mp hb] at e
  exact hz (e ▸ ha)
 ·rcases AQ.mp hy with hy | hy
  ·exact h.lt y hy
  ·rw[AE.mp hy]
   exact hl
 ·rw[AH,List.length_singleton,Qp]
  rcases AQ.mp hy with hy | hy
  ·obtain⟨t',xs',ss',e1,e2,e3,e4⟩:=h.val y hy
   rw[if_neg (fun e=>hz (by rw[<- pk_inj e];exact hy))]
   exact⟨t',xs',ss',e1,e2,by omega,e4⟩
  ·rw[AE.mp hy,if_pos rfl]
   exact⟨t,xs,ss,rfl,ht,by omega,hss,hsm,hw⟩
theorem Wy.count {H:Hp} {X:Tb×Pr} {kvs:List (List Key×V)} {W:List Pr} (h:Wy H X kvs W):W.length<=X.1.m * X.1.m:=by
 have nd:(W.map fun z=>z.1 * X.1.m+z.2).Nodup:=by
  unfold List.Nodup
  rw[CW]
  refine List.Pairwise.imp_of_mem (fun {a b} ha hb hab e=>hab ?_) h.nd
  obtain⟨a1,a2⟩:=h.lt a ha
  obtain⟨b1,b2⟩:=h.lt b hb
  have m0:0 < X.1.m:=by omega
  have e1:(a.1 * X.1.m+a.2) / X.1.m=a.1:=by rw[Cf,EW m0,EI a2,D9]
  have e2:(b.1 * X.1.m+b.2) / X.1.m=b.1:=by rw[Cf,EW m0,EI b2,D9]
  have e3:(a.1 * X.1.m+a.2) % X.1.m=a.2:=by rw[Cf,EV,EH a2]
  have e4:(b.1 * X.1.m+b.2) % X.1.m=b.2:=by rw[Cf,EV,EH b2]
  refine Prod.ext ?_ ?_
  ·rw[<- e1,<- e2,e]
  ·rw[<- e3,<- e4,e]
 have:=Tn.nodup_len (X.1.m * X.1.m) _ nd fun x hx=>by
  obtain⟨z,hz,rfl⟩:=AM.mp hx
  obtain⟨z1,z2⟩:=h.lt z hz
  have h3:(z.1+1) * X.1.m<=X.1.m * X.1.m:=BV _ z1
  rw[ER] at h3
  omega
 rwa [AB] at this
theorem Wy.len {H:Hp} {X:Tb×Pr} {kvs:List (List Key×V)} {W:List Pr} (h:Wy H X kvs W):kvs.length=W.length:=by
 have:=BQ List.length h.keys
 rwa [AB,AB] at this
theorem wish_dec (a b:Nat) (ws:List Nat):decide (V.bl (decide (a ∈ ws))=V.bl (decide (b ∈ ws)))=decide (a ∈ ws ↔ b ∈ ws):=by
 rw[BX,decide_eq_true_iff,decide_eq_true_iff,V.bl.injEq,BX,decide_eq_true_iff,decide_eq_true_iff]
theorem sq81 {m:Nat} (h:m<=9):m * m<=81:=Do h h
def Of2 (a b:Addr) (H H':Hp):Prop:=∀ c o,c ≠ a->c ≠ b->H c=some o->H' c=some o
theorem Of2.of {a b:Addr} {H H':Hp} (s:zD H H'):Of2 a b H H':=fun c o _ _ h=>s c o h
theorem Of2.trans {a b:Addr} {H H1 H2:Hp} (x:Of2 a b H H1) (y:Of2 a b H1 H2):Of2 a b H H2:=fun c o n1 n2 h=>y c o n1 n2 (x c o n1 n2 h)
theorem Of2.putA {a b:Addr} {H:Hp} {o:HO}:Of2 a b H (upd H a o):=fun c u n1 _ h=>by rw[zI n1];exact h
theorem Of2.putB {a b:Addr} {H:Hp} {o:HO}:Of2 a b H (upd H b o):=fun c u _ n2 h=>by rw[zI n2];exact h
theorem Of2.tk {a b:Addr} {H H':Hp} (x:Of2 a b H H') (ha:∀ xs,H a ≠ some (.tup xs)) (hb:∀ xs,H b ≠ some (.tup xs)):Tk H H':=fun c xs h=>x c _ (fun z=>ha xs (z ▸ h)) (fun z=>hb xs (z ▸ h)) h
theorem Y1 {a b e:Addr} {H H':Hp} {T:Tb} (h:xC H e T) (o:Of2 a b H H') (n1:e ≠ a) (n2:e ≠ b) (k:Tk H H'):xC H' e T:=by
 obtain⟨kvs,h1,h2⟩:=h
 refine⟨kvs,o _ _ n1 n2 h1,fun c hc=>?_⟩
 obtain⟨u,e1,e2⟩:=h2 c hc
 exact⟨u,e1,k _ _ e2⟩
theorem Tk.putD {t:Addr} {H:Hp} {kvs:List (List Key×V)} {o:HO} (h:H t=some (.dT kvs)):Tk H (upd H t o):=fun c u q=>by rw[zI (Y5 q h (by intro z;cases z))];exact q
def Yo:Sp:=fun vs H Q _=>∃ (v:V) (e wy pl:Addr) (T:Tb) (kvs:List (List Key×V)) (us:List V) (W P:List Pr) (o:Pr),vs=[v,.ref e,.ref wy,.ref pl]/\ZT H v T/\zY T/\xC H e T/\e ≠ wy/\H wy=some (.dT kvs)/\Wy H (T,o) kvs W/\H pl=some (.lst us)/\Pr2 H P us/\(∀ z ∈ P,z ∈ W) /\
 ∀ l us' R kvs' H',Off wy H H'->H' wy=some (.dT kvs')->Wy H' (T,o) kvs' (W++R)->H' l=some (.lst us')->Pr2 H' R us'->(∀ z ∈ R,∃ p ∈ P,∃ s ∈ ZO T,z=nxt T.m s p)->(∀ p ∈ P,∀ s ∈ ZO T,nxt T.m s p ∈ W++R)->Q (.ref l) H'
def JY:Sp:=fun vs H Q _=>∃ (v:V) (T:Tb) (x y:Nat),vs=[v,nV x,nV y]/\ZT H v T/\zY T/\(qc T).Nodup/\x < T.m/\y < T.m/\(Tn.at' (mkT T) x=Tn.at' (mkT T) y->∀ H',zD H H'->Q .non H')/\(¬ Tn.at' (mkT T) x=Tn.at' (mkT T) y->∀ t xs ss H',zD H H'->H' t=some (.tup xs)->Sts H' ss xs->(∀ s ∈ ss,s ∈ ZO T)->ss.length<=100->¬ ((wlk T.m ss (x,y)).1 ∈ T.ws ↔ (wlk T.m ss (x,y)).2 ∈ T.ws)->Q (.ref t) H')
def yA (m:Nat) (ss:List Stp) (x:Nat):Nat:=ss.foldl (fun y s=>jr m s y) x
theorem zaH (m:Nat):∀ (ss:List Stp) (z:Pr),wlk m ss z=(yA m ss z.1,yA m ss z.2)
 | [],z=>rfl
 | s :: ss,z=>by
  show wlk m ss (nxt m s z)=_
  rw[zaH m ss]
  rfl
theorem WJ {T:Tb} (g:zY T):∀ (ss:List Stp) {x:Nat},(∀ s ∈ ss,s ∈ ZO T)->x < T.m->yA T.m ss x < T.m
 | [],x,_,hx=>hx
 | s :: ss,x,h,hx=>WJ g ss (fun s' hs'=>h s' (AY _ hs')) (QR g (h s AW) hx)
theorem wZ (m:Nat) (ss:List Stp) (s:Stp) (x:Nat):yA m (ss++[s]) x=jr m s (yA m ss x):=by
 unfold yA
 rw[EB]
 rfl
def JZ:Sp:=fun vs H Q _=>∃ (gs:Addr) (m k:Nat) (G:List Nat),vs=[nV m,.ref gs,nV k]/\m<=9/\k<=2/\H gs=some (.lst (G.map nV))/\G.length<=9/\∀ l H',zD H H'->H' l=some (.lst ((Tn.pls m G k).map nV))->Q (.ref l) H'
theorem yB {v:V} {y:Nat}:∀ (P:List Nat) (acc:List (Key×V)),jo (putAll acc (P.map fun (x:Nat)=>((Sum.inl (x:Int):Key),v))) (Sum.inl (y:Int))=if y ∈ P then some v else jo acc (Sum.inl (y:Int))
 | [],acc=>by
  rw[if_neg (by simp)]
  rfl
 | x :: P,acc=>by
  show jo (putAll (jX acc (Sum.inl (x:Int)) v) (P.map fun (x:Nat)=>((Sum.inl (x:Int):Key),v))) (Sum.inl (y:Int))=_
  rw[yB P,Qp]
  by_cases h:y ∈ P
  ·rw[if_pos h,if_pos (AY _ h)]
  ·rw[if_neg h]
   by_cases e:y=x
   ·rw[if_pos (by rw[e]),if_pos (by rw[e];exact AW)]
   ·rw[if_neg (fun z=>e (by have:=EN z;omega)),if_neg (fun z=>by
     rcases AV.mp z with z | z
     ·exact e z
     ·exact h z)]
def J1:Sp:=fun vs H Q _=>∃ (v:V) (ol nw:Addr) (T:Tb) (G F:List Nat) (kvs:List (Key×V)),vs=[v,.ref ol,.ref nw]/\ZT H v T/\zY T/\H ol=some (.lst (G.map nV))/\G.length<=9/\(∀ x ∈ G,x < T.m)/\H nw=some (.dK kvs)/\(∀ x,x < T.m->jo kvs (Sum.inl (x:Int))=some (nV (Tn.at' F x)))/\∀ u H',zD H H'->ZT H' u (xU T G F)->Q u H'
def WK:Sp:=fun vs H Q _=>∃ (v:V) (T:Tb),vs=[v]/\ZT H v T/\zY T/\(qc T).Nodup/\∀ u H',zD H H'->ZT H' u (jc T)->Q u H'
theorem zaI {T:Tb} (g:zY T):(List.range T.m).filter (fun j=>decide (j ∈ T.ws))=T.ws:=Tn.sub_range g.ris g.wlt
theorem step_hom {T U:Tb} {F:List Nat} (h:Hom T U F) (gT:zY T) (nT:(qc T).Nodup) (nU:(qc U).Nodup) {s:Stp} (hs:s ∈ ZO T):∃ s' ∈ ZO U,∀ a,a < T.m->Tn.at' F (jr T.m s a)=jr U.m s' (Tn.at' F a):=by
 obtain⟨c,hc,hcs⟩:=JX hs
 obtain⟨c',hc',e1,e2⟩:∃ c' ∈ U.cs,c'.nm=c.nm/\c'.pl=c.pl:=by
  have:(c.nm,c.pl) ∈ Sh U:=by rw[<- h.sh];exact AM.mpr ⟨c,hc,rfl⟩
  obtain⟨c',hc',e⟩:=AM.mp this
  exact⟨c',hc',BQ Prod.fst e,BQ Prod.snd e⟩
 have ct:∀ r,L4.cellOf T c.nm r=Tn.at' c.cs (Tn.place T.m r):=fun r=>by
  unfold L4.cellOf
  rw[Zg nT hc]
 have cu:∀ r,L4.cellOf U c.nm r=Tn.at' c'.cs (Tn.place U.m r):=fun r=>by
  unfold L4.cellOf
  rw[<- e1,Zg nU hc']
 have Flt:∀ a,a < T.m->Tn.at' F a < U.m:=fun a ha=>h.lt _ (AI (Tn.at_map (by rw[h.len];exact ha)))
 rcases hcs with ⟨p1,rfl⟩ | ⟨p2,o,ho,hs2⟩
 ·refine⟨(c',0,none),BN.mpr ⟨c',hc',Ah _ (by rw[if_pos (e2.trans p1)];exact AE.mpr rfl)⟩,fun a ha=>?_⟩
  have:=h.cell c hc [a] ⟨p1.symm,fun x hx=>by rw[AE.mp hx];exact ha⟩
  rw[ct,Ag,Cg,cu] at this
  simpa [Tn.place,jr] using this
 ·rcases hs2 with rfl | rfl
  ·refine⟨(c',0,some (Tn.at' F o)),BN.mpr ⟨c',hc',Aa _ (by rw[if_pos (e2.trans p2)];exact Ah _ (AM.mpr ⟨_,Af.mpr (Flt o ho),rfl⟩))⟩,fun a ha=>?_⟩
   have:=h.cell c hc [a,o] ⟨p2.symm,fun x hx=>by
    rcases AV.mp hx with rfl | hx
    ·exact ha
    ·rw[AE.mp hx];exact ho⟩
   rw[ct,Ag,Ag,Cg,cu] at this
   simpa [Tn.place,jr] using this
  ·refine⟨(c',1,some (Tn.at' F o)),BN.mpr ⟨c',hc',Aa _ (by rw[if_pos (e2.trans p2)];exact Aa _ (AM.mpr ⟨_,Af.mpr (Flt o ho),rfl⟩))⟩,fun a ha=>?_⟩
   have:=h.cell c hc [o,a] ⟨p2.symm,fun x hx=>by
    rcases AV.mp hx with rfl | hx
    ·exact ho
    ·rw[AE.mp hx];exact ha⟩
   rw[ct,Ag,Ag,Cg,cu] at this
   simpa [Tn.place,jr] using this
theorem shr_un {T:Tb} (g:zY T) (nT:(qc T).Nodup) {x y:Nat} (hx:x < (jc T).m) (hy:y < (jc T).m) (e:Tn.at' (mkT (jc T)) x=Tn.at' (mkT (jc T)) y):x=y:=by
 have h:=JV g nT
 have gU:=QB g
 have nU:(qc (jc T)).Nodup:=by rw[<- Y0 h.sh];exact nT
 have Flt:∀ a,a < T.m->Tn.at' (ZU T) a < (jc T).m:=fun a ha=>QQ g ha
 obtain⟨a,ha,rfl⟩:=ZP g x hx
 obtain⟨b,hb,rfl⟩:=ZP g y hy
 have al:=JW (T:=T) (fun a b=>a < T.m/\b < T.m/\Tn.at' (mkT (jc T)) (Tn.at' (ZU T) a)=Tn.at' (mkT (jc T)) (Tn.at' (ZU T) b)) (fun a b h=>⟨h.1,h.2.1⟩) (fun a b w=>by
  rw[h.wish a w.1,h.wish b w.2.1]
  exact wX gU (Flt a w.1) (Flt b w.2.1) w.2.2) (fun a b w s hs=>by
  obtain⟨s',hs',es⟩:=step_hom h g nT nU hs
  refine⟨QR g hs w.1,QR g hs w.2.1,?_⟩
  rw[es a w.1,es b w.2.1]
  exact wW gU hs' (Flt a w.1) (Flt b w.2.1) w.2.2) ⟨ha,hb,e⟩
 exact (Tn.homes_eq (je g).mks ha hb).mpr al
theorem Y2 {n i:Nat} (h:i < n):Tn.at' (List.range n) i=i:=by
 unfold Tn.at'
 rw[Ao,A3 h]
 rfl
theorem zaJ {n i:Nat} (h:i < n):(List.range n).idxOf i=i:=by
 have h1:i ∈ List.range n:=Af.mpr h
 have h2:=Tn.idx_get h1
 have h3:=AC.mp h2
 obtain⟨h4,h5⟩:=h3
 rwa [List.getElem_range] at h5
theorem shr_reps {T:Tb} (g:zY T) (nT:(qc T).Nodup):j7 (jc T)=List.range (jc T).m/\ZU (jc T)=List.range (jc T).m:=by
 have gU:=QB g
 have fx:=je gU
 have id:∀ x,x < (jc T).m->Tn.at' (mkT (jc T)) x=x:=fun x hx=>shr_un g nT (fx.mks.lt hx) hx (fx.mks.rep x hx)
 have r:j7 (jc T)=List.range (jc T).m:=by
  unfold j7 Tn.reps
  rw[List.filter_eq_self]
  intro x hx
  exact Ai (id x (Af.mp hx))
 refine⟨r,?_⟩
 unfold ZU Tn.homes
 have r':Tn.reps (jc T).m (mkT (jc T))=List.range (jc T).m:=r
 rw[r']
 have:(List.range (jc T).m).map (fun i=>(List.range (jc T).m).idxOf (Tn.at' (mkT (jc T)) i))=(List.range (jc T).m).map fun i=>i:=CI fun i hi=>by
  rw[id i (Af.mp hi),zaJ (Af.mp hi)]
 rw[this,List.map_id']
theorem w4 (m:Nat):∀ n:Nat,(List.range n).flatMap (fun p=>(List.range m).map fun g=>p * m+g)=List.range (n * m)
 | 0=>by simp
 | n+1=>by
  rw[Bj,BG,w4 m n,C4,Bv,List.range_add]
theorem yC (m:Nat):∀ k,Tn.pls m (List.range m) k=List.range (m ^ k)
 | 0=>rfl
 | k+1=>by
  show (Tn.pls m (List.range m) k).flatMap (fun p=>(List.range m).map fun g=>p * m+g)=_
  rw[yC m k,w4,CQ]
theorem zaK {U:Tb} (g:zY U):xU U (List.range U.m) (List.range U.m)=U:=by
 have e1:(List.range U.m).length=U.m:=AZ
 have e2:((List.range U.m).filter fun j=>decide (Tn.at' (List.range U.m) j ∈ U.ws))=U.ws:=by
  have:((List.range U.m).filter fun j=>decide (Tn.at' (List.range U.m) j ∈ U.ws))=(List.range U.m).filter fun j=>decide (j ∈ U.ws):=List.filter_congr fun j hj=>by rw[Y2 (Af.mp hj)]
  rw[this,zaI g]
 have e3:U.cs.map (zaC U.m (List.range U.m) (List.range U.m))=U.cs:=by
  have:U.cs.map (zaC U.m (List.range U.m) (List.range U.m))=U.cs.map fun c=>c:=CI fun c hc=>by
   obtain⟨_,_,c3⟩:=g.cn c hc
   have ec:((Tn.pls U.m (List.range U.m) c.pl).map fun p=>Tn.at' (List.range U.m) (Tn.at' c.cs p))=c.cs:=by
    rw[yC]
    refine CB fun i=>?_
    rw[AJ]
    by_cases hi:i < U.m ^ c.pl
    ·rw[A3 hi,Tn.at_map (by rw[c3.len];exact hi)]
     show some (Tn.at' (List.range U.m) (Tn.at' c.cs i))=_
     rw[Y2 (c3.at_lt hi)]
    ·rw[BB (by rw[AZ];omega),BB (by rw[c3.len];omega)]
     rfl
   unfold zaC
   rw[ec]
  rw[this,List.map_id']
 unfold xU
 rw[e1,e2,e3]
theorem shr_idem {T:Tb} (g:zY T) (nT:(qc T).Nodup):jc (jc T)=jc T:=by
 obtain⟨r,h⟩:=shr_reps g nT
 show xU (jc T) (j7 (jc T)) (ZU (jc T))=jc T
 rw[r,h]
 exact zaK (QB g)
theorem zaL {T U:Tb} {F:List Nat} (h:Hom T U F) (g:zY T) (nT:(qc T).Nodup):HomN T T U (Tn.at' F):=⟨fun c hc r hr=>⟨(h.cell c hc r hr).symm,g.cell_lt nT hc hr⟩,fun x hx=>h.lt _ (AI (Tn.at_map (by rw[h.len];exact hx))),fun x hx=>h.wish x hx⟩
theorem fol_shr {T:Tb} (g:zY T) (nT:(qc T).Nodup) {L:List Str} {ps:List Sy} {S:Sy} (hp:∀ p ∈ ps,GSt T L p) (hS:GSt T L S):Fol (jc T) ps S ↔ Fol T ps S:=by
 have hh:=zaL (JV g nT) g nT
 refine⟨fun f=>hh.fol hp hS f,fun f γ gd b=>?_⟩
 obtain⟨pre,hpre⟩:∃ pre:Nat->Nat,∀ y,y < (jc T).m->pre y < T.m/\Tn.at' (ZU T) (pre y)=y:=⟨fun y=>if h:y < (jc T).m then (ZP g y h).choose else 0,fun y h=>by
  show (if h:y < (jc T).m then (ZP g y h).choose else 0) < T.m/\Tn.at' (ZU T) (if h:y < (jc T).m then (ZP g y h).choose else 0)=y
  rw[dif_pos h]
  exact (ZP g y h).choose_spec⟩
 have gd':Gd T fun x=>pre (γ x):=fun x=>(hpre _ (gd x)).1
 have e:(fun x=>Tn.at' (ZU T) (pre (γ x)))=γ:=funext fun x=>(hpre _ (gd x)).2
 refine f _ gd' ⟨fun p hp'=>?_,fun h=>?_⟩
 ·obtain⟨e1,e2⟩:=hh.gr gd' (hp p hp')
  rw[hh.ws _ e2,<- e1,e]
  exact b.1 p hp'
 ·obtain⟨e1,e2⟩:=hh.gr gd' hS
  rw[hh.ws _ e2,<- e1,e] at h
  exact b.2 h
theorem gr_alike {T:Tb} (g:zY T) (nT:(qc T).Nodup) {L:List Str} {S:Sy} (hS:GSt T L S) {γ δ:Str->Nat} (hγ:Gd T γ) (hδ:Gd T δ) (h:∀ x,Tn.at' (mkT T) (γ x)=Tn.at' (mkT T) (δ x)):grT T γ S ∈ T.ws ↔ grT T δ S ∈ T.ws:=by
 have hh:=zaL (JV g nT) g nT
 obtain⟨e1,l1⟩:=hh.gr hγ hS
 obtain⟨e2,l2⟩:=hh.gr hδ hS
 have e:(fun x=>Tn.at' (ZU T) (γ x))=fun x=>Tn.at' (ZU T) (δ x):=funext fun x=>(Tn.homes_eq (je g).mks (hγ x) (hδ x)).mpr (h x)
 rw[hh.ws _ l1,hh.ws _ l2,<- e1,<- e2,e]
theorem zaM {T:Tb} (g:zY T) (nT:(qc T).Nodup) {x y:Nat} (hx:x < (jc T).m) (hy:y < x):¬ Tn.at' (mkT (jc T)) x=Tn.at' (mkT (jc T)) y:=fun e=>by
 have:=shr_un g nT hx (by omega) e
 omega
theorem shr_same {T:Tb} (g:zY T) (nT:(qc T).Nodup):jc (jc T)=jc T:=shr_idem g nT
theorem sq_lt {m x o:Nat} (hx:x < m) (ho:o < m):x * m+o < m ^ 2:=by
 rw[EO]
 have:=BV m (show x+1<=m from hx)
 rw[Bv] at this
 omega
theorem at_sq {m x o:Nat} {cs:List Nat} (h:cs.length=m ^ 2) (hx:x < m) (ho:o < m):atI (cs.map nV) ((x:Int) * (m:Int)+(o:Int))=some (nV (Tn.at' cs (x * m+o))):=by
 rw[show ((x:Int) * (m:Int)+(o:Int))=((x * m+o:Nat):Int) by rw[Dk,DH]]
 exact Zf (by rw[h];exact sq_lt hx ho)
theorem zaN {P:List Nat} (h:0 < P.length) (b:Bool):(P.map fun _=>b).any id=b/\(P.map fun _=>b).all id=b:=by
 induction P with
 | nil=>cases h
 | cons x P ih=>
  cases P with
  | nil=>cases b <;> exact⟨rfl,rfl⟩
  | cons y P=>
   obtain⟨h1,h2⟩:=ih (Nat.succ_pos _)
   rw[Ag,By,CH,h1,h2]
   cases b <;> exact⟨rfl,rfl⟩
theorem Y3 {k:Nat}:∀ (rs:List (Addr×List V)),(∀ z ∈ rs,∃ ns:List Nat,z.2=ns.map nV/\ns.length=k/\∀ x ∈ ns,x < k)->∃ ns:List Nat,rs.flatMap Prod.snd=ns.map nV/\ns.length=rs.length * k/\∀ x ∈ ns,x < k
 | [],_=>⟨[],rfl,by simp,fun x hx=>by cases hx⟩
 | z :: rs,h=>by
  obtain⟨ns,e1,e2,e3⟩:=h z AW
  obtain⟨ms,f1,f2,f3⟩:=Y3 rs fun y hy=>h y (AY _ hy)
  refine⟨ns++ms,by rw[BR,f1,e1,AL],by rw[AH,e2,f2,Aq,Bv,Nat.add_comm],fun x hx=>?_⟩
  rcases AQ.mp hx with hx | hx
  ·exact e3 x hx
  ·exact f3 x hx
theorem cut_row (cs:List Nat) (o m:Nat) (h:o * m+m<=cs.length):wc (cs.map nV) (some ((o:Int) * (m:Int))) (some ((o:Int) * (m:Int)+(m:Int)))=((cs.drop (o * m)).take m).map nV:=by
 rw[show ((o:Int) * (m:Int))=((o * m:Nat):Int) by rw[DH],show (((o * m:Nat):Int)+(m:Int))=((o * m+m:Nat):Int) by omega,Yk (o * m) (o * m+m) (by rw[AB];exact h) (by omega),<- DE,<- DD,show o * m+m - o * m=m by omega]
def zaO:Sp:=fun vs H Q _=>∃ (v:V) (t:Addr) (T:Tb) (s:Stp) (x:Nat),vs=[v,.ref t,nV x]/\ZT H v T/\zY T/\(qc T).Nodup/\s ∈ ZO T/\H t=some (.tup (stV s))/\x < T.m/\∀ H',zD H H'->Q (nV (jr T.m s x)) H'
def Yp:Sp:=fun vs H Q _=>∃ (v:V) (T:Tb) (n:Nat),vs=[v,nV n]/\ZT H v T/\zY T/\(qc T).Nodup/\T.m<=4/\T.cs.length<=3/\∀ u U H',zD H H'->ZT H' u U->zY U->(qc U).Nodup->U.m<=5->U.cs.length<=3->Q u H'
def spSBP:Sp:=fun vs H Q _=>∃ (v:V) (tp:Addr) (sv:V) (T:Tb) (xs:List V) (L:List Str) (S:Sy),vs=[v,.ref tp,sv]/\ZT H v T/\zY T/\(qc T).Nodup/\T.m<=5/\H tp=some (.tup xs)/\Tps H (ptsT T) xs/\jL H S sv/\Few T L S/\L.length<=2/\∀ H',zD H H'->Q (.bl true) H'
def J2:Sp:=fun vs H Q _=>∃ (v:V) (T:Tb),vs=[v]/\ZT H v (jc T)/\zY T/\(qc T).Nodup/\∀ H',zD H H'->Q (.bl true) H'
def top (i:Nat):Stmt:=PySem.Challenge.pw_truthgrades_k96_whole_shrunk_tables_say.main.body.getD i (.Pass ⟨0,0,0,0⟩)
structure Gb (mg:Str->Option Value):Prop where
 «abs» : mg "abs" = none
 «range» : mg "range" = none
 «tuple» : mg "tuple" = none
 «list» : mg "list" = none
 «isinstance» : mg "isinstance" = none
 «int» : mg "int" = none
 «str» : mg "str" = none
 «len» : mg "len" = none
 «all» : mg "all" = none
 «any» : mg "any" = none
 «dict» : mg "dict" = none
 «set» : mg "set" = none
 «sorted» : mg "sorted" = none
 «reversed» : mg "reversed" = none
 «sum» : mg "sum" = none
 «enumerate» : mg "enumerate" = none
abbrev zV:Stmt:=top 5
theorem jN:zC ["text"] ["text"] (zo zV):=⟨rfl,rfl,rfl,by decide +kernel,rfl,by decide +kernel,by decide +kernel⟩
theorem jO {P:Program} {w:World} {K:PySem.W.Frag} {mg:Str->Option Value} {base:Heap} {f:Addr} {fd:FuncData} (F:Fun K "has_small_letters_alone" "has_small_letters_alone" zV f fd) (gb:Gb mg):jt P w K mg base CX0 1 f fd ["text"] Ye:=by
 refine F.ok jN (fun vs H Q E h=>?_) (fun cdv A outer s H vs Q E hr h=>?_)
 ·obtain⟨x,rfl,_⟩:=h
  rfl
 obtain⟨x,rfl,hs,hl,q⟩:=h
 have nd0:(["sign"]:List Str).Nodup:=by decide +kernel
 refine⟨_,(@zk _ _ _ (@zB _ _ _ _ (@zA _ _ _ _ _ _ _ _ _ (@Jp _ K rfl rfl) rfl gb.all Xu (@zd _ _ _ _ _ (@qm _ ["sign"] [none] _ _ _ _ _ _ _ _ _ _ (by exact (show zS ["text"] (zo zV) ["sign"] [none] _ from⟨rfl,by decide +kernel,by decide +kernel,by decide +kernel,by decide +kernel,rfl,by decide +kernel⟩)) rfl (@pi_str _ _ _ _ (@pw _ 0 _ _ rfl rfl)) (fun _ _ _ _=>(@pgl _ 0 _ _ nd0 rfl rfl)) (fun _ _ _ _=>(@qW _)) (fun _ _ _ _=>(@pe_chain _ _ _ _ _ _ _ _ _ _ _ _ (@W9 _) (@W9 _) (@jP _ _ _ _) (@pw _ 0 _ _ rfl rfl) (@jP _ _ _ _) (by with_unfolding_all rfl))) (by intro _;rfl)) (@zg _) rfl) (by decide) (by decide) rfl rfl))),?_⟩
 refine⟨_,rfl,x,rfl,fun D hD=>?_⟩
 refine map_str (h:=fun _=>.bl true) (by omega) hD (fun c hc H' Q' s1 q'=>?_) (fun H' s1 hD'=>?_)
 ·obtain⟨c0,c1⟩:=hs c hc
  refine⟨_,rfl,_,_,rfl,rfl,_,rfl,?_⟩
  have e1:(!decide ((Str.mk #[c]).cps.toList < (Str.ofString "a").cps.toList))=true:=by
   have:(Str.ofString "a").cps.toList=[97]:=by decide +kernel
   rw[this]
   simp[List.cons_lt_cons_iff]
   omega
  have e2:(!decide ((Str.ofString "z").cps.toList < (Str.mk #[c]).cps.toList))=true:=by
   have:(Str.ofString "z").cps.toList=[122]:=by decide +kernel
   rw[this]
   simp[List.cons_lt_cons_iff]
   omega
  rw[if_pos e1]
  refine⟨_,_,rfl,rfl,?_⟩
  rw[e2]
  exact q' _ zD.rfl'
 ·rw[trues] at hD'
  refine⟨D,_,rfl,SqL.of hD',?_⟩
  rw[XA]
  exact q _ s1
abbrev Qe:Stmt:=top 4
theorem yD:zC ["thing"] ["thing"] (zo Qe):=⟨rfl,rfl,rfl,by decide +kernel,rfl,by decide +kernel,by decide +kernel⟩
theorem yE {P:Program} {w:World} {K:PySem.W.Frag} {mg:Str->Option Value} {base:Heap} {f:Addr} {fd:FuncData} (F:Fun K "is_letter" "is_letter" Qe f fd) (gb:Gb mg) (d_has_small_letters_alone:Def P w K mg base 1 "has_small_letters_alone" ["text"] Ye):jt P w K mg base CX0 2 f fd ["thing"] xH:=by
 refine F.ok yD (fun vs H Q E h=>?_) (fun cdv A outer s H vs Q E hr h=>?_)
 ·obtain⟨v,s,rfl,_⟩:=h
  rfl
 obtain⟨v,s,rfl,ih,hl,q⟩:=h
 refine⟨_,(@zk _ _ _ (@zB _ _ _ _ (@pe_and _ _ _ _ _ _ _ (@zA _ _ _ _ _ _ _ _ _ (@ZK _ K rfl) rfl gb.isinstance ju (@zd _ _ _ _ _ (@pw _ 0 _ _ rfl rfl) (@zd _ _ _ _ _ (@w8 _ _ (.ty "str") _ _ rfl gb.str Xv rfl (by decide) (by decide)) (@zg _) rfl) rfl) (by decide) (by decide) rfl rfl) (@pe_and _ _ _ _ _ _ _ (@jp _ _ _ _ _ _ _ _ (@Zr _) (@zA _ _ _ _ _ _ _ _ _ (@zT _ K rfl) rfl gb.len qX (@zd _ _ _ _ _ (@pw _ 0 _ _ rfl rfl) (@zg _) rfl) (by decide) (by decide) rfl rfl) (@zi _ _ _ _) (@zW _ _ (by decide) (by decide))) (@pe_one _ _ _ _ _ (@zw _ _ _ _ _ _ _ _ _ _ _ d_has_small_letters_alone hr (by omega) rfl (@zd _ _ _ _ _ (@pw _ 0 _ _ rfl rfl) (@zg _) rfl) (by decide) rfl rfl)))))),?_⟩
 refine⟨_,rfl,?_⟩
 cases hs:s.isL with
 | true=>
  obtain rfl:=ih.letter hs
  obtain⟨l1,sm⟩:=hl hs
  refine⟨_,_,_,true,rfl,.str _,Ql "str",true,rfl,W5 ?_⟩
  refine⟨_,rfl,_,s.nm.length,rfl,⟨zq (by omega),rfl⟩,rfl,true,?_,W5 ?_⟩
  ·rw[l1]
   rfl
  ·exact⟨_,rfl,s.nm,rfl,sm,by omega,fun H' s1=>by have q2:=q H' s1;rw[hs] at q2;exact q2⟩
 | false=>
  obtain⟨t,us,rfl,ht,_⟩:=ih.node hs
  exact⟨_,_,_,false,rfl,.tup ht,yT (K:=K) (.tup []),false,rfl,WP (by have q2:=q H (zD.refl H);rw[hs] at q2;exact q2)⟩
abbrev jG:Stmt:=top 8
theorem qP:zC ["S", "parts", "waiting", "part"] ["S"] (zo jG):=⟨rfl,rfl,rfl,by decide +kernel,rfl,by decide +kernel,by decide +kernel⟩
theorem Q5 {P:Program} {w:World} {K:PySem.W.Frag} {mg:Str->Option Value} {base:Heap} {f:Addr} {fd:FuncData} (F:Fun K "written_parts" "written_parts" jG f fd) (gb:Gb mg) (d_is_letter:Def P w K mg base 2 "is_letter" ["thing"] xH):jt P w K mg base CX0 3 f fd ["S"] YU:=by
 refine F.ok qP (fun vs H Q E h=>?_) (fun cdv A outer s H vs Q E hr h=>?_)
 ·obtain⟨v,s,rfl,_⟩:=h
  rfl
 obtain⟨v,s,rfl,ih,gs,h63,q⟩:=h
 refine⟨_,(@zh _ _ _ _ _ (@zr _ _ 1 _ _ _ _ qP.nd rfl (Or.inl rfl) (@zN _ _ _ _ (@zg _)) rfl (by walk_at "f")) (@zh _ _ _ _ _ (@zr _ _ 2 _ _ _ _ qP.nd rfl (Or.inl rfl) (@zN _ _ _ _ (@zd _ _ _ _ _ (@pw _ 0 _ _ rfl rfl) (@zg _) rfl)) rfl (by walk_at "f")) (@zh _ _ _ _ _ (@Wa _ _ _ _ _ _ AU (@zF _ _ _ _ _ _ _ _ (@Xj _) (@zA _ _ _ _ _ _ _ _ _ (@zT _ K rfl) rfl gb.len qX (@zd _ _ _ _ _ (@pw _ 2 _ _ rfl rfl) (@zg _) rfl) (by decide) (by decide) rfl rfl) (@zi _ _ _ _) (@zW _ _ (by decide) (by decide))) (@zh _ _ _ _ _ (@zr _ _ 3 _ _ _ _ qP.nd rfl (Or.inl rfl) (@kpe_bm0 _ K _ _ _ _ _ _ _ _ Ac PySem.F.slot_list_pop PySem.F.type_list_pop (@mt_pop _) (@pw _ 2 _ _ rfl rfl) rfl rfl rfl) rfl (by walk_at "f")) (@zh _ _ _ _ _ (@qi _ _ _ _ (@qE _ K _ _ _ _ _ _ _ _ _ _ _ Ac As Ar (@zX _) (@pw _ 1 _ _ rfl rfl) (@zd _ _ _ _ _ (@pw _ 3 _ _ rfl rfl) (@zg _) rfl) rfl rfl rfl rfl rfl rfl) rfl) (@zk _ _ _ (@qL _ _ _ _ _ _ _ _ (@wD _ _ _ _ (@Zp _ _ _ (@zw _ _ _ _ _ _ _ _ _ _ _ d_is_letter hr (by omega) rfl (@zd _ _ _ _ _ (@pw _ 3 _ _ rfl rfl) (@zg _) rfl) (by decide) rfl rfl) (by intro _;rfl))) (@zk _ _ _ (@qi _ _ _ _ (@qE _ K _ _ _ _ _ _ _ _ _ _ _ Ac CG CF (@Zs _) (@pw _ 2 _ _ rfl rfl) (@zd _ _ _ _ _ (@xo _ K _ _ _ _ _ _ rfl gb.list rfl gb.reversed (@zd _ _ _ _ _ (@qN _ _ _ _ _ _ _ _ _ _ (@kslT _ K rfl) (@pw _ 3 _ _ rfl rfl) (@qS _ _ _ (@zi _ _ _ _)) (@j9 _)) (@zg _) rfl) rfl rfl rfl rfl) (@zg _) rfl) rfl rfl rfl rfl rfl rfl) rfl)) (@zO _)))))) (@zk _ _ _ (@zB _ _ _ _ (@pw _ 1 _ _ rfl rfl)))))),?_⟩
 refine⟨zq (by show 0<=1000;decide),fun pa hpa=>?_⟩
 have n1:=zf hpa (.lst [])
 refine⟨_,rfl,zq (by show 1<=1000;decide),fun wa hwa=>?_⟩
 have n2:=zf hwa (.lst [v])
 have pw:pa ≠ wa:=zH ze hwa
 refine⟨fun m σ H'=>(∃ x3,σ=[some v,some (.ref pa),some (.ref wa),x3])/\zD H H'/\∃ ps ws:List (V×Sy),H' pa=some (.lst (ps.map Prod.fst))/\H' wa=some (.lst (ws.map Prod.fst))/\SyS H ps/\SyS H ws/\ps.map Prod.snd++(ws.reverse.flatMap fun z=>z.2.sub)=s.sub/\(ws.map fun z=>z.2.sz).sum=m/\ps.length+m<=63/\ws.length<=m,⟨s.sz,⟨_,rfl⟩,n1.trans n2,[],[(v,s)],n2 _ _ ze,ze,(fun z hz=>by cases hz),(fun z hz=>by rw[AE.mp hz];exact⟨gs,ih⟩),by simp,by simp,by simpa using h63,by have:=Sy.sz_ps s;simp;omega⟩,?_⟩
 rintro m σ H1 ⟨⟨x3,rfl⟩,s1,ps,ws,hp,hw,gp,gw,hsub,hm,h6,hwl⟩
 refine⟨_,rfl,_,_,rfl,.inl ⟨_,SqL.of hw,rfl⟩,_,_,rfl,rfl,_,rfl,?_⟩
 rw[AB]
 rcases C9 ws with rfl | ⟨ws,z,rfl⟩
 ·refine iteDF rfl ?_
  have e:ps.map Prod.snd=s.sub:=by simpa using hsub
  have hP:=(gp.same s1).paired
  rw[e] at hP
  exact⟨_,rfl,q pa _ H1 s1 hp hP⟩
 rw[CV] at *
 have zl:0 < z.2.sz:=by have:=Sy.sz_ps z.2;omega
 refine iteDT (Ai (by rw[AH];show (0:Int) < ((ws.length+1:Nat):Int);omega)) ?_
 rw[AL,Cu] at hm
 simp only[List.map_cons,List.map_nil,List.sum_cons,List.sum_nil,Nat.add_zero] at hm
 have hwl:ws.length+1<=m:=by simpa using hwl
 rw[List.reverse_append,List.reverse_singleton,List.singleton_append,BR,Sy.sub_ps z.2] at hsub
 refine⟨fun σ' H'=>(∃ x3,σ'=[some v,some (.ref pa),some (.ref wa),x3])/\zD H H'/\∃ ps ws:List (V×Sy),H' pa=some (.lst (ps.map Prod.fst))/\H' wa=some (.lst (ws.map Prod.fst))/\SyS H ps/\SyS H ws/\ps.map Prod.snd++(ws.reverse.flatMap fun z=>z.2.sub)=s.sub/\(ws.map fun z=>z.2.sz).sum=m - 1/\ps.length+(m - 1)<=63/\ws.length<=m - 1,fun σ' H' h=>⟨m - 1,by omega,h⟩,?_⟩
 obtain⟨gz,iz⟩:=gw z (by simp)
 have gw':SyS H ws:=fun y hy=>gw y (Ah _ hy)
 refine⟨_,rfl,.inl ⟨rfl,_,SqL.of hw⟩,wa,_,z.1,rfl,rfl,hw,by simp,?_⟩
 rw[show (List.map Prod.fst (ws++[z])).dropLast=ws.map Prod.fst by rw[AL];simp]
 have hp2:(upd H1 wa (.lst (ws.map Prod.fst))) pa=some (.lst (ps.map Prod.fst)):=by rw[zI pw];exact hp
 have s2:zD H (upd H1 wa (.lst (ws.map Prod.fst))):=s1.put (n1.free hwa)
 refine⟨_,rfl,.inl ⟨rfl,_,SqL.of hp2⟩,_,rfl,pa,_,_,rfl,rfl,hp2,by rw[AB];exact zu (by omega),?_⟩
 have s3:zD H (upd (upd H1 wa (.lst (ws.map Prod.fst))) pa (.lst (ps.map Prod.fst++[z.1]))):=s2.put hpa
 have hp3:(upd (upd H1 wa (.lst (ws.map Prod.fst))) pa (.lst (ps.map Prod.fst++[z.1]))) pa=some (.lst ((ps++[z]).map Prod.fst)):=by rw[ze,AL];rfl
 have hw3:(upd (upd H1 wa (.lst (ws.map Prod.fst))) pa (.lst (ps.map Prod.fst++[z.1]))) wa=some (.lst (ws.map Prod.fst)):=by rw[zI (BD pw)];exact ze
 generalize upd (upd H1 wa (.lst (ws.map Prod.fst))) pa (.lst (ps.map Prod.fst++[z.1]))=H3 at *
 have gp':SyS H (ps++[z]):=fun y hy=>by
  rcases AQ.mp hy with h | h
  ·exact gp y h
  ·rw[AE.mp h]
   exact⟨gz,iz⟩
 refine⟨_,rfl,z.1,z.2,rfl,iz.same s3,gz.isl,fun H4 s4=>⟨_,rfl,?_⟩⟩
 cases hz:z.2.isL with
 | true=>
  have zp:z.2.ps=[]/\z.2.sz=1:=by
   cases hz':z.2 with
   | ltr x=>exact⟨rfl,rfl⟩
   | _=>rw[hz'] at hz;cases hz
  rw[zp.1] at hsub
  refine WP ⟨⟨_,rfl⟩,s3.trans s4,ps++[z],ws,s4 _ _ hp3,s4 _ _ hw3,gp',gw',?_,?_,?_,?_⟩
  ·rw[<- hsub]
   simp
  ·have:=zp.2
   omega
  ·rw[AH]
   show ps.length+1+(m - 1)<=63
   omega
  ·have:=zp.2
   omega
 | false=>
  refine W5 ?_
  obtain⟨t,us,ev,ht,hP⟩:=iz.node hz
  have hul:=Al hP
  have a2:=Sy.ps_le z.2
  have ht4:=(s3.trans s4) _ _ ht
  refine⟨_,rfl,.inl ⟨rfl,_,SqL.of (s4 _ _ hw3)⟩,_,by rw[ev];rfl,_,rfl,?_⟩
  refine yw ht4 fun t5 H5 s5 ht5=>?_
  rw[Qy (by simp)] at ht5
  refine⟨t5,us,rfl,SqT.of ht5,by omega,fun l6 hl6=>?_⟩
  have n6:=zf hl6 (.lst us.reverse)
  have s6:=s4.trans (s5.trans n6)
  obtain⟨y1,y2,y3⟩:=xI hP fun a ha=>gz.part ha
  have hw6:=s6 _ _ hw3
  refine⟨wa,l6,_,_,rfl,rfl,hw6,ze,by rw[AB,Cp];exact zq (by omega),⟨⟨_,rfl⟩,(s3.trans s6).put (n1.free hwa),ps++[z],ws++(us.zip z.2.ps).reverse,?_,?_,gp',fun y hy=>?_,?_,?_,?_,?_⟩⟩
  ·rw[zI pw]
   exact s6 _ _ hp3
  ·rw[ze,AL,List.map_reverse,y2]
  ·rcases AQ.mp hy with h | h
   ·exact gw' y h
   ·exact y1 y (List.mem_reverse.mp h)
  ·rw[<- hsub,List.reverse_append,List.reverse_reverse,BG,AL]
   have e1:((us.zip z.2.ps).flatMap fun z=>z.2.sub)=z.2.ps.flatMap Sy.sub:=by
    rw[<- y3,List.flatMap_map]
    rw[y3]
   rw[e1]
   simp
  ·have e1:((us.zip z.2.ps).map fun z=>z.2.sz)=z.2.ps.map Sy.sz:=by
    rw[<- y3,A2]
    rw[y3]
    rfl
   rw[AL,Cu,List.map_reverse,List.sum_reverse,e1]
   have:=Sy.sz_ps z.2
   omega
  ·rw[AH]
   show ps.length+1+(m - 1)<=63
   omega
  ·have e1:(us.zip z.2.ps).length=z.2.ps.length:=by rw[<- AB (f:=Prod.snd),y3]
   have e2:z.2.ps.length<=(z.2.ps.map Sy.sz).sum:=zap _ fun y=>by have:=Sy.sz_ps y;omega
   have e3:ws.length<=(ws.map fun (z:V×Sy)=>z.2.sz).sum:=zap _ fun y=>by have:=Sy.sz_ps y.2;omega
   have:=Sy.sz_ps z.2
   rw[AH,Cp,e1]
   omega
abbrev qQ:Stmt:=top 7
theorem jf:zC ["sayings", "letters", "saying"] ["sayings"] (zo qQ):=⟨rfl,rfl,rfl,by decide +kernel,rfl,by decide +kernel,by decide +kernel⟩
theorem QS {P:Program} {w:World} {K:PySem.W.Frag} {mg:Str->Option Value} {base:Heap} {f:Addr} {fd:FuncData} (F:Fun K "letters_of_all" "letters_of_all" qQ f fd) (gb:Gb mg) (d_written_parts:Def P w K mg base 3 "written_parts" ["S"] YU) (d_is_letter:Def P w K mg base 2 "is_letter" ["thing"] xH):jt P w K mg base CX0 4 f fd ["sayings"] Wv:=by
 refine F.ok jf (fun vs H Q E h=>?_) (fun cdv A outer s H vs Q E hr h=>?_)
 ·obtain⟨l,ps,L0,rfl,_⟩:=h
  rfl
 obtain⟨l,ps,L0,rfl,hl,sy,h15,hz,h60,q⟩:=h
 have nd0:(["part"]:List Str).Nodup:=by decide +kernel
 refine⟨_,(@zh _ _ _ _ _ (@zr _ _ 1 _ _ _ _ jf.nd rfl (Or.inl rfl) (@zN _ _ _ _ (@zg _)) rfl (by walk_at "f")) (@zh _ _ _ _ _ (@zP _ _ _ _ _ _ _ _ AU rfl (@zE _ K _ _ _ (@pw _ 0 _ _ rfl rfl) rfl) (@pgl _ 2 _ _ jf.nd rfl rfl) (@zk _ _ _ (@qi _ _ _ _ (@qE _ K _ _ _ _ _ _ _ _ _ _ _ Ac CG CF (@Zs _) (@pw _ 1 _ _ rfl rfl) (@zd _ _ _ _ _ (@qm _ ["part"] [none] _ _ _ _ _ _ _ _ _ _ (by exact (show zS ["sayings", "letters", "saying"] (zo qQ) ["part"] [none] _ from⟨rfl,by decide +kernel,by decide +kernel,by decide +kernel,by decide +kernel,rfl,by decide +kernel⟩)) rfl (@zE _ K _ _ _ (@zw _ _ _ _ _ _ _ _ _ _ _ d_written_parts hr (by omega) rfl (@zd _ _ _ _ _ (@pw _ 2 _ _ rfl rfl) (@zg _) rfl) (by decide) rfl rfl) rfl) (fun _ _ _ _=>(@pgl _ 0 _ _ nd0 rfl rfl)) (fun _ _ _ _=>(@Jn _ _ _ (@Zp _ _ _ (@zw _ _ _ _ _ _ _ _ _ _ _ d_is_letter hr (by omega) rfl (@zd _ _ _ _ _ (@pw _ 0 _ _ rfl rfl) (@zg _) rfl) (by decide) rfl rfl) (by intro _;rfl)))) (fun _ _ _ _=>(@pw _ 0 _ _ rfl rfl)) (by intro _;rfl)) (@zg _) rfl) rfl rfl rfl rfl rfl rfl) rfl)) (by intro _;rfl)) (@zk _ _ _ (@zB _ _ _ _ (@zA _ _ _ _ _ _ _ _ _ (@Qx _ rfl) rfl gb.sorted Qo (@zd _ _ _ _ _ (@zG _ _ _ _ _ _ _ _ _ (@wT _ K rfl rfl) rfl gb.set YE (@zd _ _ _ _ _ (@pw _ 1 _ _ rfl rfl) (@zg _) rfl) (by decide) (by decide) rfl rfl) (@zg _) rfl) (by decide) (by decide) rfl rfl))))),?_⟩
 refine⟨zq (by show 0<=1000;decide),fun la hla=>?_⟩
 have n0:=zf hla (.lst [])
 refine⟨_,rfl,l,rfl,⟨_,SqL.of (n0 _ _ hl)⟩,?_⟩
 refine qf (xs:=ps.map Prod.fst) (fun i σ H'=>(∃ x2,σ=[some (.ref l),some (.ref la),x2])/\zD H H'/\H' la=some (.lst (((ps.take i).flatMap fun z=>z.2.lets).map V.str))) ⟨⟨_,rfl⟩,n0,ze⟩ (fun i σ H' _ h=>SqL.of (h.2.1 _ _ hl)) ?_ ?_
 ·rintro i x σ H1 hx ⟨⟨x2,rfl⟩,s1,hy⟩
  rw[AJ] at hx
  obtain⟨z,hzi,rfl⟩:=AX.mp hx
  have hzm:=AI hzi
  obtain⟨lz,iz⟩:=sy z hzm
  obtain⟨z63,_⟩:=hz z hzm
  have hb:=ZC (ps.take i) fun y hy=>(hz y (CA hy)).1
  have hzl:=(AC.mp hzi).1
  rw[An] at hb
  refine⟨_,rfl,.inl ⟨rfl,_,SqL.of hy⟩,?_⟩
  refine⟨_,rfl,z.1,z.2,rfl,iz.same s1,lz,z63,fun pa us H2 s2 hpa hP=>?_⟩
  have hul:=Al hP
  have hsl:=Sy.sub_len z.2
  refine⟨pa,rfl,⟨_,SqL.of hpa⟩,fun D hD=>?_⟩
  refine jD (xs:=us) (fun j ys H'=>zD H2 H'/\ys=(ltrs (z.2.sub.take j)).map V.str) ⟨zf hD _,rfl⟩ (fun j ys H' h _=>SqL.of (h.1 _ _ hpa)) ?_ ?_
  ·rintro j ys H3 u hu ⟨s3,rfl⟩ hD3
   have hj:=(AC.mp hu).1
   have hw:z.2.sub[j]? = some z.2.sub[j]:=AG (by omega)
   have hwm:=Ci (l:=z.2.sub) (n:=j) (by omega)
   generalize z.2.sub[j]=w' at hw hwm
   have iw:=Paired.at hP j _ _ hw hu
   have hlt:(ltrs (z.2.sub.take j)).length<=63:=by
    refine Ab (List.length_filterMap_le _ _) ?_
    rw[An]
    omega
   refine⟨_,rfl,u,w',rfl,iw.same s3,(lz.sub hwm).isl,fun H4 s4=>⟨_,rfl,?_⟩⟩
   cases hl':w'.isL with
   | true=>
    refine W5 ⟨_,rfl,WQ hj jM (s4 _ _ hD3) (by rw[AB];exact zu (by omega)) ⟨(s3.trans s4).put hD,?_⟩⟩
    rw[take_snoc hw,Ws,AL,iw.letter hl']
    congr 1
    unfold ltrs
    rw[Cq,hl']
    rfl
   | false=>
    refine WP (cno hj jM (s4 _ _ hD3) ⟨s3.trans s4,?_⟩)
    rw[take_snoc hw,Ws]
    have e:ltrs [w']=[]:=by
     unfold ltrs
     rw[Cq,hl']
     rfl
    rw[e,BW]
  ·rintro ys H3 ⟨s3,rfl⟩ hD3
   rw[<- hul,Ae,Je] at hD3
   have hy3:=s3 _ _ (s2 _ _ hy)
   refine⟨la,D,_,_,rfl,rfl,hy3,hD3,?_,⟨⟨_,rfl⟩,(s1.trans (s2.trans s3)).put hla,?_⟩⟩
   ·have:=ZB z.2
    rw[AB,AB]
    exact Br (zu (by omega))
   ·rw[ze,take_snoc hzi,BG,AL]
    simp only[List.flatMap_cons,List.flatMap_nil,List.append_nil]
 ·rintro σ H1 ⟨⟨x2,rfl⟩,s1,hy⟩
  rw[AB,Ae] at hy
  have hb:=ZC ps fun y hy=>(hz y hy).1
  refine⟨_,rfl,la,_,rfl,SqL.of hy,by omega,fun sa hsa=>?_⟩
  have hm:∀ x,x ∈ we (ps.flatMap fun z=>z.2.lets) ↔ ∃ z ∈ ps,x ∈ z.2.lets:=fun x=>by
   rw[YN,BN]
  refine⟨sa,_,rfl,ze,QP _,?_,fun k ss hk pm so=>q k ss _ (s1.trans ((zf hsa _).trans (zf hk _))) ze (pm.nodup_iff.mpr (QP _)) (fun x=>by rw[pm.mem_iff,hm]) so⟩
  have:=jE _ L0 (QP (ps.flatMap fun z=>z.2.lets)) fun x hx=>by
   obtain⟨z,hzm,hzx⟩:=(hm x).mp hx
   exact (hz z hzm).2 x hzx
  omega
abbrev Zh:Stmt:=top 10
theorem Z3:zC ["by_letter", "letter", "given", "longer"] ["by_letter", "letter", "given"] (zo Zh):=⟨rfl,rfl,rfl,by decide +kernel,rfl,by decide +kernel,by decide +kernel⟩
theorem wo {P:Program} {w:World} {K:PySem.W.Frag} {mg:Str->Option Value} {base:Heap} {f:Addr} {fd:FuncData} (F:Fun K "with_letter" "with_letter" Zh f fd) (gb:Gb mg):jt P w K mg base CX0 1 f fd ["by_letter", "letter", "given"] Yg:=by
 refine F.ok Z3 (fun vs H Q E h=>?_) (fun cdv A outer s H vs Q E hr h=>?_)
 ·obtain⟨g,u,x,o,ls,rfl,_⟩:=h
  rfl
 obtain⟨g,u,x,o,ls,rfl,hg,h60,hx,hu,q⟩:=h
 refine⟨_,(@zh _ _ _ _ _ (@zr _ _ 3 _ _ _ _ Z3.nd rfl (Or.inl rfl) (@zG _ _ _ _ _ _ _ _ _ (@QM _) rfl gb.dict Jv (@zd _ _ _ _ _ (@pw _ 0 _ _ rfl rfl) (@zg _) rfl) (by decide) (by decide) rfl rfl) rfl (by walk_at "f")) (@zh _ _ _ _ _ (@yZ _ _ _ _ _ _ _ _ _ _ hr (@pw _ 3 _ _ rfl rfl) (@pw _ 1 _ _ rfl rfl) (@pw _ 2 _ _ rfl rfl) rfl) (@zk _ _ _ (@zB _ _ _ _ (@pw _ 3 _ _ rfl rfl))))),?_⟩
 obtain⟨kvs,hk,hP⟩:=hg
 have hkl:=Al hP
 refine⟨_,rfl,g,kvs,rfl,hk,fun p hp=>?_⟩
 have n1:=zf hp (.dK kvs)
 refine⟨_,rfl,_,rfl,_,rfl,p,kvs,Sum.inr x,rfl,rfl,ze,zu (by omega),_,rfl,q p _ (n1.put hp) ⟨_,ze,?_⟩⟩
 rw[sets_put hP hx]
 obtain⟨kvs0,ek⟩:∃ z,z=kvs:=⟨_,rfl⟩
 rw[<- ek] at n1 hP ⊢
 have key:∀ {ls:List (Str×Nat)} {kvs:List (Key×V)},Paired (fun (p:Str×Nat) (kv:Key×V)=>kv.1=Sum.inr p.1/\∃ u,kv.2=.ref u/\H u=some (.tup [nV p.2])) ls kvs->Paired (fun (p':Str×Nat) (kv:Key×V)=>kv.1=Sum.inr p'.1/\∃ b,kv.2=.ref b/\(upd (upd H p (.dK kvs0)) p (.dK (kvs0++[(Sum.inr x,.ref u)]))) b=some (.tup [nV p'.2])) (ls++[(x,o)]) (kvs++[(Sum.inr x,.ref u)]):=fun h=>by
  induction h with
  | nil=>exact .cons ⟨rfl,u,rfl,(n1.put hp) _ _ hu⟩ .nil
  | cons z _ ih=>
   obtain⟨e1,a,e2,e3⟩:=z
   exact .cons ⟨e1,a,e2,(n1.put hp) _ _ e3⟩ ih
 exact key hP
abbrev qZ:Stmt:=top 11
theorem Q6:zC ["H"] ["H"] (zo qZ):=⟨rfl,rfl,rfl,by decide +kernel,rfl,by decide +kernel,by decide +kernel⟩
theorem Q7 {P:Program} {w:World} {K:PySem.W.Frag} {mg:Str->Option Value} {base:Heap} {f:Addr} {fd:FuncData} (F:Fun K "cells_by_name" "cells_by_name" qZ f fd) (gb:Gb mg):jt P w K mg base CX0 1 f fd ["H"] xJ:=by
 refine F.ok Q6 (fun vs H Q E h=>?_) (fun cdv A outer s H vs Q E hr h=>?_)
 ·obtain⟨v,T,rfl,_⟩:=h
  rfl
 obtain⟨v,T,rfl,ia,gT,nT,q⟩:=h
 have nd0:(["name", "places", "cells"]:List Str).Nodup:=by decide +kernel
 refine⟨_,(@zk _ _ _ (@zB _ _ _ _ (@XQ _ _ hr _ _ _ _ rfl gb.dict (@zd _ _ _ _ _ (@qm _ ["name", "places", "cells"] [none,none,none] _ _ _ _ _ _ _ _ _ _ (by exact (show zS ["H"] (zo qZ) ["name", "places", "cells"] [none,none,none] _ from⟨rfl,by decide +kernel,by decide +kernel,by decide +kernel,by decide +kernel,rfl,by decide +kernel⟩)) rfl (@qT _ K _ _ _ (@zv _ _ _ _ _ _ _ (@zn _ K rfl) (@pw _ 0 _ _ rfl rfl) (@zi _ _ _ _) (fun _ _=>rfl)) rfl) (fun _ _ _ _=>(@Z9 _ K _ _ _ _ 3 rfl (@ql _ _ _ _ _ (@pgl _ 0 _ _ nd0 rfl rfl) (@ql _ _ _ _ _ (@pgl _ 1 _ _ nd0 rfl rfl) (@ql _ _ _ _ _ (@pgl _ 2 _ _ nd0 rfl rfl) (@Z6 _) rfl) rfl) rfl) rfl rfl rfl)) (fun _ _ _ _=>(@qW _)) (fun _ _ _ _=>(@qd _ _ _ _ _ (@zd _ _ _ _ _ (@qd _ _ _ _ _ (@zd _ _ _ _ _ (@pw _ 0 _ _ rfl rfl) (@zd _ _ _ _ _ (@pw _ 1 _ _ rfl rfl) (@zg _) rfl) rfl)) (@zd _ _ _ _ _ (@pw _ 2 _ _ rfl rfl) (@zg _) rfl) rfl))) (by intro _;rfl)) (@zg _) rfl) rfl rfl))),?_⟩
 obtain⟨a,w0,c,vs,rfl,h1,h2,h3,h4⟩:=id ia
 have gcl:=gT.cl
 have gx:∀ i,∃ t u:Addr,i < T.cs.length->vs[i]? = some (.ref t)/\H t=some (.tup [.str (T.cs.getD i d0).nm,nV (T.cs.getD i d0).pl,.ref u])/\H u=some (.tup ((T.cs.getD i d0).cs.map nV)):=fun i=>by
  by_cases hi:i < T.cs.length
  ·have hc:T.cs[i]? = some (T.cs.getD i d0):=by simp[List.getD,hi]
   obtain⟨t,u,h⟩:=h4.get hc
   exact⟨t,u,fun _=>h⟩
  ·exact⟨0,0,fun h=>absurd h hi⟩
 obtain⟨ad,gx⟩:=DY gx
 obtain⟨au,gx⟩:=DY gx
 have ge:∀ i,i < T.cs.length->T.cs[i]? = some (T.cs.getD i d0):=fun i hi=>by simp[List.getD,hi]
 refine⟨_,rfl,.inr (.inl ⟨a,_,2,_,rfl,rfl,SqT.of h1,rfl,c,rfl,⟨_,SqT.of h3⟩,fun D hD=>?_⟩)⟩
 refine XG (n:=T.cs.length) (ad:=ad) (v1:=fun i=>.str (T.cs.getD i d0).nm) (v2:=fun i=>nV (T.cs.getD i d0).pl) (v3:=fun i=>.ref (au i)) (more:=[]) (fun i ys H'=>zD H H'/\ys.length=i/\y4 H' ys (ctOf T au i)) ⟨zf hD _,rfl,.nil⟩ h4.len.symm (fun i hi=>(gx i hi).1) (fun i ys H' h _=>SqT.of (h.1 _ _ h3)) (fun i ys H' hi h=>SqT.of (h.1 _ _ (gx i hi).2.1)) ?_ ?_
 ·rintro i ys H1 hi ⟨s1,yl,hP⟩ hD1
  refine yes ⟨_,rfl,_,rfl,zq (by show 2<=1000;decide),fun t1 ht1=>?_⟩
  have n1:=zf ht1 (.tup [.str (T.cs.getD i d0).nm,nV (T.cs.getD i d0).pl])
  refine⟨_,rfl,zq (by show 2<=1000;decide),fun t2 ht2=>?_⟩
  have n2:=zf ht2 (.tup [.ref t1,.ref (au i)])
  have hD2:=n2 _ _ (n1 _ _ hD1)
  refine WQ hi ⟨_,_,_,rfl⟩ hD2 (zu (by omega)) ⟨(s1.trans (n1.trans n2)).put hD,by rw[AH,yl];rfl,?_⟩
  rw[ct_snoc]
  exact y4.snoc (p:=(yq (T.cs.getD i d0),.ref (au i))) (y4.tk (Tk.put hD2) (y4.tk (Tk.of (n1.trans n2)) hP)) (Tk.put hD2 _ _ ze) (Tk.put hD2 _ _ (n2 _ _ ze))
 ·rintro ys H1 ⟨s1,yl,hP⟩ hD1
  refine⟨D,ys,_,rfl,hD1,hP,fun e he=>q e _ (s1.trans (zf he _)) ⟨_,ze,fun cc hcc=>?_⟩⟩
  obtain⟨i,hi⟩:=Bc.mp hcc
  have hil:=(AC.mp hi).1
  have en:T.cs.getD i d0=cc:=by
   have:=ge i hil
   rw[hi] at this
   exact (Ad this).symm
  refine⟨au i,?_,?_⟩
  ·rw[<- en]
   exact zab (ctOf T au T.cs.length) [] (yq (T.cs.getD i d0),.ref (au i)) (ct_nd nT) (AM.mpr ⟨i,Af.mpr hil,rfl⟩)
  ·rw[<- en]
   exact (s1.trans (zf he _)) _ _ (gx i hil).2.2
abbrev Zi:Stmt:=top 12
theorem Z4:zC ["shapes", "parts", "part"] ["shapes", "parts"] (zo Zi):=⟨rfl,rfl,rfl,by decide +kernel,rfl,by decide +kernel,by decide +kernel⟩
theorem wq {P:Program} {w:World} {K:PySem.W.Frag} {mg:Str->Option Value} {base:Heap} {f:Addr} {fd:FuncData} (F:Fun K "check_names" "check_names" Zi f fd) (gb:Gb mg) (d_is_letter:Def P w K mg base 2 "is_letter" ["thing"] xH):jt P w K mg base CX0 3 f fd ["shapes", "parts"] zar:=by
 refine F.ok Z4 (fun vs H Q E h=>?_) (fun cdv A outer s H vs Q E hr h=>?_)
 ·obtain⟨e',l,us,ss,T,L,rfl,_⟩:=h
  rfl
 obtain⟨e',l,us,ss,T,L,rfl,hcd,hl,hP,gS,hL,q⟩:=h
 refine⟨_,(@zk _ _ _ (@zP _ _ _ _ _ _ _ _ AU rfl (@zE _ K _ _ _ (@pw _ 1 _ _ rfl rfl) rfl) (@pgl _ 2 _ _ Z4.nd rfl rfl) (@zk _ _ _ (@qL _ _ _ _ _ _ _ _ (@PW.pt _ _ _ (@Xb _ _ _ _ _ _ _ (@wD _ _ _ _ (@Zp _ _ _ (@zw _ _ _ _ _ _ _ _ _ _ _ d_is_letter hr (by omega) rfl (@zd _ _ _ _ _ (@pw _ 2 _ _ rfl rfl) (@zg _) rfl) (by decide) rfl rfl) (by intro _;rfl))) (@yO _ _ _ _ (@zF _ _ _ _ _ _ _ _ (@yi _ _ hr) (@qd _ _ _ _ _ (@zd _ _ _ _ _ (@zv _ _ _ _ _ _ _ (@zn _ K rfl) (@pw _ 2 _ _ rfl rfl) (@zi _ _ _ _) (fun _ _=>rfl)) (@zd _ _ _ _ _ (@zy _ _ _ _ _ _ _ _ (@WW _) (@zA _ _ _ _ _ _ _ _ _ (@zT _ K rfl) rfl gb.len qX (@zd _ _ _ _ _ (@pw _ 2 _ _ rfl rfl) (@zg _) rfl) (by decide) (by decide) rfl rfl) (@zi _ _ _ _)) (@zg _) rfl) rfl)) (@pw _ 0 _ _ rfl rfl) (by with_unfolding_all rfl))))) (@zk _ _ _ (@ps_never _ _)) (@zO _))) (by intro _;rfl))),?_⟩
 refine⟨_,rfl,l,rfl,⟨_,SqL.of hl⟩,?_⟩
 refine qf (xs:=us) (fun i σ H'=>(∃ x2,σ=[some (.ref e'),some (.ref l),x2])/\zD H H') ⟨⟨_,rfl⟩,zD.refl _⟩ (fun i σ H' _ h=>SqL.of (h.2 _ _ hl)) ?_ (fun σ H' h=>q H' h.2)
 rintro i x σ H1 hx ⟨⟨x2,rfl⟩,s1⟩
 have hlen:=Al hP
 have hi:=(AC.mp hx).1
 have hsi:ss[i]? = some ss[i]:=AG (by omega)
 generalize ss[i]=z at hsi
 have iz:=Paired.at hP i _ _ hsi hx
 have gz:=gS z (AI hsi)
 refine⟨_,rfl,x,z,rfl,iz.same s1,fun h=>hL _ (gz.letter h),fun H2 s2=>⟨_,rfl,?_⟩⟩
 cases hs:z.isL with
 | true=>exact⟨⟨_,rfl⟩,s1.trans s2⟩
 | false=>
  obtain⟨t,us2,ev,ht,hP2⟩:=iz.node hs
  obtain⟨⟨c,hc,cn,cp⟩,gps⟩:=gz.node hs
  have hul:=Al hP2
  have ht2:=s2 _ _ (s1 _ _ ht)
  rw[ev]
  obtain⟨kvs,hk,hv⟩:=(hcd.same s1).same s2
  obtain⟨u,e1,e2⟩:=hv c hc
  refine⟨_,rfl,.inr (.inl ⟨t,_,_,_,rfl,rfl,SqT.of ht2,at0,_,rfl,_,_,rfl,.inr ⟨_,SqT.of ht2,rfl⟩,_,_,rfl,rfl,zq (by show 2<=1000;decide),fun t3 ht3=>?_⟩)⟩
  have el:V.int (((.str z.nm :: us2:List V).length:Int) - 1)=.int ((c.pl:Nat):Int):=by
   rw[Aq,<- hul,cp]
   show V.int _=V.int _
   congr 1
   omega
  dsimp only
  rw[el]
  have n3:=zf ht3 (.tup [.str z.nm,.int ((c.pl:Nat):Int)])
  refine⟨_,rfl,e',t3,kvs,yq c,rfl,rfl,n3 _ _ hk,?_,?_⟩
  ·rw[ze]
   unfold yq
   rw[cn]
   rfl
  rw[e1]
  exact⟨_,rfl,⟨⟨_,rfl⟩,s1.trans (s2.trans n3)⟩⟩
abbrev jx:Stmt:=top 24
theorem jV:zC ["places", "many", "grades", "reached", "place"] ["places", "many", "grades"] (zo jx):=⟨rfl,rfl,rfl,by decide +kernel,rfl,by decide +kernel,by decide +kernel⟩
theorem wt {P:Program} {w:World} {K:PySem.W.Frag} {mg:Str->Option Value} {base:Heap} {f:Addr} {fd:FuncData} (F:Fun K "next_places" "next_places" jx f fd) (gb:Gb mg):jt P w K mg base CX0 1 f fd ["places", "many", "grades"] YS:=by
 refine F.ok jV (fun vs H Q E h=>?_) (fun cdv A outer s H vs Q E hr h=>?_)
 ·obtain⟨ps,gs,m,P,G,rfl,_⟩:=h
  rfl
 obtain⟨ps,gs,m,P,G,rfl,m9,hp,hg,p9,g9,q⟩:=h
 have nd0:(["one", "place", "many"]:List Str).Nodup:=by decide +kernel
 refine⟨_,(@zh _ _ _ _ _ (@zr _ _ 3 _ _ _ _ jV.nd rfl (Or.inl rfl) (@zN _ _ _ _ (@zg _)) rfl (by walk_at "f")) (@zh _ _ _ _ _ (@zP _ _ _ _ _ _ _ _ AU rfl (@zE _ K _ _ _ (@pw _ 0 _ _ rfl rfl) rfl) (@QJ _ _ 4 _ jV.nd rfl (Or.inr rfl) (by walk_at "f")) (@zk _ _ _ (@qi _ _ _ _ (@qE _ K _ _ _ _ _ _ _ _ _ _ _ Ac CG CF (@Zs _) (@pw _ 3 _ _ rfl rfl) (@zd _ _ _ _ _ (@qm _ ["one", "place", "many"] [none,some 4,some 1] _ _ _ _ _ _ _ _ _ _ (by exact (show zS ["places", "many", "grades", "reached", "place"] (zo jx) ["one", "place", "many"] [none,some 4,some 1] _ from⟨rfl,by decide +kernel,by decide +kernel,by decide +kernel,by decide +kernel,rfl,by decide +kernel⟩)) rfl (@zE _ K _ _ _ (@pw _ 2 _ _ rfl rfl) rfl) (fun _ _ _ _=>(@pgl _ 0 _ _ nd0 rfl rfl)) (fun _ _ _ _=>(@qW _)) (fun _ _ _ _=>(@zy _ _ _ _ _ _ _ _ (@qq _) (@zy _ _ _ _ _ _ _ _ (@js _) (@pw _ 1 _ _ rfl rfl) (@pw _ 2 _ _ rfl rfl)) (@pw _ 0 _ _ rfl rfl))) (by intro _;rfl)) (@zg _) rfl) rfl rfl rfl rfl rfl rfl) rfl)) (by intro _;rfl)) (@zk _ _ _ (@zB _ _ _ _ (@pw _ 3 _ _ rfl rfl))))),?_⟩
 refine⟨zq (by show 0<=1000;decide),fun rd hrd=>?_⟩
 refine⟨_,rfl,ps,rfl,⟨_,SqL.of (zf hrd _ _ _ hp)⟩,?_⟩
 refine qf (xs:=P.map nV) (fun i σ H'=>(∃ x,σ=[some (.ref ps),some (nV m),some (.ref gs),some (.ref rd),x])/\zD H H'/\H' rd=some (.lst (((P.take i).flatMap fun p=>G.map fun g=>p * m+g).map nV))) ⟨⟨_,rfl⟩,zf hrd _,ze⟩ (fun i σ H' _ h=>SqL.of (h.2.1 _ _ hp)) ?_ ?_
 ·rintro i x σ H1 hx ⟨⟨x',rfl⟩,s1,h1⟩
  rw[AJ] at hx
  obtain⟨pp,hpp,rfl⟩:=AX.mp hx
  refine⟨_,rfl,.inl ⟨rfl,_,SqL.of h1⟩,_,rfl,gs,rfl,⟨_,SqL.of (s1 _ _ hg)⟩,fun D hD=>?_⟩
  have hlen:(((P.take i).flatMap fun p=>G.map fun g=>p * m+g).map nV).length<=81:=by
   rw[AB,Tn.flat_len _ G.length (fun x=>by rw[AB]),An]
   exact Ab (Do (show _<=9 by omega) g9) (by decide)
  refine jv G nV (fun g=>nV (pp * m+g)) (s1 _ _ hg) (by omega) hD (fun z hz H' Q' s2 q'=>?_) (fun H2 s2 hD2=>?_)
  ·have q2:=q' H' zD.rfl'
   rw[show nV (pp * m+z)=V.int ((pp:Int) * (m:Int)+(z:Int)) by show V.int _=_;rw[Dk,DH]] at q2
   exact⟨_,rfl,_,rfl,_,_,rfl,rfl,.inr ⟨by omega,by omega⟩,_,rfl,_,_,rfl,rfl,q2⟩
  ·refine⟨rd,D,_,_,rfl,rfl,s2 _ _ h1,hD2,?_,⟨⟨_,rfl⟩,(s1.trans s2).put hrd,?_⟩⟩
   ·have hG:(G.map fun g=>nV (pp * m+g)).length=G.length:=AB ..
    rw[hG]
    exact zq (by omega)
   ·rw[ze,take_snoc hpp,BG,AL]
    simp only[List.flatMap_cons,List.flatMap_nil,List.append_nil,List.map_map]
    rfl
 ·rintro σ H1 ⟨⟨x',rfl⟩,s1,h1⟩
  rw[AB,Ae] at h1
  exact⟨_,rfl,q rd _ s1 h1⟩
abbrev qK:Stmt:=top 29
theorem qe:zC ["cells", "many", "S", "sets", "places", "part", "given", "reached"] ["cells", "many", "S", "sets"] (zo qK):=⟨rfl,rfl,rfl,by decide +kernel,rfl,by decide +kernel,by decide +kernel⟩
theorem QD {P:Program} {w:World} {K:PySem.W.Frag} {mg:Str->Option Value} {base:Heap} {f:Addr} {fd:FuncData} (F:Fun K "possible_within" "possible_within" qK f fd) (gb:Gb mg) (d_is_letter:Def P w K mg base 2 "is_letter" ["thing"] xH) (d_next_places:Def P w K mg base 1 "next_places" ["places", "many", "grades"] YS) (j:Nat) (d_possible_within:Def P w K mg base (6+j) "possible_within" ["cells", "many", "S", "sets"] (YV j)):jt P w K mg base CX0 (6+j+1) f fd ["cells", "many", "S", "sets"] (YV (j+1)):=by
 refine F.ok qe (fun vs H Q E h=>?_) (fun cdv A outer s H vs Q E hr h=>?_)
 ·obtain⟨e',g,v,T,L,s,ls,rfl,_⟩:=h
  rfl
 obtain⟨e',g,v,T,L,s,ls,rfl,hc,gT,nT,ih,gs,hL,hg,hlt,hj,q⟩:=h
 have nd0:(["place", "given"]:List Str).Nodup:=by decide +kernel
 refine⟨_,(@zh _ _ _ _ _ (@qL _ _ _ _ _ _ _ _ (@Zp _ _ _ (@zw _ _ _ _ _ _ _ _ _ _ _ d_is_letter hr (by omega) rfl (@zd _ _ _ _ _ (@pw _ 2 _ _ rfl rfl) (@zg _) rfl) (by decide) rfl rfl) (by intro _;rfl)) (@zk _ _ _ (@zB _ _ _ _ (@Yu _ _ _ _ _ _ _ _ (@zF _ _ _ _ _ _ _ _ (@op_kIn _ _ hr) (@pw _ 2 _ _ rfl rfl) (@pw _ 3 _ _ rfl rfl) (by with_unfolding_all rfl)) (@zG _ _ _ _ _ _ _ _ _ (@Zb _ K rfl) rfl gb.list Z7 (@zd _ _ _ _ _ (@Jw _ _ _ _ _ _ (@pw _ 3 _ _ rfl rfl) (@pw _ 2 _ _ rfl rfl) (fun _ _=>rfl)) (@zg _) rfl) (by decide) (by decide) rfl rfl) (@zG _ _ _ _ _ _ _ _ _ (@QK _ rfl) rfl gb.list Z7 (@zd _ _ _ _ _ (@XD _ _ _ _ _ rfl gb.range (@zd _ _ _ _ _ (@pw _ 1 _ _ rfl rfl) (@zg _) rfl) rfl) (@zg _) rfl) (by decide) (by decide) rfl rfl)))) (@zO _)) (@zh _ _ _ _ _ (@zr _ _ 4 _ _ _ _ qe.nd rfl (Or.inl rfl) (@zN _ _ _ _ (@zd _ _ _ _ _ (@zi _ _ _ _) (@zg _) rfl)) rfl (by walk_at "f")) (@zh _ _ _ _ _ (@zP _ _ _ _ _ _ _ _ AU rfl (@qT _ K _ _ _ (@qN _ _ _ _ _ _ _ _ _ _ (@kslT _ K rfl) (@pw _ 2 _ _ rfl rfl) (@qS _ _ _ (@zi _ _ _ _)) (@j9 _)) rfl) (@pgl _ 5 _ _ qe.nd rfl rfl) (@zk _ _ _ (@zr _ _ 4 _ _ _ _ qe.nd rfl (Or.inl rfl) (@zw _ _ _ _ _ _ _ _ _ _ _ d_next_places hr (by omega) rfl (@zd _ _ _ _ _ (@pw _ 4 _ _ rfl rfl) (@zd _ _ _ _ _ (@pw _ 1 _ _ rfl rfl) (@zd _ _ _ _ _ (@zw _ _ _ _ _ _ _ _ _ _ _ d_possible_within hr (by omega) rfl (@zd _ _ _ _ _ (@pw _ 0 _ _ rfl rfl) (@zd _ _ _ _ _ (@pw _ 1 _ _ rfl rfl) (@zd _ _ _ _ _ (@pw _ 5 _ _ rfl rfl) (@zd _ _ _ _ _ (@pw _ 3 _ _ rfl rfl) (@zg _) rfl) rfl) rfl) rfl) (by decide) rfl rfl) (@zg _) rfl) rfl) rfl) (by decide) rfl rfl) rfl (by walk_at "f"))) (by intro _;rfl)) (@zh _ _ _ _ _ (@zr _ _ 6 _ _ _ _ qe.nd rfl (Or.inr rfl) (@QL _ _ _ _ _ _ (@hu1 _ _ hr) (@pw _ 0 _ _ rfl rfl) (@qd _ _ _ _ _ (@zd _ _ _ _ _ (@zv _ _ _ _ _ _ _ (@zn _ K rfl) (@pw _ 2 _ _ rfl rfl) (@zi _ _ _ _) (fun _ _=>rfl)) (@zd _ _ _ _ _ (@zy _ _ _ _ _ _ _ _ (@WW _) (@zA _ _ _ _ _ _ _ _ _ (@zT _ K rfl) rfl gb.len qX (@zd _ _ _ _ _ (@pw _ 2 _ _ rfl rfl) (@zg _) rfl) (by decide) (by decide) rfl rfl) (@zi _ _ _ _)) (@zg _) rfl) rfl)) (fun _ _=>rfl)) rfl (by walk_at "f")) (@zh _ _ _ _ _ (@j4 _ ["place", "given"] [none,some 6] _ 7 _ _ _ _ _ _ _ _ _ _ _ _ (by exact (show zS ["cells", "many", "S", "sets", "places", "part", "given", "reached"] (zo qK) ["place", "given"] [none,some 6] _ from⟨rfl,by decide +kernel,by decide +kernel,by decide +kernel,by decide +kernel,rfl,by decide +kernel⟩)) rfl (@zE _ K _ _ _ (@pw _ 4 _ _ rfl rfl) rfl) (fun _ _ _ _=>(@pgl _ 0 _ _ nd0 rfl rfl)) (fun _ _ _ _=>(@qW _)) (fun _ _ _ _=>(@zv _ _ _ _ _ _ _ (@zn _ K rfl) (@pw _ 1 _ _ rfl rfl) (@pw _ 0 _ _ rfl rfl) (fun _ _=>rfl))) qe.nd rfl rfl rfl (by intro _;rfl)) (@zk _ _ _ (@zB _ _ _ _ (@Yu _ _ _ _ _ _ _ _ (@zF _ _ _ _ _ _ _ _ (@qo _ K rfl) (@wC _ _ _) (@pw _ 7 _ _ rfl rfl) (by with_unfolding_all rfl)) (@zG _ _ _ _ _ _ _ _ _ (@QK _ rfl) rfl gb.list Z7 (@zd _ _ _ _ _ (@XD _ _ _ _ _ rfl gb.range (@zd _ _ _ _ _ (@pw _ 1 _ _ rfl rfl) (@zg _) rfl) rfl) (@zg _) rfl) (by decide) (by decide) rfl rfl) (@zA _ _ _ _ _ _ _ _ _ (@Qw _ rfl) rfl gb.sorted Qo (@zd _ _ _ _ _ (@zG _ _ _ _ _ _ _ _ _ (@wQ _ K rfl rfl) rfl gb.set YE (@zd _ _ _ _ _ (@pw _ 7 _ _ rfl rfl) (@zg _) rfl) (by decide) (by decide) rfl rfl) (@zg _) rfl) (by decide) (by decide) rfl rfl))))))))),?_⟩
 have m9:=gT.m9
 refine⟨_,rfl,v,s,rfl,ih,fun h=>hL _ (gs.letter h),fun H1 s1=>⟨_,rfl,?_⟩⟩
 cases hs:s.isL with
 | true=>
  have ev:=ih.letter hs
  obtain⟨kvs,hk,hP⟩:=hg.same s1
  have hv:=YR hP s.nm
  refine W5 ⟨_,rfl,_,rfl,g,kvs,Sum.inr s.nm,rfl,by rw[ev];rfl,hk,?_⟩
  cases hlk:ls.lookup s.nm with
  | some o=>
   rw[hlk] at hv
   obtain⟨u,e1,e2⟩:=hv
   rw[e1]
   refine⟨_,rfl,W5 ⟨_,rfl,_,rfl,g,kvs,Sum.inr s.nm,_,rfl,hk,by rw[ev];rfl,e1,?_⟩⟩
   refine⟨u,_,rfl,.inr (SqT.of e2),fun l hl=>q l [o] _ (s1.trans (zf hl _)) ze (fun y=>?_) (show 1<=9 by decide)⟩
   rw[wU hs,hlk,AE]
  | none=>
   rw[hlk] at hv
   have hv:jo kvs (Sum.inr s.nm)=none:=hv
   rw[hv]
   refine⟨_,rfl,WP ⟨_,rfl,(T.m:Int),rfl,fun p hp=>?_⟩⟩
   refine⟨p,(T.m:Int),rfl,ze,by omega,by omega,fun l hl=>q l (List.range T.m) _ (s1.trans ((zf hp _).trans (zf hl _))) ?_ (fun y=>?_) (by rw[AZ];exact m9)⟩
   ·rw[ze,A4]
   ·rw[wU hs,hlk,Af]
 | false=>
  refine WP ?_
  obtain⟨t,us,ev,ht,hP⟩:=ih.node hs
  obtain⟨⟨c,hcm,cn,cp⟩,gps⟩:=gs.node hs
  have hul:=Al hP
  have a2:=Sy.ps_le s
  have ht1:=s1 _ _ ht
  rw[ev]
  refine⟨zq (by show 1<=1000;decide),fun r0 hr0=>?_⟩
  have n1:=zf hr0 (.lst [.int 0])
  refine⟨_,rfl,_,rfl,?_⟩
  refine yw (n1 _ _ ht1) fun t2 H2 s2 ht2=>?_
  rw[Qy (by simp)] at ht2
  refine⟨t2,rfl,⟨_,SqT.of ht2⟩,?_⟩
  have S2:=s1.trans (n1.trans s2)
  refine jU (xs:=us) (fun i σ H'=>(∃ (l:Addr) (P:List Nat) (x5:Option V),σ=[some (.ref e'),some (nV T.m),some (.ref t),some (.ref g),some (.ref l),x5,none,none]/\H' l=some (.lst (P.map nV))/\P.length<=9 ^ i/\∀ y,y ∈ P ↔ ∃ r,PosL T ls (s.ps.take i) r/\y=Tn.place T.m r)/\zD H2 H') ⟨⟨r0,[0],_,rfl,s2 _ _ ze,by decide,fun y=>?_⟩,zD.refl _⟩ (fun i σ H' _ h=>SqT.of (h.2 _ _ ht2)) ?_ ?_
  ·rw[AE]
   constructor
   ·rintro rfl
    exact⟨[],.nil,rfl⟩
   ·rintro⟨r,h,e⟩
    cases h
    exact e
  ·rintro i x σ H3 hx ⟨⟨l,P,x5,rfl,hl,hpl,hm⟩,s3⟩
   have hi:i < us.length:=(AC.mp hx).1
   have ha:s.ps[i]? = some s.ps[i]:=AG (by omega)
   generalize s.ps[i]=a at ha
   have hia:=Paired.at hP i _ _ ha hx
   have ham:=AI ha
   have hda:=Sy.dp_lt ham
   have S3:=S2.trans s3
   have p9:P.length<=9:=by
    have:i=0\/i=1:=by omega
    rcases this with h | h <;> rw[h] at hpl <;> omega
   match j,hj,d_possible_within with
   | 0,hj,_=>exact absurd hj (by omega)
   | j+1,hj,_=>
   refine⟨_,rfl,_,rfl,_,rfl,_,rfl,_,rfl,_,rfl,e',g,x,T,L,a,ls,rfl,hc.same S3,gT,nT,hia.same S3,gps a ham,hL,hg.same S3,hlt,by omega,fun l4 xs H4 s4 h4 hx4 x9=>?_⟩
   refine⟨l,l4,T.m,P,xs,rfl,m9,s4 _ _ hl,h4,p9,x9,fun l5 H5 s5 h5=>⟨⟨l5,_,_,rfl,h5,?_,fun y=>?_⟩,s3.trans (s4.trans s5)⟩⟩
   ·rw[Tn.flat_len _ xs.length (fun x=>by rw[AB]),CQ]
    exact Do hpl x9
   ·rw[BN,take_snoc ha]
    constructor
    ·rintro⟨p,hp,hy⟩
     obtain⟨o,ho,rfl⟩:=AM.mp hy
     obtain⟨r,hr',rfl⟩:=(hm p).mp hp
     exact⟨r++[o],zak hr' ((hx4 o).mp ho),(Tn.place_snoc _ _ _).symm⟩
    ·rintro⟨r,hr',rfl⟩
     obtain⟨r',o,rfl,h1,h2⟩:=Q0 hr'
     refine⟨Tn.place T.m r',(hm _).mpr ⟨r',h1,rfl⟩,AM.mpr ⟨o,(hx4 o).mpr h2,(Tn.place_snoc _ _ _).symm⟩⟩
  ·rintro σ H3 ⟨⟨l,P,x5,rfl,hl,hpl,hm⟩,s3⟩
   rw[<- hul,Ae] at hm
   have p81:P.length<=81:=by
    have:us.length=0\/us.length=1\/us.length=2:=by omega
    rcases this with h | h | h <;> rw[h] at hpl <;> omega
   have S3:=S2.trans s3
   have ht3:=S3 _ _ ht
   obtain⟨kvs,hk,hv⟩:=hc.same S3
   obtain⟨u,e1,e2⟩:=hv c hcm
   refine⟨_,rfl,_,rfl,.inr (.inl ⟨t,_,_,_,rfl,rfl,SqT.of ht3,at0,_,rfl,_,_,rfl,.inr ⟨_,SqT.of ht3,rfl⟩,_,_,rfl,rfl,zq (by show 2<=1000;decide),fun t4 ht4=>?_⟩)⟩
   have el:V.int (((.str s.nm :: us:List V).length:Int) - 1)=.int ((c.pl:Nat):Int):=by
    rw[Aq,<- hul,cp]
    show V.int _=V.int _
    congr 1
    omega
   dsimp only
   rw[el]
   have n4:=zf ht4 (.tup [.str s.nm,.int ((c.pl:Nat):Int)])
   have hgd:Js (upd H3 t4 (.tup [.str s.nm,.int ((c.pl:Nat):Int)])) e' (.ref t4) (jo kvs (yq c)):=Js.t (n4 _ _ hk) (by
    rw[ze]
    unfold yq
    rw[cn]
    rfl)
   rw[e1] at hgd
   refine⟨e',_,rfl,hgd,?_⟩
   have pw:∀ r,PosL T ls s.ps r->Tn.place T.m r < c.cs.length/\Tn.at' c.cs (Tn.place T.m r)=L4.cellOf T s.nm r/\Tn.at' c.cs (Tn.place T.m r) < T.m:=fun r hr'=>by
    have rw':=posL_rw gT nT hlt hr' gps
    rw[<- cp] at rw'
    obtain⟨_,_,c3⟩:=gT.cn c hcm
    have pl:=Tn.place_lt _ _ rw'
    refine⟨by rw[c3.len];exact pl,?_,c3.at_lt pl⟩
    unfold L4.cellOf
    rw[<- cn,Zg nT hcm]
   refine⟨_,rfl,l,rfl,⟨_,SqL.of (n4 _ _ hl)⟩,fun D hD=>?_⟩
   refine jv P nV (fun p=>nV (Tn.at' c.cs p)) (n4 _ _ hl) (by omega) hD (fun z hz H' Q' s2 q'=>?_) (fun H4 s4 hD4=>?_)
   ·obtain⟨r,hr',rfl⟩:=(hm z).mp hz
    exact⟨_,rfl,_,rfl,.inr (.inl ⟨u,_,_,_,rfl,rfl,SqT.of (s2 _ _ (n4 _ _ e2)),Zf (pw r hr').1,q' H' zD.rfl'⟩)⟩
   ·rw[show (P.map fun p=>nV (Tn.at' c.cs p))=(P.map (Tn.at' c.cs)).map nV by rw[A2];rfl] at hD4
    refine⟨_,rfl,D,_,rfl,.inl (SqL.of hD4),rfl,qk _,?_⟩
    rw[no_non]
    refine⟨_,rfl,WP ?_⟩
    have all9:∀ y ∈ P.map (Tn.at' c.cs),y < T.m:=fun y hy=>by
     obtain⟨p,hp,rfl⟩:=AM.mp hy
     obtain⟨r,hr',rfl⟩:=(hm p).mp hp
     exact (pw r hr').2.2
    refine⟨_,rfl,D,_,rfl,SqL.of hD4,(fun y hy=>Am (all9 y hy) m9),fun sa ds hsa nd hds=>?_⟩
    refine⟨sa,ds,rfl,ze,fun k ms hk' pm so=>q k ms _ (S3.trans (n4.trans (s4.trans ((zf hsa _).trans (zf hk' _))))) ze (fun y=>?_) ?_⟩
    ·rw[pm.mem_iff,hds,pos_node hs]
     constructor
     ·intro hy
      obtain⟨p,hp,rfl⟩:=AM.mp hy
      obtain⟨r,hr',rfl⟩:=(hm p).mp hp
      exact⟨r,hr',(pw r hr').2.1⟩
     ·rintro⟨r,hr',rfl⟩
      exact AM.mpr ⟨_,(hm _).mpr ⟨r,hr',rfl⟩,(pw r hr').2.1⟩
    ·have:=Tn.nodup_len T.m ms (pm.nodup_iff.mpr nd) fun y hy=>all9 y ((hds y).mp (pm.mem_iff.mp hy))
     omega
abbrev jH:Stmt:=top 33
theorem ZD:zC ["T", "premises", "S", "sets", "cells", "premise"] ["T", "premises", "S", "sets"] (zo jH):=⟨rfl,rfl,rfl,by decide +kernel,rfl,by decide +kernel,by decide +kernel⟩
theorem yF {P:Program} {w:World} {K:PySem.W.Frag} {mg:Str->Option Value} {base:Heap} {f:Addr} {fd:FuncData} (F:Fun K "is_closed" "is_closed" jH f fd) (gb:Gb mg) (d_cells_by_name:Def P w K mg base 1 "cells_by_name" ["H"] xJ) (d_possible_within:Def P w K mg base 18 "possible_within" ["cells", "many", "S", "sets"] (YV 12)):jt P w K mg base CX0 20 f fd ["T", "premises", "S", "sets"] Ww:=by
 refine F.ok ZD (fun vs H Q E h=>?_) (fun cdv A outer s H vs Q E hr h=>?_)
 ·obtain⟨v,pl,g,sv,T,L,ps,S,ls,rfl,_⟩:=h
  rfl
 obtain⟨v,pl,g,sv,T,L,ps,S,ls,rfl,ak,hg,hlt,q1,q0⟩:=h
 have nd0:(["one", "T"]:List Str).Nodup:=by decide +kernel
 have nd1:(["one", "T"]:List Str).Nodup:=by decide +kernel
 refine⟨_,(@zh _ _ _ _ _ (@zr _ _ 4 _ _ _ _ ZD.nd rfl (Or.inl rfl) (@zw _ _ _ _ _ _ _ _ _ _ _ d_cells_by_name hr (by omega) rfl (@zd _ _ _ _ _ (@pw _ 0 _ _ rfl rfl) (@zg _) rfl) (by decide) rfl rfl) rfl (by walk_at "f")) (@zh _ _ _ _ _ (@zP _ _ _ _ _ _ _ _ AU rfl (@zE _ K _ _ _ (@pw _ 1 _ _ rfl rfl) rfl) (@pgl _ 5 _ _ ZD.nd rfl rfl) (@zk _ _ _ (@qL _ _ _ _ _ _ _ _ (@wD _ _ _ _ (@Zp _ _ _ (@zA _ _ _ _ _ _ _ _ _ (@JG _ K rfl rfl) rfl gb.any zad (@zd _ _ _ _ _ (@qm _ ["one", "T"] [none,some 0] _ _ _ _ _ _ _ _ _ _ (by exact (show zS ["T", "premises", "S", "sets", "cells", "premise"] (zo jH) ["one", "T"] [none,some 0] _ from⟨rfl,by decide +kernel,by decide +kernel,by decide +kernel,by decide +kernel,rfl,by decide +kernel⟩)) rfl (@zE _ K _ _ _ (@zw _ _ _ _ _ _ _ _ _ _ _ d_possible_within hr (by omega) rfl (@zd _ _ _ _ _ (@pw _ 4 _ _ rfl rfl) (@zd _ _ _ _ _ (@zv _ _ _ _ _ _ _ (@zn _ K rfl) (@pw _ 0 _ _ rfl rfl) (@zi _ _ _ _) (fun _ _=>rfl)) (@zd _ _ _ _ _ (@pw _ 5 _ _ rfl rfl) (@zd _ _ _ _ _ (@pw _ 3 _ _ rfl rfl) (@zg _) rfl) rfl) rfl) rfl) (by decide) rfl rfl) rfl) (fun _ _ _ _=>(@pgl _ 0 _ _ nd0 rfl rfl)) (fun _ _ _ _=>(@qW _)) (fun _ _ _ _=>(@jp _ _ _ _ _ _ _ _ (@qo _ K rfl) (@pw _ 0 _ _ rfl rfl) (@zv _ _ _ _ _ _ _ (@zn _ K rfl) (@pw _ 1 _ _ rfl rfl) (@zi _ _ _ _) (fun _ _=>rfl)) (by with_unfolding_all rfl))) (by intro _;rfl)) (@zg _) rfl) (by decide) (by decide) rfl rfl) (by intro _;rfl))) (@zk _ _ _ (@zB _ _ _ _ (@Jh _ _ _ _))) (@zO _))) (by intro _;rfl)) (@zk _ _ _ (@zB _ _ _ _ (@zA _ _ _ _ _ _ _ _ _ (@Jp _ K rfl rfl) rfl gb.all Xu (@zd _ _ _ _ _ (@qm _ ["one", "T"] [none,some 0] _ _ _ _ _ _ _ _ _ _ (by exact (show zS ["T", "premises", "S", "sets", "cells", "premise"] (zo jH) ["one", "T"] [none,some 0] _ from⟨rfl,by decide +kernel,by decide +kernel,by decide +kernel,by decide +kernel,rfl,by decide +kernel⟩)) rfl (@zE _ K _ _ _ (@zw _ _ _ _ _ _ _ _ _ _ _ d_possible_within hr (by omega) rfl (@zd _ _ _ _ _ (@pw _ 4 _ _ rfl rfl) (@zd _ _ _ _ _ (@zv _ _ _ _ _ _ _ (@zn _ K rfl) (@pw _ 0 _ _ rfl rfl) (@zi _ _ _ _) (fun _ _=>rfl)) (@zd _ _ _ _ _ (@pw _ 2 _ _ rfl rfl) (@zd _ _ _ _ _ (@pw _ 3 _ _ rfl rfl) (@zg _) rfl) rfl) rfl) rfl) (by decide) rfl rfl) rfl) (fun _ _ _ _=>(@pgl _ 0 _ _ nd1 rfl rfl)) (fun _ _ _ _=>(@qW _)) (fun _ _ _ _=>(@jp _ _ _ _ _ _ _ _ (@qo _ K rfl) (@pw _ 0 _ _ rfl rfl) (@zv _ _ _ _ _ _ _ (@zn _ K rfl) (@pw _ 1 _ _ rfl rfl) (@zi _ _ _ _) (fun _ _=>rfl)) (by with_unfolding_all rfl))) (by intro _;rfl)) (@zg _) rfl) (by decide) (by decide) rfl rfl))))),?_⟩
 obtain⟨a,w0,c0,vs0,rfl,h1,h2,h3,h4⟩:=id ak.tb
 refine⟨_,rfl,_,T,rfl,ak.tb,ak.gt,ak.nd,fun e' H1 s1 hc=>?_⟩
 refine⟨_,rfl,pl,rfl,⟨_,SqL.of (s1 _ _ ak.hp)⟩,?_⟩
 refine qf (xs:=ps.map Prod.fst) (fun i σ H'=>(∃ x5,σ=[some (.ref a),some (.ref pl),some sv,some (.ref g),some (.ref e'),x5])/\zD H H'/\zD H1 H'/\∀ z ∈ ps.take i,∃ y,WS T ls z.2 y/\y ∈ T.ws) ⟨⟨_,rfl⟩,s1,zD.refl _,(fun z hz=>by cases hz)⟩ (fun i σ H' _ h=>SqL.of (h.2.1 _ _ ak.hp)) ?_ ?_
 ·rintro i x σ H0 hx' ⟨⟨x5,rfl⟩,s0,s01,hall⟩
  rw[AJ] at hx'
  obtain⟨z,hzi,rfl⟩:=AX.mp hx'
  have hzm:=AI hzi
  obtain⟨gz,dz,_,iz⟩:=ak.ps z hzm
  refine⟨_,rfl,_,rfl,.inr (.inl ⟨a,_,0,_,rfl,rfl,SqT.of (s0 _ _ h1),rfl,_,rfl,_,rfl,e',g,z.1,T,L,_,ls,rfl,hc.same s01,ak.gt,ak.nd,iz.same s0,gz,ak.hL,hg.same s0,hlt,show _<=11 by omega,fun l xs H2 s2 hl hx x9=>?_⟩)⟩
  refine⟨l,rfl,⟨_,SqL.of hl⟩,fun D hD=>?_⟩
  have h1':=s2 _ _ (s0 _ _ h1)
  have h2':=s2 _ _ (s0 _ _ h2)
  refine jv xs nV (fun y=>.bl (decide (y ∈ T.ws))) hl (by omega) hD (fun y hy H' Q' s3 q'=>?_) (fun H3 s3 hD3=>?_)
  ·refine⟨_,rfl,_,rfl,.inr (.inl ⟨a,_,1,_,rfl,rfl,SqT.of (s3 _ _ h1'),rfl,w0,_,rfl,.inr (SqT.of (s3 _ _ h2')),rfl,qk _,?_⟩)⟩
   have q2:=q' H' zD.rfl'
   rw[<- jq] at q2
   exact q2
  rw[Yf] at hD3
  refine⟨D,_,rfl,SqL.of hD3,?_⟩
  refine⟨_,rfl,?_⟩
  cases hany:(xs.map fun y=>decide (y ∈ T.ws)).any id with
  | true=>
   refine⟨⟨_,rfl⟩,s0.trans (s2.trans s3),s01.trans (s2.trans s3),fun z' hz'=>?_⟩
   rw[take_snoc hzi] at hz'
   rcases AQ.mp hz' with h | h
   ·exact hall z' h
   ·rw[AE.mp h]
    obtain⟨b,hb,eb⟩:=Cj.mp hany
    obtain⟨y,hy,rfl⟩:=AM.mp hb
    exact⟨y,(hx y).mp hy,Ak eb⟩
  | false=>
   refine q1 (.inl ⟨z.2,AM.mpr ⟨z,hzm,rfl⟩,fun y hy hw=>?_⟩) _ (s0.trans (s2.trans s3))
   have:(xs.map fun y=>decide (y ∈ T.ws)).any id=true:=Cj.mpr ⟨_,AM.mpr ⟨y,(hx y).mpr hy,rfl⟩,Ai hw⟩
   rw[hany] at this
   cases this
 ·rintro σ H0 ⟨⟨x5,rfl⟩,s0,s01,hall⟩
  rw[AB,Ae] at hall
  refine⟨_,rfl,_,rfl,.inr (.inl ⟨a,_,0,_,rfl,rfl,SqT.of (s0 _ _ h1),rfl,_,rfl,_,rfl,e',g,sv,T,L,_,ls,rfl,hc.same s01,ak.gt,ak.nd,ak.sv.same s0,ak.gs,ak.hL,hg.same s0,hlt,show _<=11 from Ab ak.sd (by decide),fun l xs H2 s2 hl hx x9=>?_⟩)⟩
  refine⟨l,rfl,⟨_,SqL.of hl⟩,fun D hD=>?_⟩
  have h1':=s2 _ _ (s0 _ _ h1)
  have h2':=s2 _ _ (s0 _ _ h2)
  refine jv xs nV (fun y=>.bl (decide (y ∈ T.ws))) hl (by omega) hD (fun y hy H' Q' s3 q'=>?_) (fun H3 s3 hD3=>?_)
  ·refine⟨_,rfl,_,rfl,.inr (.inl ⟨a,_,1,_,rfl,rfl,SqT.of (s3 _ _ h1'),rfl,w0,_,rfl,.inr (SqT.of (s3 _ _ h2')),rfl,qk _,?_⟩)⟩
   have q2:=q' H' zD.rfl'
   rw[<- jq] at q2
   exact q2
  rw[Yf] at hD3
  refine⟨D,_,rfl,SqL.of hD3,?_⟩
  have S3:=s0.trans (s2.trans s3)
  cases hal:(xs.map fun y=>decide (y ∈ T.ws)).all id with
  | true=>
   refine q1 (.inr fun y hy=>?_) _ S3
   exact Ak (A0.mp hal _ (AM.mpr ⟨y,(hx y).mpr hy,rfl⟩))
  | false=>
   refine q0 (fun clo=>?_) _ S3
   rcases clo with ⟨p,hp,hn⟩ | h
   ·obtain⟨z,hz,rfl⟩:=AM.mp hp
    obtain⟨y,hy,hw⟩:=hall z hz
    exact hn y hy hw
   ·have:(xs.map fun y=>decide (y ∈ T.ws)).all id=true:=A0.mpr fun b hb=>by
     obtain⟨y,hy,rfl⟩:=AM.mp hb
     exact Ai (h y ((hx y).mp hy))
    rw[hal] at this
    cases this
abbrev Zj:Stmt:=top 32
theorem jn:zC ["T", "premises", "S", "letters", "sets", "letter", "trees", "one", "answer"] ["T", "premises", "S", "letters", "sets"] (zo Zj):=⟨rfl,rfl,rfl,by decide +kernel,rfl,by decide +kernel,by decide +kernel⟩
theorem yG {P:Program} {w:World} {K:PySem.W.Frag} {mg:Str->Option Value} {base:Heap} {f:Addr} {fd:FuncData} (F:Fun K "answer_by" "answer_by" Zj f fd) (gb:Gb mg) (d_is_closed:Def P w K mg base 20 "is_closed" ["T", "premises", "S", "sets"] Ww) (d_with_letter:Def P w K mg base 1 "with_letter" ["by_letter", "letter", "given"] Yg) (j:Nat) (d_answer_by:Def P w K mg base (22+j) "answer_by" ["T", "premises", "S", "letters", "sets"] (Jf j)):jt P w K mg base CX0 (22+j+1) f fd ["T", "premises", "S", "letters", "sets"] (Jf (j+1)):=by
 refine F.ok jn (fun vs H Q E h=>?_) (fun cdv A outer s H vs Q E hr h=>?_)
 ·obtain⟨v,pl,la,g,sv,T,L,ps,S,ls,rfl,_⟩:=h
  rfl
 obtain⟨v,pl,la,g,sv,T,L,ps,S,ls,rfl,ak,nd,hla,hg,hlt,hls,hj,q1,q0⟩:=h
 have nd0:(["letter", "sets"]:List Str).Nodup:=by decide +kernel
 refine⟨_,(@zh _ _ _ _ _ (@qL _ _ _ _ _ _ _ _ (@Zp _ _ _ (@zw _ _ _ _ _ _ _ _ _ _ _ d_is_closed hr (by omega) rfl (@zd _ _ _ _ _ (@pw _ 0 _ _ rfl rfl) (@zd _ _ _ _ _ (@pw _ 1 _ _ rfl rfl) (@zd _ _ _ _ _ (@pw _ 2 _ _ rfl rfl) (@zd _ _ _ _ _ (@pw _ 4 _ _ rfl rfl) (@zg _) rfl) rfl) rfl) rfl) (by decide) rfl rfl) (by intro _;rfl)) (@zk _ _ _ (@zB _ _ _ _ (@qd _ _ _ _ _ (@zd _ _ _ _ _ (@jP _ _ _ _) (@zd _ _ _ _ _ (@qd _ _ _ _ _ (@zd _ _ _ _ _ (@jP _ _ _ _) (@zg _) rfl)) (@zg _) rfl) rfl)))) (@zO _)) (@zh _ _ _ _ _ (@qL _ _ _ _ _ _ _ _ (@zF _ _ _ _ _ _ _ _ (@Zr _) (@zA _ _ _ _ _ _ _ _ _ (@yp _) rfl gb.len qX (@zd _ _ _ _ _ (@pw _ 4 _ _ rfl rfl) (@zg _) rfl) (by decide) (by decide) rfl rfl) (@zA _ _ _ _ _ _ _ _ _ (@zT _ K rfl) rfl gb.len qX (@zd _ _ _ _ _ (@pw _ 3 _ _ rfl rfl) (@zg _) rfl) (by decide) (by decide) rfl rfl) (@zW _ _ (by decide) (by decide))) (@zk _ _ _ (@zB _ _ _ _ (@qd _ _ _ _ _ (@zd _ _ _ _ _ (@jP _ _ _ _) (@zd _ _ _ _ _ (@pe_dictP _ K _ _ _ _ rfl gb.dict (@zd _ _ _ _ _ (@qm _ ["letter", "sets"] [none,some 4] _ _ _ _ _ _ _ _ _ _ (by exact (show zS ["T", "premises", "S", "letters", "sets", "letter", "trees", "one", "answer"] (zo Zj) ["letter", "sets"] [none,some 4] _ from⟨rfl,by decide +kernel,by decide +kernel,by decide +kernel,by decide +kernel,rfl,by decide +kernel⟩)) rfl (@zE _ K _ _ _ (@pw _ 3 _ _ rfl rfl) rfl) (fun _ _ _ _=>(@pgl _ 0 _ _ nd0 rfl rfl)) (fun _ _ _ _=>(@qW _)) (fun _ _ _ _=>(@qd _ _ _ _ _ (@zd _ _ _ _ _ (@pw _ 0 _ _ rfl rfl) (@zd _ _ _ _ _ (@zv _ _ _ _ _ _ _ (@zn _ K rfl) (@Jw _ _ _ _ _ _ (@pw _ 1 _ _ rfl rfl) (@pw _ 0 _ _ rfl rfl) (fun _ _=>rfl)) (@zi _ _ _ _) (fun _ _=>rfl)) (@zg _) rfl) rfl))) (by intro _;rfl)) (@zg _) rfl) rfl rfl rfl) (@zg _) rfl) rfl)))) (@zO _)) (@zh _ _ _ _ _ (@zr _ _ 5 _ _ _ _ jn.nd rfl (Or.inl rfl) (@zv _ _ _ _ _ _ _ (@zn _ K rfl) (@pw _ 3 _ _ rfl rfl) (@zA _ _ _ _ _ _ _ _ _ (@yp _) rfl gb.len qX (@zd _ _ _ _ _ (@pw _ 4 _ _ rfl rfl) (@zg _) rfl) (by decide) (by decide) rfl rfl) (fun _ _=>rfl)) rfl (by walk_at "f")) (@zh _ _ _ _ _ (@zr _ _ 6 _ _ _ _ jn.nd rfl (Or.inl rfl) (@zN _ _ _ _ (@zg _)) rfl (by walk_at "f")) (@zh _ _ _ _ _ (@zP _ _ _ _ _ _ _ _ AU rfl (@qj _ _ _ _ _ _ rfl gb.range (@zd _ _ _ _ _ (@zv _ _ _ _ _ _ _ (@zn _ K rfl) (@pw _ 0 _ _ rfl rfl) (@zi _ _ _ _) (fun _ _=>rfl)) (@zg _) rfl) rfl) (@pgl _ 7 _ _ jn.nd rfl rfl) (@zh _ _ _ _ _ (@zr _ _ 8 _ _ _ _ jn.nd rfl (Or.inl rfl) (@zw _ _ _ _ _ _ _ _ _ _ _ d_answer_by hr (by omega) rfl (@zd _ _ _ _ _ (@pw _ 0 _ _ rfl rfl) (@zd _ _ _ _ _ (@pw _ 1 _ _ rfl rfl) (@zd _ _ _ _ _ (@pw _ 2 _ _ rfl rfl) (@zd _ _ _ _ _ (@pw _ 3 _ _ rfl rfl) (@zd _ _ _ _ _ (@zw _ _ _ _ _ _ _ _ _ _ _ d_with_letter hr (by omega) rfl (@zd _ _ _ _ _ (@pw _ 4 _ _ rfl rfl) (@zd _ _ _ _ _ (@pw _ 5 _ _ rfl rfl) (@zd _ _ _ _ _ (@qd _ _ _ _ _ (@zd _ _ _ _ _ (@pw _ 7 _ _ rfl rfl) (@zg _) rfl)) (@zg _) rfl) rfl) rfl) (by decide) rfl rfl) (@zg _) rfl) rfl) rfl) rfl) rfl) (by decide) rfl rfl) rfl (by walk_at "f")) (@zh _ _ _ _ _ (@qL _ _ _ _ _ _ _ _ (@zF _ _ _ _ _ _ _ _ (@Zr _) (@zv _ _ _ _ _ _ _ (@zn _ K rfl) (@pw _ 8 _ _ rfl rfl) (@zi _ _ _ _) (fun _ _=>rfl)) (@jP _ _ _ _) (@zW _ _ (by decide) (by decide))) (@zk _ _ _ (@zB _ _ _ _ (@pw _ 8 _ _ rfl rfl))) (@zO _)) (@zk _ _ _ (@qi _ _ _ _ (@qE _ K _ _ _ _ _ _ _ _ _ _ _ Ac As Ar (@zX _) (@pw _ 6 _ _ rfl rfl) (@zd _ _ _ _ _ (@zv _ _ _ _ _ _ _ (@zn _ K rfl) (@pw _ 8 _ _ rfl rfl) (@zi _ _ _ _) (fun _ _=>rfl)) (@zg _) rfl) rfl rfl rfl rfl rfl rfl) rfl)))) (by intro _;rfl)) (@zk _ _ _ (@zB _ _ _ _ (@qd _ _ _ _ _ (@zd _ _ _ _ _ (@jP _ _ _ _) (@zd _ _ _ _ _ (@qd _ _ _ _ _ (@zd _ _ _ _ _ (@jP _ _ _ _) (@zd _ _ _ _ _ (@pw _ 5 _ _ rfl rfl) (@zd _ _ _ _ _ (@zG _ _ _ _ _ _ _ _ _ (@zL _ K rfl) rfl gb.tuple qO (@zd _ _ _ _ _ (@pw _ 6 _ _ rfl rfl) (@zg _) rfl) (by decide) (by decide) rfl rfl) (@zg _) rfl) rfl) rfl)) (@zg _) rfl) rfl))))))))),?_⟩
 obtain⟨a,w0,c0,vs0,rfl,h1,h2,h3,h4⟩:=id ak.tb
 have m9:=ak.gt.m9
 have m1:=ak.gt.m1
 have l5:=ak.ln
 have hll:ls.length<=L.length:=by
  have:=BQ List.length hls
  rw[AB,An] at this
  omega
 refine⟨_,rfl,_,rfl,_,rfl,_,rfl,_,pl,g,sv,T,L,ps,S,ls,rfl,ak,hg,hlt,fun clo H1 s1=>⟨_,rfl,W5 ?_⟩,fun nclo H1 s1=>⟨_,rfl,WP ?_⟩⟩
 ·refine⟨zq (by show 1<=1000;decide),fun t1 ht1=>⟨zq (by show 2<=1000;decide),fun t2 ht2=>q1 (clo_fol clo) t2 (.ref t1) _ (s1.trans ((zf ht1 _).trans (zf ht2 _))) ze⟩⟩
 obtain⟨kvs,hk,hP⟩:=hg.same s1
 have hkl:=Al hP
 refine⟨_,rfl,g,kvs,rfl,hk,_,rfl,_,_,rfl,.inl ⟨_,SqL.of (s1 _ _ hla),rfl⟩,rfl,_,rfl,?_⟩
 rw[AB]
 by_cases hfull:ls.length=L.length
 ·refine iteDT (Ai (by rw[<- hkl,hfull])) ?_
  rw[hfull,Ae] at hls
  have γd:∃ γ:Str->Nat,Gd T γ/\∀ x ∈ L,ls.lookup x=some (γ x):=by
   refine⟨fun x=>(ls.lookup x).getD 0,fun x=>?_,fun x hx=>?_⟩
   ·show (ls.lookup x).getD 0 < T.m
    cases e:ls.lookup x with
    | none=>exact m1
    | some o=>exact hlt (x,o) (ZN e)
   ·obtain⟨o,e⟩:=xF nd hls hx
    show ls.lookup x=some ((ls.lookup x).getD 0)
    rw[e]
    rfl
  obtain⟨γ,gd,hγ⟩:=γd
  have kp:Keeps γ ls:=fun p hp=>by
   have e1:=zaq (by rw[hls];exact nd) hp
   have e2:=hγ p.1 (by rw[<- hls];exact AM.mpr ⟨p,hp,rfl⟩)
   rw[e1] at e2
   exact (Ad e2).symm
  have bar:Bar T γ (ps.map Prod.snd) S:=bar_of nclo (fun p hp x hx=>by
   obtain⟨z,hz,rfl⟩:=AM.mp hp
   exact hγ x ((ak.ps z hz).1.lets_in hx)) fun x hx=>hγ x (ak.gs.lets_in hx)
  refine⟨_,rfl,la,rfl,⟨_,SqL.of (s1 _ _ hla)⟩,fun D hD=>?_⟩
  refine jD (xs:=L.map V.str) (fun i ys H'=>zD H1 H'/\Prs H' ys ((L.take i).map fun x=>((Sum.inr x:Key),nV (γ x)))/\ys.length=i) ⟨zf hD _,.nil,rfl⟩ (fun i ys H' h _=>SqL.of (h.1 _ _ (s1 _ _ hla))) ?_ ?_
  ·rintro i ys H2 y hy ⟨s2,hpr,hyl⟩ hD2
   rw[AJ] at hy
   obtain⟨x,hx,rfl⟩:=AX.mp hy
   have hi:=(AC.mp hx).1
   have hv:=YR hP x
   rw[hγ x (AI hx)] at hv
   obtain⟨u,e1,e2⟩:=hv
   refine yes ⟨_,rfl,_,rfl,_,rfl,g,kvs,Sum.inr x,_,rfl,s2 _ _ hk,rfl,e1,.inr (.inl ⟨u,_,0,_,rfl,rfl,SqT.of (s2 _ _ e2),rfl,zq (by show 2<=1000;decide),fun t3 ht3=>?_⟩)⟩
   have n3:=zf ht3 (.tup [.str x,nV (γ x)])
   have hD3:=n3 _ _ hD2
   refine WQ (by rw[AB];exact hi) jM hD3 (zu (by omega)) ⟨(s2.trans n3).put hD,?_,by rw[AH,hyl];rfl⟩
   rw[take_snoc hx,AL]
   exact Prs.snoc (p:=(Sum.inr x,nV (γ x))) (Prs.tk (Tk.put hD3) (Prs.tk (Tk.of n3) hpr)) (Tk.put hD3 _ _ ze)
  ·rintro ys H2 ⟨s2,hpr,hyl⟩ hD2
   rw[AB,Ae] at hpr
   refine⟨D,ys,_,rfl,hD2,hpr,fun dd hdd=>?_⟩
   rw[gkv_put nd]
   refine⟨zq (by show 2<=1000;decide),fun t5 ht5=>q0 γ gd kp bar t5 dd _ (s1.trans (s2.trans ((zf hdd _).trans (zf ht5 _)))) ze ((zf ht5 _) _ _ ze)⟩
 refine iteDF (Aw (by rw[<- hkl];intro z;exact hfull (by have:=V.int.inj z;omega))) ?_
 have hlt2:ls.length < L.length:=by omega
 have hxl:L[ls.length]? = some L[ls.length]:=AG hlt2
 generalize L[ls.length]=x at hxl
 have hxn:x ∉ ls.map Prod.fst:=by
  rw[hls]
  intro hm
  obtain⟨i,hi,e⟩:=List.mem_take_iff_getElem.mp hm
  obtain⟨hk2,e2⟩:=AC.mp hxl
  exact (Co.mp nd) i ls.length (by omega) hk2 (by omega) (by rw[e,e2])
 refine⟨_,rfl,_,rfl,g,kvs,rfl,hk,.inl ⟨la,_,_,.str x,rfl,rfl,SqL.of (s1 _ _ hla),(by rw[<- hkl];exact qw (by rw[AJ,hxl];rfl)),?_⟩⟩
 refine⟨zq (by show 0<=1000;decide),fun tl htl=>?_⟩
 have n1:=zf htl (.lst [])
 refine⟨_,rfl,.inr (.inl ⟨a,_,0,_,rfl,rfl,SqT.of (n1 _ _ (s1 _ _ h1)),rfl,(T.m:Int),rfl,by omega,by omega,?_⟩)⟩
 rw[A4]
 have hHtl:=s1.free htl
 refine qM (fun i σ H'=>(∃ x7 x8,σ=[some (.ref a),some (.ref pl),some sv,some (.ref la),some (.ref g),some (.str x),some (.ref tl),x7,x8])/\zD H H'/\(∃ ys,H' tl=some (.lst ys)/\ys.length=i)/\∀ o,o < i->FolL T (ls++[(x,o)]) (ps.map Prod.snd) S) ⟨⟨_,_,rfl⟩,s1.trans n1,⟨[],ze,rfl⟩,fun o ho=>absurd ho (CT _)⟩ ?_ ?_
 ·rintro i σ H2 hi ⟨⟨x7,x8,rfl⟩,s2,⟨ys,hys,hyl⟩,hfol⟩
  match j,hj,d_answer_by with
  | 0,hj,_=>exact absurd hj (by omega)
  | j+1,hj,_=>
  rw[show (0:Int)+(i:Int)=((i:Nat):Int) by omega]
  refine⟨_,rfl,_,rfl,_,rfl,_,rfl,_,rfl,_,rfl,_,rfl,zq (by show 1<=1000;decide),fun u hu=>?_⟩
  have n2:=zf hu (.tup [nV i])
  have S3:=s2.trans n2
  refine⟨g,u,x,i,ls,rfl,hg.same S3,by omega,hxn,ze,fun g' H4 s4 hg'=>?_⟩
  have S4:=S3.trans s4
  have tl4:=s4 _ _ (n2 _ _ hys)
  refine⟨_,pl,la,g',sv,T,L,ps,S,ls++[(x,i)],rfl,ak.same S4,nd,S4 _ _ hla,hg',(fun p hp=>?_),?_,?_,fun fol t tv H5 s5 ht=>?_,fun γ gd kp bar t dd H5 s5 ht hd=>?_⟩
  ·rcases AQ.mp hp with hp | hp
   ·exact hlt p hp
   ·rw[AE.mp hp]
    exact hi
  ·rw[AL,AH,hls]
   exact (take_snoc hxl).symm
  ·rw[AH]
   show L.length<=ls.length+1+j
   omega
  ·refine⟨_,rfl,.inr (.inl ⟨t,_,0,_,rfl,rfl,SqT.of ht,rfl,rfl,_,rfl,iteDF (by decide +kernel) ?_⟩)⟩
   have tl5:=s5 _ _ tl4
   refine⟨_,rfl,.inl ⟨rfl,_,SqL.of tl5⟩,_,rfl,.inr (.inl ⟨t,_,1,_,rfl,rfl,SqT.of ht,rfl,?_⟩)⟩
   refine⟨tl,_,_,rfl,rfl,tl5,zu (by omega),⟨_,_,rfl⟩,(S4.trans s5).put hHtl,⟨_,ze,by rw[AH,hyl];rfl⟩,fun o ho=>?_⟩
   by_cases e:o=i
   ·rw[e]
    exact fol
   ·exact hfol o (by omega)
  ·refine⟨_,rfl,.inr (.inl ⟨t,_,0,_,rfl,rfl,SqT.of ht,rfl,rfl,_,rfl,iteDT (by decide +kernel) ?_⟩)⟩
   exact⟨_,rfl,q0 γ gd (xE kp) bar t dd H5 (S4.trans s5) ht hd⟩
 ·rintro σ H2 ⟨⟨x7,x8,rfl⟩,s2,⟨ys,hys,hyl⟩,hfol⟩
  refine⟨_,rfl,_,rfl,tl,ys,rfl,.inl ⟨SqL.of hys,fun t1 ht1=>?_⟩⟩
  refine⟨zq (by show 3<=1000;decide),fun t2 ht2=>⟨zq (by show 2<=1000;decide),fun t3 ht3=>q1 (zal x hfol) t3 (.ref t2) _ (s2.trans ((zf ht1 _).trans ((zf ht2 _).trans (zf ht3 _)))) ze⟩⟩
abbrev J3:Stmt:=top 31
theorem QT:zC ["T", "premises", "S", "sayings", "saying"] ["T", "premises", "S"] (zo J3):=⟨rfl,rfl,rfl,by decide +kernel,rfl,by decide +kernel,by decide +kernel⟩
theorem xM {P:Program} {w:World} {K:PySem.W.Frag} {mg:Str->Option Value} {base:Heap} {f:Addr} {fd:FuncData} (F:Fun K "follows" "follows" J3 f fd) (gb:Gb mg) (d_check_names:Def P w K mg base 3 "check_names" ["shapes", "parts"] zar) (d_cells_by_name:Def P w K mg base 1 "cells_by_name" ["H"] xJ) (d_written_parts:Def P w K mg base 3 "written_parts" ["S"] YU) (d_letters_of_all:Def P w K mg base 4 "letters_of_all" ["sayings"] Wv) (d_answer_by:Def P w K mg base 28 "answer_by" ["T", "premises", "S", "letters", "sets"] (Jf 6)):jt P w K mg base CX0 30 f fd ["T", "premises", "S"] Qz:=by
 refine F.ok QT (fun vs H Q E h=>?_) (fun cdv A outer s H vs Q E hr h=>?_)
 ·obtain⟨v,pl,sv,T,L,ps,S,rfl,_⟩:=h
  rfl
 obtain⟨v,pl,sv,T,L,ps,S,rfl,ak,q1,q0⟩:=h
 refine⟨_,(@zh _ _ _ _ _ (@zr _ _ 3 _ _ _ _ QT.nd rfl (Or.inl rfl) (@zy _ _ _ _ _ _ _ _ (@Jl _) (@zG _ _ _ _ _ _ _ _ _ (@Zb _ K rfl) rfl gb.list Z7 (@zd _ _ _ _ _ (@pw _ 1 _ _ rfl rfl) (@zg _) rfl) (by decide) (by decide) rfl rfl) (@zN _ _ _ _ (@zd _ _ _ _ _ (@pw _ 2 _ _ rfl rfl) (@zg _) rfl))) rfl (by walk_at "f")) (@zh _ _ _ _ _ (@zP _ _ _ _ _ _ _ _ AU rfl (@zE _ K _ _ _ (@pw _ 3 _ _ rfl rfl) rfl) (@pgl _ 4 _ _ QT.nd rfl rfl) (@zk _ _ _ (@qi _ _ _ _ (@zw _ _ _ _ _ _ _ _ _ _ _ d_check_names hr (by omega) rfl (@zd _ _ _ _ _ (@zw _ _ _ _ _ _ _ _ _ _ _ d_cells_by_name hr (by omega) rfl (@zd _ _ _ _ _ (@pw _ 0 _ _ rfl rfl) (@zg _) rfl) (by decide) rfl rfl) (@zd _ _ _ _ _ (@zw _ _ _ _ _ _ _ _ _ _ _ d_written_parts hr (by omega) rfl (@zd _ _ _ _ _ (@pw _ 4 _ _ rfl rfl) (@zg _) rfl) (by decide) rfl rfl) (@zg _) rfl) rfl) (by decide) rfl rfl) rfl)) (by intro _;rfl)) (@zk _ _ _ (@zB _ _ _ _ (@zw _ _ _ _ _ _ _ _ _ _ _ d_answer_by hr (by omega) rfl (@zd _ _ _ _ _ (@pw _ 0 _ _ rfl rfl) (@zd _ _ _ _ _ (@pw _ 1 _ _ rfl rfl) (@zd _ _ _ _ _ (@pw _ 2 _ _ rfl rfl) (@zd _ _ _ _ _ (@zw _ _ _ _ _ _ _ _ _ _ _ d_letters_of_all hr (by omega) rfl (@zd _ _ _ _ _ (@pw _ 3 _ _ rfl rfl) (@zg _) rfl) (by decide) rfl rfl) (@zd _ _ _ _ _ (@Wh _ _) (@zg _) rfl) rfl) rfl) rfl) rfl) (by decide) rfl rfl))))),?_⟩
 refine⟨_,rfl,pl,_,rfl,.inl (SqL.of ak.hp),fun l1 hl1=>?_⟩
 have n1:=zf hl1 (.lst (ps.map Prod.fst))
 refine⟨_,rfl,zq (by show 1<=1000;decide),fun l2 hl2=>?_⟩
 have n2:=zf hl2 (.lst [sv])
 have pn:=ak.pn
 refine⟨l1,l2,_,_,rfl,rfl,n2 _ _ ze,ze,by rw[AB];exact zq (by show ps.length+1<=1000;omega),fun l3 hl3=>?_⟩
 have n3:=zf hl3 (.lst (ps.map Prod.fst++[sv]))
 have eq3:(ps++[(sv,S)]).map Prod.fst=ps.map Prod.fst++[sv]:=by rw[AL];rfl
 have hl3':=@ze (upd (upd H l1 (.lst (ps.map Prod.fst))) l2 (.lst [sv])) l3 (.lst (ps.map Prod.fst++[sv]))
 rw[<- eq3] at hl3' n3 ⊢
 have S3:=n1.trans (n2.trans n3)
 generalize upd (upd (upd H l1 (.lst (ps.map Prod.fst))) l2 (.lst [sv])) l3 (.lst ((ps++[(sv,S)]).map Prod.fst))=H3 at *
 have allq:∀ z ∈ ps++[(sv,S)],GSt T L z.2/\z.2.sz<=63/\jL H3 z.2 z.1:=fun z hz=>by
  rcases AQ.mp hz with hz | hz
  ·obtain⟨k1,k2,k3,k4⟩:=ak.ps z hz
   exact⟨k1,k3,k4.same S3⟩
  ·rw[AE.mp hz]
   exact⟨ak.gs,ak.sz,ak.sv.same S3⟩
 refine⟨_,rfl,l3,rfl,⟨_,SqL.of hl3'⟩,?_⟩
 refine qf (xs:=(ps++[(sv,S)]).map Prod.fst) (fun i σ H'=>(∃ x4,σ=[some v,some (.ref pl),some sv,some (.ref l3),x4])/\zD H3 H') ⟨⟨_,rfl⟩,zD.refl _⟩ (fun i σ H' _ h=>SqL.of (h.2 _ _ hl3')) ?_ ?_
 ·rintro i x σ H4 hx ⟨⟨x4,rfl⟩,s4⟩
  rw[AJ] at hx
  obtain⟨z,hzi,rfl⟩:=AX.mp hx
  obtain⟨gz,z63,iz⟩:=allq z (AI hzi)
  refine⟨_,rfl,v,T,rfl,ak.tb.same (S3.trans s4),ak.gt,ak.nd,fun e' H5 s5 hc=>⟨_,rfl,z.1,z.2,rfl,iz.same (s4.trans s5),WT.of ak.hL gz,z63,fun l us H6 s6 hl hP=>⟨e',l,us,z.2.sub,T,L,rfl,hc.same s6,hl,hP,(fun s hs=>gz.sub hs),ak.hL,fun H7 s7=>⟨⟨_,rfl⟩,s4.trans (s5.trans (s6.trans s7))⟩⟩⟩⟩
 ·rintro σ H4 ⟨⟨x4,rfl⟩,s4⟩
  refine⟨_,rfl,_,rfl,_,rfl,_,rfl,l3,ps++[(sv,S)],L,rfl,s4 _ _ hl3',(fun z hz=>⟨WT.of ak.hL (allq z hz).1,(allq z hz).2.2.same s4⟩),by rw[AH];show ps.length+1<=15;omega,(fun z hz=>⟨(allq z hz).2.1,fun x hx=>(allq z hz).1.lets_in hx⟩),by have:=ak.ln;omega,fun k M H5 s5 hk nd hm so=>fun dd hdd=>?_⟩
  have n6:=zf hdd (.dK [])
  have S6:=S3.trans (s4.trans (s5.trans n6))
  have hm2:∀ x,x ∈ M ↔ (∃ z ∈ ps,x ∈ z.2.lets)\/x ∈ S.lets:=fun x=>by
   rw[hm]
   constructor
   ·rintro⟨z,hz,hx⟩
    rcases AQ.mp hz with hz | hz
    ·exact .inl ⟨z,hz,hx⟩
    ·rw[AE.mp hz] at hx
     exact .inr hx
   ·rintro (⟨z,hz,hx⟩ | hx)
    ·exact⟨z,Ah _ hz,hx⟩
    ·exact⟨(sv,S),Aa _ (AE.mpr rfl),hx⟩
  have hML:∀ x ∈ M,x ∈ L:=fun x hx=>by
   rcases (hm2 x).mp hx with ⟨z,hz,hx⟩ | hx
   ·exact (ak.ps z hz).1.lets_in hx
   ·exact ak.gs.lets_in hx
  have hM5:M.length<=5:=Ab (jE M L nd hML) ak.ln
  refine⟨v,pl,k,dd,sv,T,M,ps,S,[],rfl,(ak.same S6).lets hML (fun z hz x hx=>(hm2 x).mpr (.inl ⟨z,hz,hx⟩)) (fun x hx=>(hm2 x).mpr (.inr hx)) hM5,nd,n6 _ _ hk,⟨[],ze,.nil⟩,(fun p hp=>by cases hp),rfl,(show M.length<=0+5 by omega),fun fol t tv H7 s7 ht=>q1 (fol_nil.mp fol) t tv H7 (S6.trans s7) ht,fun γ gd _ bar t d' H7 s7 ht hd=>q0 γ M gd bar nd hm2 t d' H7 (S6.trans s7) ht hd⟩
abbrev j8:Stmt:=top 18
theorem jI:zC ["T", "steps", "name", "places", "cells"] ["T"] (zo j8):=⟨rfl,rfl,rfl,by decide +kernel,rfl,by decide +kernel,by decide +kernel⟩
theorem Yq {P:Program} {w:World} {K:PySem.W.Frag} {mg:Str->Option Value} {base:Heap} {f:Addr} {fd:FuncData} (F:Fun K "steps_of" "steps_of" j8 f fd) (gb:Gb mg):jt P w K mg base CX0 1 f fd ["T"] WE:=by
 refine F.ok jI (fun vs H Q E h=>?_) (fun cdv A outer s H vs Q E hr h=>?_)
 ·obtain⟨v,T,rfl,_⟩:=h
  rfl
 obtain⟨v,T,rfl,ia,gT,q⟩:=h
 have nd0:(["other", "name"]:List Str).Nodup:=by decide +kernel
 have nd1:(["other", "name"]:List Str).Nodup:=by decide +kernel
 refine⟨_,(@zh _ _ _ _ _ (@zr _ _ 1 _ _ _ _ jI.nd rfl (Or.inl rfl) (@zN _ _ _ _ (@zg _)) rfl (by walk_at "f")) (@zh _ _ _ _ _ (@zP _ _ _ _ _ _ _ _ AU rfl (@qT _ K _ _ _ (@zv _ _ _ _ _ _ _ (@zn _ K rfl) (@pw _ 0 _ _ rfl rfl) (@zi _ _ _ _) (fun _ _=>rfl)) rfl) (@Z9 _ K _ _ _ _ 3 rfl (@ql _ _ _ _ _ (@QJ _ _ 2 _ jI.nd rfl (Or.inr rfl) (by walk_at "f")) (@ql _ _ _ _ _ (@pgl _ 3 _ _ jI.nd rfl rfl) (@ql _ _ _ _ _ (@pgl _ 4 _ _ jI.nd rfl rfl) (@Z6 _) rfl) rfl) rfl) rfl rfl rfl) (@zh _ _ _ _ _ (@qL _ _ _ _ _ _ _ _ (@zF _ _ _ _ _ _ _ _ (@Zr _) (@pw _ 3 _ _ rfl rfl) (@zi _ _ _ _) (@zW _ _ (by decide) (by decide))) (@zk _ _ _ (@qi _ _ _ _ (@qE _ K _ _ _ _ _ _ _ _ _ _ _ Ac As Ar (@zX _) (@pw _ 1 _ _ rfl rfl) (@zd _ _ _ _ _ (@qd _ _ _ _ _ (@zd _ _ _ _ _ (@pw _ 2 _ _ rfl rfl) (@zd _ _ _ _ _ (@zi _ _ _ _) (@zd _ _ _ _ _ (@wC _ _ _) (@zg _) rfl) rfl) rfl)) (@zg _) rfl) rfl rfl rfl rfl rfl rfl) rfl)) (@zO _)) (@zk _ _ _ (@qL _ _ _ _ _ _ _ _ (@zF _ _ _ _ _ _ _ _ (@Zr _) (@pw _ 3 _ _ rfl rfl) (@zi _ _ _ _) (@zW _ _ (by decide) (by decide))) (@zh _ _ _ _ _ (@qi _ _ _ _ (@qE _ K _ _ _ _ _ _ _ _ _ _ _ Ac CG CF (@Zs _) (@pw _ 1 _ _ rfl rfl) (@zd _ _ _ _ _ (@qm _ ["other", "name"] [none,some 2] _ _ _ _ _ _ _ _ _ _ (by exact (show zS ["T", "steps", "name", "places", "cells"] (zo j8) ["other", "name"] [none,some 2] _ from⟨rfl,by decide +kernel,by decide +kernel,by decide +kernel,by decide +kernel,rfl,by decide +kernel⟩)) rfl (@qj _ _ _ _ _ _ rfl gb.range (@zd _ _ _ _ _ (@zv _ _ _ _ _ _ _ (@zn _ K rfl) (@pw _ 0 _ _ rfl rfl) (@zi _ _ _ _) (fun _ _=>rfl)) (@zg _) rfl) rfl) (fun _ _ _ _=>(@pgl _ 0 _ _ nd0 rfl rfl)) (fun _ _ _ _=>(@qW _)) (fun _ _ _ _=>(@qd _ _ _ _ _ (@zd _ _ _ _ _ (@pw _ 1 _ _ rfl rfl) (@zd _ _ _ _ _ (@zi _ _ _ _) (@zd _ _ _ _ _ (@pw _ 0 _ _ rfl rfl) (@zg _) rfl) rfl) rfl))) (by intro _;rfl)) (@zg _) rfl) rfl rfl rfl rfl rfl rfl) rfl) (@zk _ _ _ (@qi _ _ _ _ (@qE _ K _ _ _ _ _ _ _ _ _ _ _ Ac CG CF (@Zs _) (@pw _ 1 _ _ rfl rfl) (@zd _ _ _ _ _ (@qm _ ["other", "name"] [none,some 2] _ _ _ _ _ _ _ _ _ _ (by exact (show zS ["T", "steps", "name", "places", "cells"] (zo j8) ["other", "name"] [none,some 2] _ from⟨rfl,by decide +kernel,by decide +kernel,by decide +kernel,by decide +kernel,rfl,by decide +kernel⟩)) rfl (@qj _ _ _ _ _ _ rfl gb.range (@zd _ _ _ _ _ (@zv _ _ _ _ _ _ _ (@zn _ K rfl) (@pw _ 0 _ _ rfl rfl) (@zi _ _ _ _) (fun _ _=>rfl)) (@zg _) rfl) rfl) (fun _ _ _ _=>(@pgl _ 0 _ _ nd1 rfl rfl)) (fun _ _ _ _=>(@qW _)) (fun _ _ _ _=>(@qd _ _ _ _ _ (@zd _ _ _ _ _ (@pw _ 1 _ _ rfl rfl) (@zd _ _ _ _ _ (@zi _ _ _ _) (@zd _ _ _ _ _ (@pw _ 0 _ _ rfl rfl) (@zg _) rfl) rfl) rfl))) (by intro _;rfl)) (@zg _) rfl) rfl rfl rfl rfl rfl rfl) rfl))) (@zO _)))) (by intro _;rfl)) (@zk _ _ _ (@zB _ _ _ _ (@pw _ 1 _ _ rfl rfl))))),?_⟩
 obtain⟨a,w0,c,vs,rfl,h1,h2,h3,h4⟩:=id ia
 have m9:=gT.m9
 have gcl:=gT.cl
 refine⟨zq (by show 0<=1000;decide),fun sl hsl=>?_⟩
 have n0:=zf hsl (.lst [])
 refine⟨_,rfl,.inr (.inl ⟨a,_,2,_,rfl,rfl,SqT.of (n0 _ _ h1),rfl,c,rfl,⟨_,SqT.of (n0 _ _ h3)⟩,?_⟩)⟩
 refine jU (xs:=vs) (fun i σ H'=>(∃ x2 x3 x4,σ=[some (.ref a),some (.ref sl),x2,x3,x4])/\zD H H'/\∃ xs,H' sl=some (.lst xs)/\Sts H' ((T.cs.take i).flatMap (xT T.m)) xs) ⟨⟨_,_,_,rfl⟩,n0,[],ze,.nil⟩ (fun i σ H' _ h=>SqT.of (h.2.1 _ _ h3)) ?_ ?_
 ·rintro i x σ H1 hx ⟨⟨x2,x3,x4,rfl⟩,s1,xs,hs,hS⟩
  have hi:i < T.cs.length:=by
   rw[h4.len]
   exact (AC.mp hx).1
  have hcc:T.cs[i]? = some T.cs[i]:=AG hi
  generalize T.cs[i]=cc at hcc
  obtain⟨nl,p2,cs3⟩:=gT.cn cc (AI hcc)
  obtain⟨t,u,e1,k1,k2⟩:=h4.get hcc
  rw[hx] at e1
  cases e1
  have xl:xs.length<=18 * 16:=by
   have l1:=Al hS
   have l2:=WD m9 (T.cs.take i)
   rw[An] at l2
   omega
  refine⟨t,_,rfl,SqT.of (s1 _ _ k1),rfl,_,_,rfl,_,_,rfl,_,_,rfl,rfl,?_⟩
  refine⟨_,rfl,rfl,_,rfl,?_⟩
  by_cases p1:cc.pl=1
  ·refine jZ (fun _=>?_) (fun z=>absurd (Ai (by rw[p1];rfl)) z)
   refine⟨_,rfl,.inl ⟨rfl,_,SqL.of hs⟩,_,rfl,zq (by show 3<=1000;decide),fun t1 ht1=>?_⟩
   have n1:=zf ht1 (.tup [.str cc.nm,.int 0,.non])
   have hs1:=n1 _ _ hs
   refine⟨sl,_,_,rfl,rfl,hs1,zu (by omega),?_⟩
   refine⟨_,rfl,rfl,_,rfl,?_⟩
   refine jZ (fun z=>absurd (Ak z) (zaE (k:=2) (by omega))) (fun _=>?_)
   refine⟨⟨_,_,_,rfl⟩,(s1.trans n1).put hsl,_,ze,?_⟩
   rw[take_snoc hcc,BG]
   have e:[cc].flatMap (xT T.m)=[(cc,0,none)]:=by
    rw[C4]
    unfold xT
    rw[if_pos p1,if_neg (by omega),BW]
   rw[e]
   exact Sts.app (Sts.tk ((Tk.of n1).trans (Tk.put hs1)) hS) (.cons ⟨t1,rfl,Tk.put hs1 _ _ ze⟩ .nil)
  refine jZ (fun z=>absurd (Ak z) (zaE (k:=1) p1)) (fun _=>?_)
  refine⟨_,rfl,rfl,_,rfl,?_⟩
  by_cases p2':cc.pl=2
  ·refine jZ (fun _=>?_) (fun z=>absurd (Ai (by rw[p2'];rfl)) z)
   have half:∀ (k:Nat) (H2:Hp) (D:Addr) (Q:VK),H2 D=none->(∀ ys H3,zD H2 H3->H3 D=some (.lst ys)->ys.length=T.m->Sts H3 ((List.range T.m).map fun o=>(cc,k,some o)) ys->Q (.ref D) H3) ->
     Zv (Itr 0 T.m) (Zq 0) tYes (tTup (tCons (tVar 1) (tCons (tC (nV k)) (tCons (tVar 0) tNil)))) [none,some (.str cc.nm)] H2 Q D:=fun k H2 D Q hD q2=>by
    refine ZJ (fun j ys H'=>zD H2 H'/\ys.length=j/\Sts H' ((List.range j).map fun o=>(cc,k,some o)) ys) ⟨zf hD _,rfl,.nil⟩ ?_ ?_
    ·rintro j ys H3 hj ⟨s3,yl,hY⟩ hD3
     refine yes ⟨_,rfl,_,rfl,zq (by show 3<=1000;decide),fun t1 ht1=>?_⟩
     have n1:=zf ht1 (.tup [.str cc.nm,nV k,.int (0+(j:Int))])
     have hD4:=n1 _ _ hD3
     refine WQ hj jM hD4 (zu (by omega)) ⟨(s3.trans n1).put hD,by rw[AH,yl];rfl,?_⟩
     rw[Bj,AL]
     refine Sts.app (Sts.tk ((Tk.of n1).trans (Tk.put hD4)) hY) (.cons ⟨t1,rfl,Tk.put hD4 _ _ ?_⟩ .nil)
     rw[ze,Bx]
     rfl
    ·rintro ys H3 ⟨s3,yl,hY⟩ hD3
     exact q2 ys H3 s3 hD3 yl hY
   refine⟨_,rfl,.inl ⟨rfl,_,SqL.of hs⟩,?_⟩
   refine⟨_,rfl,.inr (.inl ⟨a,_,0,_,rfl,rfl,SqT.of (s1 _ _ h1),rfl,(T.m:Int),rfl,by omega,by omega,fun D hD=>?_⟩)⟩
   rw[A4]
   refine half 0 H1 D _ hD fun ys H2 s2 hD2 yl hY=>?_
   have hs2:=s2 _ _ hs
   refine⟨sl,D,_,_,rfl,rfl,hs2,hD2,zq (by omega),?_⟩
   have Dsl:D ≠ sl:=fun z=>by rw[z,hs] at hD;cases hD
   have s02:zD H (upd H2 sl (.lst (xs++ys))):=(s1.trans s2).put hsl
   have hs2':(upd H2 sl (.lst (xs++ys))) sl=some (.lst (xs++ys)):=ze
   have hS2:Sts (upd H2 sl (.lst (xs++ys))) ((T.cs.take i).flatMap (xT T.m)++(List.range T.m).map fun o=>(cc,0,some o)) (xs++ys):=Sts.tk (Tk.put hs2) (Sts.app (Sts.tk (Tk.of s2) hS) hY)
   generalize upd H2 sl (.lst (xs++ys))=H3 at *
   refine⟨_,rfl,.inl ⟨rfl,_,SqL.of hs2'⟩,?_⟩
   refine⟨_,rfl,.inr (.inl ⟨a,_,0,_,rfl,rfl,SqT.of (s02 _ _ h1),rfl,(T.m:Int),rfl,by omega,by omega,fun D3 hD3=>?_⟩)⟩
   rw[A4]
   refine half 1 H3 D3 _ hD3 fun zs H4 s4 hD4 zl hZ=>?_
   have hs4:=s4 _ _ hs2'
   refine⟨sl,D3,_,_,rfl,rfl,hs4,hD4,zq (by rw[AH];omega),?_⟩
   refine⟨⟨_,_,_,rfl⟩,(s02.trans s4).put hsl,_,ze,?_⟩
   rw[take_snoc hcc,BG]
   have e:[cc].flatMap (xT T.m)=(List.range T.m).map (fun o=>(cc,0,some o))++(List.range T.m).map (fun o=>(cc,1,some o)):=by
    rw[C4]
    unfold xT
    rw[if_pos p2',if_neg p1,Dj]
   rw[e,<- CC]
   exact Sts.tk (Tk.put hs4) (Sts.app (Sts.tk (Tk.of s4) hS2) hZ)
  refine jZ (fun z=>absurd (Ak z) (zaE (k:=2) p2')) (fun _=>?_)
  refine⟨⟨_,_,_,rfl⟩,s1,_,hs,?_⟩
  rw[take_snoc hcc,BG]
  have e:[cc].flatMap (xT T.m)=[]:=by
   rw[C4]
   unfold xT
   rw[if_neg p1,if_neg p2',Dj]
  rw[e,BW]
  exact hS
 ·rintro σ H1 ⟨⟨x2,x3,x4,rfl⟩,s1,xs,hs,hS⟩
  rw[show T.cs.take vs.length=T.cs by rw[<- h4.len,Ae]] at hS
  exact⟨_,rfl,q sl xs H1 hsl s1 hs hS⟩
abbrev J4:Stmt:=top 19
theorem xN:zC ["cells", "many", "step", "x"] ["cells", "many", "step", "x"] (zo J4):=⟨rfl,rfl,rfl,by decide +kernel,rfl,by decide +kernel,by decide +kernel⟩
theorem xO {P:Program} {w:World} {K:PySem.W.Frag} {mg:Str->Option Value} {base:Heap} {f:Addr} {fd:FuncData} (F:Fun K "stepped" "stepped" J4 f fd) (gb:Gb mg):jt P w K mg base CX0 1 f fd ["cells", "many", "step", "x"] QC:=by
 refine F.ok xN (fun vs H Q E h=>?_) (fun cdv A outer s H vs Q E hr h=>?_)
 ·obtain⟨e',t,T,s,x,rfl,_⟩:=h
  rfl
 obtain⟨e',t,T,s,x,rfl,hc,gT,hs,ht,hx,q⟩:=h
 refine⟨_,(@zh _ _ _ _ _ (@qL _ _ _ _ _ _ _ _ (@zF _ _ _ _ _ _ _ _ (@op_isN _) (@zv _ _ _ _ _ _ _ (@zn _ K rfl) (@pw _ 2 _ _ rfl rfl) (@zi _ _ _ _) (fun _ _=>rfl)) (@wC _ _ _) (@zW _ _ (by decide) (by decide))) (@zk _ _ _ (@zB _ _ _ _ (@zv _ _ _ _ _ _ _ (@zn _ K rfl) (@QL _ _ _ _ _ _ (@hu1 _ _ hr) (@pw _ 0 _ _ rfl rfl) (@qd _ _ _ _ _ (@zd _ _ _ _ _ (@zv _ _ _ _ _ _ _ (@zn _ K rfl) (@pw _ 2 _ _ rfl rfl) (@zi _ _ _ _) (fun _ _=>rfl)) (@zd _ _ _ _ _ (@zi _ _ _ _) (@zg _) rfl) rfl)) (fun _ _=>rfl)) (@pw _ 3 _ _ rfl rfl) (fun _ _=>rfl)))) (@zO _)) (@zh _ _ _ _ _ (@qL _ _ _ _ _ _ _ _ (@zF _ _ _ _ _ _ _ _ (@Zr _) (@zv _ _ _ _ _ _ _ (@zn _ K rfl) (@pw _ 2 _ _ rfl rfl) (@zi _ _ _ _) (fun _ _=>rfl)) (@zi _ _ _ _) (@zW _ _ (by decide) (by decide))) (@zk _ _ _ (@zB _ _ _ _ (@zv _ _ _ _ _ _ _ (@zn _ K rfl) (@QL _ _ _ _ _ _ (@hu1 _ _ hr) (@pw _ 0 _ _ rfl rfl) (@qd _ _ _ _ _ (@zd _ _ _ _ _ (@zv _ _ _ _ _ _ _ (@zn _ K rfl) (@pw _ 2 _ _ rfl rfl) (@zi _ _ _ _) (fun _ _=>rfl)) (@zd _ _ _ _ _ (@zi _ _ _ _) (@zg _) rfl) rfl)) (fun _ _=>rfl)) (@zy _ _ _ _ _ _ _ _ (@qq _) (@zy _ _ _ _ _ _ _ _ (@js _) (@pw _ 3 _ _ rfl rfl) (@pw _ 1 _ _ rfl rfl)) (@zv _ _ _ _ _ _ _ (@zn _ K rfl) (@pw _ 2 _ _ rfl rfl) (@zi _ _ _ _) (fun _ _=>rfl))) (fun _ _=>rfl)))) (@zO _)) (@zk _ _ _ (@zB _ _ _ _ (@zv _ _ _ _ _ _ _ (@zn _ K rfl) (@QL _ _ _ _ _ _ (@hu1 _ _ hr) (@pw _ 0 _ _ rfl rfl) (@qd _ _ _ _ _ (@zd _ _ _ _ _ (@zv _ _ _ _ _ _ _ (@zn _ K rfl) (@pw _ 2 _ _ rfl rfl) (@zi _ _ _ _) (fun _ _=>rfl)) (@zd _ _ _ _ _ (@zi _ _ _ _) (@zg _) rfl) rfl)) (fun _ _=>rfl)) (@zy _ _ _ _ _ _ _ _ (@qq _) (@zy _ _ _ _ _ _ _ _ (@js _) (@zv _ _ _ _ _ _ _ (@zn _ K rfl) (@pw _ 2 _ _ rfl rfl) (@zi _ _ _ _) (fun _ _=>rfl)) (@pw _ 1 _ _ rfl rfl)) (@pw _ 3 _ _ rfl rfl)) (fun _ _=>rfl)))))),?_⟩
 obtain⟨kvs,he,hv⟩:=id hc
 obtain⟨c,hcm,hcs⟩:=JX hs
 obtain⟨u,hu1,hu2⟩:=hv c hcm
 obtain⟨_,_,cs3⟩:=gT.cn c hcm
 have m9:=gT.m9
 refine⟨_,rfl,.inr (.inl ⟨t,_,2,_,rfl,rfl,SqT.of ht,rfl,rfl,_,rfl,?_⟩)⟩
 rcases hcs with ⟨p1,rfl⟩ | ⟨p2,o,ho,hs2⟩
 ·refine jZ (fun _=>?_) (fun z=>absurd (Ai rfl) z)
  refine⟨_,rfl,_,rfl,.inr (.inl ⟨t,_,0,_,rfl,rfl,SqT.of ht,rfl,zq (by show 2<=1000;decide),fun kt hkt=>?_⟩)⟩
  have n1:=zf hkt (.tup [.str c.nm,.int 1])
  have hg:Js (upd H kt (.tup [.str c.nm,.int 1])) e' (.ref kt) (jo kvs (yq c)):=Js.t (n1 _ _ he) (by rw[ze];unfold yq;rw[p1];rfl)
  rw[hu1] at hg
  refine⟨e',_,rfl,hg,?_⟩
  refine⟨_,rfl,.inr (.inl ⟨u,_,_,_,rfl,rfl,SqT.of (n1 _ _ hu2),Zf (by rw[cs3.len,p1,Cz];exact hx),q _ n1⟩)⟩
 have two:∀ a b,a < T.m->b < T.m->a * T.m+b < c.cs.length:=fun a b ha hb=>by
  rw[cs3.len,p2]
  have:(a+1) * T.m<=T.m * T.m:=BV _ ha
  rw[ER] at this
  show _ < T.m ^ 2
  rw[CQ,Cz]
  omega
 have ix:∀ a b:Nat,a < T.m->b < T.m->atI (c.cs.map nV) ((a:Int) * (T.m:Int)+(b:Int))=some (nV (Tn.at' c.cs (a * T.m+b))):=fun a b ha hb=>by
  rw[<- DH,<- Dk]
  exact Zf (two a b ha hb)
 have go:∀ k:Nat,s=(c,k,some o)->nO s.2.2=nV o/\stV s=[.str c.nm,nV k,nV o]:=fun k e=>by rw[e];exact⟨rfl,rfl⟩
 rcases hs2 with e | e
 ·obtain⟨g1,g2⟩:=go 0 e
  rw[g2] at ht
  rw[g1]
  refine jZ (fun z=>absurd (Ak z) (by intro h;cases h)) (fun _=>?_)
  refine⟨_,rfl,.inr (.inl ⟨t,_,1,_,rfl,rfl,SqT.of ht,rfl,rfl,_,rfl,?_⟩)⟩
  refine jZ (fun _=>?_) (fun z=>absurd (Ai rfl) z)
  refine⟨_,rfl,_,rfl,.inr (.inl ⟨t,_,0,_,rfl,rfl,SqT.of ht,rfl,zq (by show 2<=1000;decide),fun kt hkt=>?_⟩)⟩
  have n1:=zf hkt (.tup [.str c.nm,.int 2])
  have hg:Js (upd H kt (.tup [.str c.nm,.int 2])) e' (.ref kt) (jo kvs (yq c)):=Js.t (n1 _ _ he) (by rw[ze];unfold yq;rw[p2];rfl)
  rw[hu1] at hg
  refine⟨e',_,rfl,hg,?_⟩
  refine⟨_,rfl,_,rfl,_,_,rfl,rfl,.inr ⟨by omega,by omega⟩,_,rfl,.inr (.inl ⟨t,_,2,_,rfl,rfl,SqT.of (n1 _ _ ht),rfl,_,_,rfl,rfl,?_⟩)⟩
  have q1:=q _ n1
  rw[e] at q1
  exact .inr (.inl ⟨u,_,_,_,rfl,rfl,SqT.of (n1 _ _ hu2),ix x o hx ho,q1⟩)
 ·obtain⟨g1,g2⟩:=go 1 e
  rw[g2] at ht
  rw[g1]
  refine jZ (fun z=>absurd (Ak z) (by intro h;cases h)) (fun _=>?_)
  refine⟨_,rfl,.inr (.inl ⟨t,_,1,_,rfl,rfl,SqT.of ht,rfl,rfl,_,rfl,?_⟩)⟩
  refine jZ (fun z=>absurd (Ak z) (zaE (n:=1) (k:=0) (by decide))) (fun _=>?_)
  refine⟨_,rfl,_,rfl,.inr (.inl ⟨t,_,0,_,rfl,rfl,SqT.of ht,rfl,zq (by show 2<=1000;decide),fun kt hkt=>?_⟩)⟩
  have n1:=zf hkt (.tup [.str c.nm,.int 2])
  have hg:Js (upd H kt (.tup [.str c.nm,.int 2])) e' (.ref kt) (jo kvs (yq c)):=Js.t (n1 _ _ he) (by rw[ze];unfold yq;rw[p2];rfl)
  rw[hu1] at hg
  refine⟨e',_,rfl,hg,?_⟩
  refine⟨_,rfl,.inr (.inl ⟨t,_,2,_,rfl,rfl,SqT.of (n1 _ _ ht),rfl,_,rfl,_,_,rfl,rfl,.inr ⟨by omega,by omega⟩,_,rfl,_,_,rfl,rfl,?_⟩)⟩
  have q1:=q _ n1
  rw[e] at q1
  exact .inr (.inl ⟨u,_,_,_,rfl,rfl,SqT.of (n1 _ _ hu2),ix o x ho hx,q1⟩)
abbrev ji:Stmt:=top 15
theorem J5:zC ["things"] ["things"] (zo ji):=⟨rfl,rfl,rfl,by decide +kernel,rfl,by decide +kernel,by decide +kernel⟩
theorem J6 {P:Program} {w:World} {K:PySem.W.Frag} {mg:Str->Option Value} {base:Heap} {f:Addr} {fd:FuncData} (F:Fun K "first_places" "first_places" ji f fd) (gb:Gb mg):jt P w K mg base CX0 1 f fd ["things"] WF:=by
 refine F.ok J5 (fun vs H Q E h=>?_) (fun cdv A outer s H vs Q E hr h=>?_)
 ·obtain⟨l,bs,rfl,_⟩:=h
  rfl
 obtain⟨l,bs,rfl,hl,h9,q⟩:=h
 have nd0:(["thing", "things"]:List Str).Nodup:=by decide +kernel
 refine⟨_,(@zk _ _ _ (@zB _ _ _ _ (@qm _ ["thing", "things"] [none,some 0] _ _ _ _ _ _ _ _ _ _ (by exact (show zS ["things"] (zo ji) ["thing", "things"] [none,some 0] _ from⟨rfl,by decide +kernel,by decide +kernel,by decide +kernel,by decide +kernel,rfl,by decide +kernel⟩)) rfl (@zE _ K _ _ _ (@pw _ 0 _ _ rfl rfl) rfl) (fun _ _ _ _=>(@pgl _ 0 _ _ nd0 rfl rfl)) (fun _ _ _ _=>(@qW _)) (fun _ _ _ _=>(@qE _ K _ _ _ _ _ _ _ _ _ _ _ Ac PySem.F.slot_list_index PySem.F.type_list_index (@X8 _) (@pw _ 1 _ _ rfl rfl) (@zd _ _ _ _ _ (@pw _ 0 _ _ rfl rfl) (@zg _) rfl) rfl rfl rfl rfl rfl rfl)) (by intro _;rfl)))),?_⟩
 refine⟨_,rfl,l,rfl,⟨_,SqL.of hl⟩,fun D hD=>?_⟩
 refine jv bs V.bl (fun b=>nV (bs.idxOf b)) hl (by omega) hD (fun b hb H' Q' s q'=>?_) (fun H1 s1 hD1=>q D H1 s1 (by rw[hD1];unfold Tn.fp;rw[List.map_map];rfl))
 refine⟨_,rfl,.inl ⟨rfl,_,SqL.of (s _ _ hl)⟩,_,rfl,l,_,_,bs.idxOf b,rfl,rfl,s _ _ hl,rfl,?_,⟨_,by rw[AJ,Tn.idx_get hb];rfl,?_⟩,fun m v hm hv=>?_,q' H' zD.rfl'⟩
 ·rw[A0]
  intro x hx
  obtain⟨y,_,rfl⟩:=AM.mp hx
  rfl
 ·show (b == b)=true
  simp
 ·rw[AJ] at hv
  obtain⟨y,hy,rfl⟩:=AX.mp hv
  have:=wY hm hy
  show (y == b)=false
  simpa using this
abbrev ja:Stmt:=top 15
theorem Q8:zC ["things"] ["things"] (zo ja):=⟨rfl,rfl,rfl,by decide +kernel,rfl,by decide +kernel,by decide +kernel⟩
theorem Q9 {P:Program} {w:World} {K:PySem.W.Frag} {mg:Str->Option Value} {base:Heap} {f:Addr} {fd:FuncData} (F:Fun K "first_places" "first_places" ja f fd) (gb:Gb mg):jt P w K mg base CX0 1 f fd ["things"] WG:=by
 refine F.ok Q8 (fun vs H Q E h=>?_) (fun cdv A outer s H vs Q E hr h=>?_)
 ·obtain⟨l,D,xs,nss,n,rfl,_⟩:=h
  rfl
 obtain⟨l,D,xs,nss,n,rfl,hl,hL,hln,h9,q⟩:=h
 have nd0:(["thing", "things"]:List Str).Nodup:=by decide +kernel
 refine⟨_,(@zk _ _ _ (@zB _ _ _ _ (@qm _ ["thing", "things"] [none,some 0] _ _ _ _ _ _ _ _ _ _ (by exact (show zS ["things"] (zo ja) ["thing", "things"] [none,some 0] _ from⟨rfl,by decide +kernel,by decide +kernel,by decide +kernel,by decide +kernel,rfl,by decide +kernel⟩)) rfl (@zE _ K _ _ _ (@pw _ 0 _ _ rfl rfl) rfl) (fun _ _ _ _=>(@pgl _ 0 _ _ nd0 rfl rfl)) (fun _ _ _ _=>(@qW _)) (fun _ _ _ _=>(@qE _ K _ _ _ _ _ _ _ _ _ _ _ Ac PySem.F.slot_list_index PySem.F.type_list_index (@xw _ _ hr) (@pw _ 1 _ _ rfl rfl) (@zd _ _ _ _ _ (@pw _ 0 _ _ rfl rfl) (@zg _) rfl) rfl rfl rfl rfl rfl rfl)) (by intro _;rfl)))),?_⟩
 have hxl:=hL.len
 refine⟨_,rfl,l,rfl,⟨_,SqL.of hl⟩,fun D2 hD2=>?_⟩
 refine jD (xs:=xs) (fun i ys H'=>zD H H'/\ys=((nss.take i).map fun ns=>nV (ixo nss ns))) ⟨zf hD2 _,rfl⟩ (fun i ys H' h _=>SqL.of (h.1 _ _ hl)) ?_ ?_
 ·rintro i ys H1 x hx ⟨s1,rfl⟩ hD1
  have hi:i < xs.length:=(AC.mp hx).1
  have hn:nss[i]? = some nss[i]:=AG (by omega)
  generalize nss[i]=ns at hn
  obtain⟨b,e1,hb⟩:=hL.at hn
  rw[hx] at e1
  cases e1
  have hm:=AI hn
  have hix:nss[ixo nss ns]? = some ns:=Tn.idx_get hm
  refine yes ⟨_,rfl,.inl ⟨rfl,_,SqL.of (s1 _ _ hl)⟩,_,rfl,l,b,xs,nss.map (List.map nV),ns.map nV,ixo nss ns,rfl,rfl,s1 _ _ hl,(hL.same s1).lls,fun zs hz=>?_,s1 _ _ hb,qk _,⟨_,by rw[AJ,hix];rfl,by rw[zaF];exact Ai rfl⟩,fun m zs hm' hz=>?_,?_⟩
  ·obtain⟨z,hz',rfl⟩:=AM.mp hz
   exact⟨qk _,by rw[AB,AB,hln z hz',hln ns hm]⟩
  ·rw[AJ] at hz
   obtain⟨z,hz',rfl⟩:=AX.mp hz
   rw[zaF]
   exact Aw (wY hm' hz')
  refine WQ hi jM hD1 (by rw[AB,An];exact zu (by omega)) ⟨s1.put hD2,?_⟩
  rw[take_snoc hn,AL]
  rfl
 ·rintro ys H1 ⟨s1,rfl⟩ hD1
  rw[hxl,Ae] at hD1
  exact q D2 H1 s1 (by rw[hD1];unfold Tn.fp;rw[List.map_map];rfl)
abbrev qR:Stmt:=top 16
theorem qu:zC ["T", "marks", "cells", "steps", "signs", "one"] ["T", "marks"] (zo qR):=⟨rfl,rfl,rfl,by decide +kernel,rfl,by decide +kernel,by decide +kernel⟩
theorem QU {P:Program} {w:World} {K:PySem.W.Frag} {mg:Str->Option Value} {base:Heap} {f:Addr} {fd:FuncData} (F:Fun K "parted_further" "parted_further" qR f fd) (gb:Gb mg) (d_cells_by_name:Def P w K mg base 1 "cells_by_name" ["H"] xJ) (d_steps_of:Def P w K mg base 1 "steps_of" ["T"] WE) (d_stepped:Def P w K mg base 1 "stepped" ["cells", "many", "step", "x"] QC) (d_first_placesL:Def P w K mg base 1 "first_places" ["things"] WG):jt P w K mg base CX0 3 f fd ["T", "marks"] WH:=by
 refine F.ok qu (fun vs H Q E h=>?_) (fun cdv A outer s H vs Q E hr h=>?_)
 ·obtain⟨v,l,T,ms,rfl,_⟩:=h
  rfl
 obtain⟨v,l,T,ms,rfl,ia,gT,nT,hl,hml,q⟩:=h
 have nd0:(["step", "marks", "cells", "T", "one"]:List Str).Nodup:=by decide +kernel
 refine⟨_,(@zh _ _ _ _ _ (@zr _ _ 2 _ _ _ _ qu.nd rfl (Or.inr rfl) (@zw _ _ _ _ _ _ _ _ _ _ _ d_cells_by_name hr (by omega) rfl (@zd _ _ _ _ _ (@pw _ 0 _ _ rfl rfl) (@zg _) rfl) (by decide) rfl rfl) rfl (by walk_at "f")) (@zh _ _ _ _ _ (@zr _ _ 3 _ _ _ _ qu.nd rfl (Or.inl rfl) (@zw _ _ _ _ _ _ _ _ _ _ _ d_steps_of hr (by omega) rfl (@zd _ _ _ _ _ (@pw _ 0 _ _ rfl rfl) (@zg _) rfl) (by decide) rfl rfl) rfl (by walk_at "f")) (@zh _ _ _ _ _ (@zr _ _ 4 _ _ _ _ qu.nd rfl (Or.inl rfl) (@zN _ _ _ _ (@zg _)) rfl (by walk_at "f")) (@zh _ _ _ _ _ (@zP _ _ _ _ _ _ _ _ AU rfl (@qj _ _ _ _ _ _ rfl gb.range (@zd _ _ _ _ _ (@zv _ _ _ _ _ _ _ (@zn _ K rfl) (@pw _ 0 _ _ rfl rfl) (@zi _ _ _ _) (fun _ _=>rfl)) (@zg _) rfl) rfl) (@QJ _ _ 5 _ qu.nd rfl (Or.inr rfl) (by walk_at "f")) (@zk _ _ _ (@qi _ _ _ _ (@qE _ K _ _ _ _ _ _ _ _ _ _ _ Ac As Ar (@zX _) (@pw _ 4 _ _ rfl rfl) (@zd _ _ _ _ _ (@zy _ _ _ _ _ _ _ _ (@Jl _) (@zN _ _ _ _ (@zd _ _ _ _ _ (@zv _ _ _ _ _ _ _ (@zn _ K rfl) (@pw _ 1 _ _ rfl rfl) (@pw _ 5 _ _ rfl rfl) (fun _ _=>rfl)) (@zg _) rfl)) (@qm _ ["step", "marks", "cells", "T", "one"] [none,some 1,some 2,some 0,some 5] _ _ _ _ _ _ _ _ _ _ (by exact (show zS ["T", "marks", "cells", "steps", "signs", "one"] (zo qR) ["step", "marks", "cells", "T", "one"] [none,some 1,some 2,some 0,some 5] _ from⟨rfl,by decide +kernel,by decide +kernel,by decide +kernel,by decide +kernel,rfl,by decide +kernel⟩)) rfl (@zE _ K _ _ _ (@pw _ 3 _ _ rfl rfl) rfl) (fun _ _ _ _=>(@pgl _ 0 _ _ nd0 rfl rfl)) (fun _ _ _ _=>(@qW _)) (fun _ _ _ _=>(@zv _ _ _ _ _ _ _ (@zn _ K rfl) (@pw _ 1 _ _ rfl rfl) (@zw _ _ _ _ _ _ _ _ _ _ _ d_stepped hr (by omega) rfl (@zd _ _ _ _ _ (@pw _ 2 _ _ rfl rfl) (@zd _ _ _ _ _ (@zv _ _ _ _ _ _ _ (@zn _ K rfl) (@pw _ 3 _ _ rfl rfl) (@zi _ _ _ _) (fun _ _=>rfl)) (@zd _ _ _ _ _ (@pw _ 0 _ _ rfl rfl) (@zd _ _ _ _ _ (@pw _ 4 _ _ rfl rfl) (@zg _) rfl) rfl) rfl) rfl) (by decide) rfl rfl) (fun _ _=>rfl))) (by intro _;rfl))) (@zg _) rfl) rfl rfl rfl rfl rfl rfl) rfl)) (by intro _;rfl)) (@zk _ _ _ (@zB _ _ _ _ (@zw _ _ _ _ _ _ _ _ _ _ _ d_first_placesL hr (by omega) rfl (@zd _ _ _ _ _ (@pw _ 4 _ _ rfl rfl) (@zg _) rfl) (by decide) rfl rfl))))))),?_⟩
 obtain⟨a,w0,c,vs,rfl,h1,h2,h3,h4⟩:=id ia
 have m9:=gT.m9
 have gcl:=gT.cl
 refine⟨_,rfl,_,T,rfl,ia,gT,nT,fun e H1 s1 hcd=>?_⟩
 refine⟨_,rfl,_,T,rfl,ia.same s1,gT,fun st ss H2 _ s2 hst hS=>?_⟩
 have S2:=s1.trans s2
 refine⟨zq (by show 0<=1000;decide),fun sg hsg=>?_⟩
 have n3:=zf hsg (.lst [])
 have ssl:ss.length<=18 * 16:=by
  have l1:=Al hS
  have l2:=WD m9 T.cs
  have l3:(ZO T).length<=18 * T.cs.length:=l2
  omega
 refine⟨_,rfl,.inr (.inl ⟨a,_,0,_,rfl,rfl,SqT.of ((S2.trans n3) _ _ h1),rfl,(T.m:Int),rfl,by omega,by omega,?_⟩)⟩
 rw[A4]
 refine qM (fun i σ H'=>(∃ x5,σ=[some (.ref a),some (.ref l),some (.ref e),some (.ref st),some (.ref sg),x5])/\zD H2 H'/\∃ xs,H' sg=some (.lst xs)/\Lld sg H' ((List.range i).map (Tn.sgn (fsT T) ms)) xs) ⟨⟨_,rfl⟩,n3,[],ze,.nil⟩ ?_ ?_
 ·rintro i σ H3 hi ⟨⟨x5,rfl⟩,s3,xs,hx,hL⟩
  have S3:=S2.trans s3
  have hxl:=hL.len
  rw[AB,AZ] at hxl
  have hl3:=S3 _ _ hl
  refine⟨_,rfl,.inl ⟨rfl,_,SqL.of hx⟩,?_⟩
  refine⟨_,rfl,_,rfl,.inl ⟨l,_,_,_,rfl,rfl,SqL.of hl3,by rw[Bx];exact Zf (by omega),zq (by show 1<=1000;decide),fun g1 hg1=>?_⟩⟩
  have n4:=zf hg1 (.lst [nV (Tn.at' ms i)])
  have hst4:=n4 _ _ (s3 _ _ hst)
  refine⟨_,rfl,st,rfl,⟨_,SqL.of hst4⟩,fun D hD=>?_⟩
  have S4:=S3.trans n4
  have hS4:Sts (upd H3 g1 (.lst [nV (Tn.at' ms i)])) (ZO T) ss:=Sts.tk (Tk.of (s3.trans n4)) hS
  have hul:=Al hS
  refine jD (xs:=ss) (fun j ys H'=>zD (upd H3 g1 (.lst [nV (Tn.at' ms i)])) H'/\ys=(((ZO T).take j).map fun s=>nV (Tn.at' ms (jr T.m s i)))) ⟨zf hD _,rfl⟩ (fun j ys H' h _=>SqL.of (h.1 _ _ hst4)) ?_ ?_
  ·rintro j ys H5 x hx5 ⟨s5,rfl⟩ hD5
   have hj:j < ss.length:=(AC.mp hx5).1
   have hsj:(ZO T)[j]? = some (ZO T)[j]:=AG (by omega)
   generalize (ZO T)[j]=s at hsj
   obtain⟨t,rfl,ht⟩:=Paired.at hS4 j _ _ hsj hx5
   have hsm:=AI hsj
   have S5:=S4.trans s5
   refine yes ⟨_,rfl,?_⟩
   refine⟨_,rfl,_,rfl,.inr (.inl ⟨a,_,0,_,rfl,rfl,SqT.of (S5 _ _ h1),rfl,_,rfl,_,rfl,e,t,T,s,i,by (show [V.ref e,nV T.m,V.ref t,V.int (0+(i:Int))]=_;rw[Bx]),((hcd.same s2).same s3).same (n4.trans s5),gT,hsm,s5 _ _ ht,hi,fun H6 s6=>?_⟩)⟩
   have hlt:=QR gT hsm hi
   refine .inl ⟨l,_,_,_,rfl,rfl,SqL.of ((S5.trans s6) _ _ hl),Zf (by omega),?_⟩
   refine WQ hj jM (s6 _ _ hD5) (by rw[AB,An];exact zu (by omega)) ⟨(s5.trans s6).put hD,?_⟩
   rw[take_snoc hsj,AL]
   rfl
  rintro ys H5 ⟨s5,rfl⟩ hD5
  rw[<- hul,Ae] at hD5
  refine⟨g1,D,_,_,rfl,rfl,s5 _ _ ze,hD5,by rw[AB];exact zq (by show 1+(ZO T).length<=1000;omega),fun g2 hg2=>?_⟩
  have es:[nV (Tn.at' ms i)]++(ZO T).map (fun s=>nV (Tn.at' ms (jr T.m s i)))=(Tn.sgn (fsT T) ms i).map nV:=by
   unfold Tn.sgn fsT
   rw[Ag,A2,A2]
   rfl
  rw[es]
  have n6:=zf hg2 (.lst ((Tn.sgn (fsT T) ms i).map nV))
  have S36:=n4.trans (s5.trans n6)
  have hx6:=S36 _ _ hx
  have g2s:g2 ≠ sg:=fun z=>by
   have:=(n4.trans s5) _ _ hx
   rw[<- z,hg2] at this
   cases this
  refine⟨sg,_,_,rfl,rfl,hx6,zu (by omega),⟨⟨_,rfl⟩,(s3.trans S36).put hsg,_,ze,?_⟩⟩
  rw[Bj,AL]
  exact Lld.snoc (Lld.put (hL.same S36)) g2s (by rw[zI g2s];exact ze)
 ·rintro σ H3 ⟨⟨x5,rfl⟩,s3,xs,hx,hL⟩
  refine⟨_,rfl,sg,sg,xs,_,(fsT T).length+1,rfl,hx,hL,fun ns hn=>?_,by rw[AB,AZ];exact m9,fun k H4 s4 hk=>q k H4 (S2.trans (s3.trans s4)) hk⟩
  obtain⟨i,_,rfl⟩:=AM.mp hn
  unfold Tn.sgn
  rw[Aq,AB]
abbrev jy:Stmt:=top 17
theorem wu:zC ["marks", "mark"] ["marks", "mark"] (zo jy):=⟨rfl,rfl,rfl,by decide +kernel,rfl,by decide +kernel,by decide +kernel⟩
theorem wv {P:Program} {w:World} {K:PySem.W.Frag} {mg:Str->Option Value} {base:Heap} {f:Addr} {fd:FuncData} (F:Fun K "grades_with" "grades_with" jy f fd) (gb:Gb mg):jt P w K mg base CX0 1 f fd ["marks", "mark"] zaG:=by
 refine F.ok wu (fun vs H Q E h=>?_) (fun cdv A outer s H vs Q E hr h=>?_)
 ·obtain⟨l,ms,r,rfl,_⟩:=h
  rfl
 obtain⟨l,ms,r,rfl,hl,h9,q⟩:=h
 have nd0:(["one", "marks", "mark"]:List Str).Nodup:=by decide +kernel
 refine⟨_,(@zk _ _ _ (@zB _ _ _ _ (@zG _ _ _ _ _ _ _ _ _ (@zL _ K rfl) rfl gb.tuple qO (@zd _ _ _ _ _ (@qm _ ["one", "marks", "mark"] [none,some 0,some 1] _ _ _ _ _ _ _ _ _ _ (by exact (show zS ["marks", "mark"] (zo jy) ["one", "marks", "mark"] [none,some 0,some 1] _ from⟨rfl,by decide +kernel,by decide +kernel,by decide +kernel,by decide +kernel,rfl,by decide +kernel⟩)) rfl (@qj _ _ _ _ _ _ rfl gb.range (@zd _ _ _ _ _ (@zA _ _ _ _ _ _ _ _ _ (@zT _ K rfl) rfl gb.len qX (@zd _ _ _ _ _ (@pw _ 0 _ _ rfl rfl) (@zg _) rfl) (by decide) (by decide) rfl rfl) (@zg _) rfl) rfl) (fun _ _ _ _=>(@pgl _ 0 _ _ nd0 rfl rfl)) (fun _ _ _ _=>(@Jn _ _ _ (@zF _ _ _ _ _ _ _ _ (@Zr _) (@zv _ _ _ _ _ _ _ (@zn _ K rfl) (@pw _ 1 _ _ rfl rfl) (@pw _ 0 _ _ rfl rfl) (fun _ _=>rfl)) (@pw _ 2 _ _ rfl rfl) (@zW _ _ (by decide) (by decide))))) (fun _ _ _ _=>(@pw _ 0 _ _ rfl rfl)) (by intro _;rfl)) (@zg _) rfl) (by decide) (by decide) rfl rfl))),?_⟩
 refine⟨_,rfl,_,ms.length,rfl,.inl ⟨_,SqL.of hl,by rw[AB]⟩,(ms.length:Int),rfl,by omega,by omega,fun D hD=>?_⟩
 rw[A4]
 refine ZJ (fun i ys H'=>zD H H'/\ys=((List.range i).filter fun j=>decide (Tn.at' ms j=r)).map nV/\ys.length<=i) ⟨zf hD _,rfl,AK _⟩ ?_ ?_
 ·rintro i ys H1 hi ⟨s1,rfl,yl⟩ hD1
  refine⟨_,rfl,_,rfl,.inl ⟨l,_,_,_,rfl,rfl,SqL.of (s1 _ _ hl),by rw[Bx];exact Zf hi,_,rfl,rfl,_,rfl,?_⟩⟩
  by_cases hm:Tn.at' ms i=r
  ·refine jZ (fun _=>?_) (fun z=>absurd (Ai (by rw[hm])) z)
   refine⟨_,rfl,WQ hi jM hD1 (zu (by omega)) ⟨s1.put hD,?_,by rw[AH];exact DC yl⟩⟩
   rw[Bj,DO,AL,Bx]
   simp[hm]
  ·refine jZ (fun z=>absurd (Ak z) (nVV_ne hm)) (fun _=>?_)
   refine cno hi jM hD1 ⟨s1,?_,B7 yl⟩
   rw[Bj,DO,AL]
   simp[hm]
 ·rintro ys H1 ⟨s1,rfl,yl⟩ hD1
  refine⟨D,_,rfl,.inl ⟨SqL.of hD1,fun t ht=>?_⟩⟩
  exact q t _ (s1.trans (zf ht _)) ze
abbrev J7:Stmt:=top 14
theorem Jg:zC ["T", "marks", "turn"] ["T"] (zo J7):=⟨rfl,rfl,rfl,by decide +kernel,rfl,by decide +kernel,by decide +kernel⟩
theorem ok_alike {P:Program} {w:World} {K:PySem.W.Frag} {mg:Str->Option Value} {base:Heap} {f:Addr} {fd:FuncData} (F:Fun K "alike" "alike" J7 f fd) (gb:Gb mg) (d_first_places:Def P w K mg base 1 "first_places" ["things"] WF) (d_parted_further:Def P w K mg base 3 "parted_further" ["T", "marks"] WH) (d_grades_with:Def P w K mg base 1 "grades_with" ["marks", "mark"] zaG):jt P w K mg base CX0 4 f fd ["T"] WI:=by
 refine F.ok Jg (fun vs H Q E h=>?_) (fun cdv A outer s H vs Q E hr h=>?_)
 ·obtain⟨v,T,rfl,_⟩:=h
  rfl
 obtain⟨v,T,rfl,ia,gT,nT,q⟩:=h
 have nd0:(["one", "T"]:List Str).Nodup:=by decide +kernel
 have nd1:(["mark", "marks"]:List Str).Nodup:=by decide +kernel
 refine⟨_,(@zh _ _ _ _ _ (@zr _ _ 1 _ _ _ _ Jg.nd rfl (Or.inr rfl) (@zw _ _ _ _ _ _ _ _ _ _ _ d_first_places hr (by omega) rfl (@zd _ _ _ _ _ (@qm _ ["one", "T"] [none,some 0] _ _ _ _ _ _ _ _ _ _ (by exact (show zS ["T", "marks", "turn"] (zo J7) ["one", "T"] [none,some 0] _ from⟨rfl,by decide +kernel,by decide +kernel,by decide +kernel,by decide +kernel,rfl,by decide +kernel⟩)) rfl (@qj _ _ _ _ _ _ rfl gb.range (@zd _ _ _ _ _ (@zv _ _ _ _ _ _ _ (@zn _ K rfl) (@pw _ 0 _ _ rfl rfl) (@zi _ _ _ _) (fun _ _=>rfl)) (@zg _) rfl) rfl) (fun _ _ _ _=>(@pgl _ 0 _ _ nd0 rfl rfl)) (fun _ _ _ _=>(@qW _)) (fun _ _ _ _=>(@jp _ _ _ _ _ _ _ _ (@qo _ K rfl) (@pw _ 0 _ _ rfl rfl) (@zv _ _ _ _ _ _ _ (@zn _ K rfl) (@pw _ 1 _ _ rfl rfl) (@zi _ _ _ _) (fun _ _=>rfl)) (by with_unfolding_all rfl))) (by intro _;rfl)) (@zg _) rfl) (by decide) rfl rfl) rfl (by walk_at "f")) (@zh _ _ _ _ _ (@zP _ _ _ _ _ _ _ _ AU rfl (@qj _ _ _ _ _ _ rfl gb.range (@zd _ _ _ _ _ (@zv _ _ _ _ _ _ _ (@zn _ K rfl) (@pw _ 0 _ _ rfl rfl) (@zi _ _ _ _) (fun _ _=>rfl)) (@zg _) rfl) rfl) (@pgl _ 2 _ _ Jg.nd rfl rfl) (@zk _ _ _ (@zr _ _ 1 _ _ _ _ Jg.nd rfl (Or.inr rfl) (@zw _ _ _ _ _ _ _ _ _ _ _ d_parted_further hr (by omega) rfl (@zd _ _ _ _ _ (@pw _ 0 _ _ rfl rfl) (@zd _ _ _ _ _ (@pw _ 1 _ _ rfl rfl) (@zg _) rfl) rfl) (by decide) rfl rfl) rfl (by walk_at "f"))) (by intro _;rfl)) (@zk _ _ _ (@zB _ _ _ _ (@zG _ _ _ _ _ _ _ _ _ (@zL _ K rfl) rfl gb.tuple qO (@zd _ _ _ _ _ (@qm _ ["mark", "marks"] [none,some 1] _ _ _ _ _ _ _ _ _ _ (by exact (show zS ["T", "marks", "turn"] (zo J7) ["mark", "marks"] [none,some 1] _ from⟨rfl,by decide +kernel,by decide +kernel,by decide +kernel,by decide +kernel,rfl,by decide +kernel⟩)) rfl (@zE _ K _ _ _ (@zA _ _ _ _ _ _ _ _ _ (@Qw _ rfl) rfl gb.sorted Qo (@zd _ _ _ _ _ (@zG _ _ _ _ _ _ _ _ _ (@wQ _ K rfl rfl) rfl gb.set YE (@zd _ _ _ _ _ (@pw _ 1 _ _ rfl rfl) (@zg _) rfl) (by decide) (by decide) rfl rfl) (@zg _) rfl) (by decide) (by decide) rfl rfl) rfl) (fun _ _ _ _=>(@pgl _ 0 _ _ nd1 rfl rfl)) (fun _ _ _ _=>(@qW _)) (fun _ _ _ _=>(@zw _ _ _ _ _ _ _ _ _ _ _ d_grades_with hr (by omega) rfl (@zd _ _ _ _ _ (@pw _ 1 _ _ rfl rfl) (@zd _ _ _ _ _ (@pw _ 0 _ _ rfl rfl) (@zg _) rfl) rfl) (by decide) rfl rfl)) (by intro _;rfl)) (@zg _) rfl) (by decide) (by decide) rfl rfl))))),?_⟩
 obtain⟨a,w0,c,vs,rfl,h1,h2,h3,h4⟩:=id ia
 have m9:=gT.m9
 have m1:=gT.m1
 refine⟨_,rfl,.inr (.inl ⟨a,_,0,_,rfl,rfl,SqT.of h1,rfl,(T.m:Int),rfl,by omega,by omega,fun D hD=>?_⟩)⟩
 rw[A4]
 refine ZJ (fun i ys H'=>zD H H'/\ys=((List.range i).map fun j=>V.bl (decide (j ∈ T.ws)))) ⟨zf hD _,rfl⟩ ?_ ?_
 ·rintro i ys H1 hi ⟨s1,rfl⟩ hD1
  refine yes ⟨_,rfl,_,rfl,.inr (.inl ⟨a,_,1,_,rfl,rfl,SqT.of (s1 _ _ h1),rfl,w0,_,rfl,.inr (SqT.of (s1 _ _ h2)),rfl,qk _,?_⟩)⟩
  try dsimp only
  rw[if_neg AS,Bx,show V.int (i:Int)=nV i from rfl,jq]
  refine WQ hi jM hD1 (by rw[AB,AZ];exact zu (by omega)) ⟨s1.put hD,?_⟩
  rw[Bj,AL]
  rfl
 rintro ys H1 ⟨s1,rfl⟩ hD1
 refine⟨D,(List.range T.m).map (fun j=>decide (j ∈ T.ws)),rfl,by rw[hD1,A2];rfl,by rw[AB,AZ];exact m9,fun l0 H2 s2 hl0=>?_⟩
 have S2:=s1.trans s2
 refine⟨_,rfl,.inr (.inl ⟨a,_,0,_,rfl,rfl,SqT.of (S2 _ _ h1),rfl,(T.m:Int),rfl,by omega,by omega,?_⟩)⟩
 rw[A4]
 refine qM (fun i σ H'=>∃ (l:Addr) (x2:Option V),σ=[some (.ref a),some (.ref l),x2]/\zD H H'/\H' l=some (.lst ((Tn.itr T.m (fsT T) (Tn.mk0 T.m T.ws) i).map nV))) ⟨l0,_,rfl,S2,hl0⟩ ?_ ?_
 ·rintro i σ H3 hi ⟨l,x2,rfl,s3,hl⟩
  exact⟨_,rfl,_,rfl,_,l,T,_,rfl,ia.same s3,gT,nT,hl,(Tn.itr_mk (Tn.mk0_mk T.m T.ws) i).len,fun k H4 s4 hk=>⟨k,_,rfl,s3.trans s4,hk⟩⟩
 rintro σ H3 ⟨l,x2,rfl,s3,hl⟩
 have fx:=je gT
 have hl':H3 l=some (.lst ((mkT T).map nV)):=hl
 have ml:=fx.mks.len
 refine⟨_,rfl,l,mkT T,rfl,SqL.of hl',fun y hy=>?_,fun sa ds hsa nd hmm=>?_⟩
 ·have:=(Tn.reps_mem.mp ((fx.mks.mem_iff y).mp hy)).1
  omega
 have n4:=zf hsa (DSet w sa ds)
 refine⟨sa,ds,rfl,ze,fun l2 rs hl2 pm so=>?_⟩
 have n5:=zf hl2 (.lst (rs.map nV))
 have er:rs=j7 T:=Tn.ris_eq so (pm.nodup_iff.mpr nd) (Tn.reps_ris _ _) fun d=>by
  rw[pm.mem_iff,hmm d,fx.mks.mem_iff d]
  exact Iff.rfl
 subst er
 have S5:=s3.trans (n4.trans n5)
 have hl5:=(n4.trans n5) _ _ hl'
 have hl2':(upd (upd H3 sa (DSet w sa ds)) l2 (.lst ((j7 T).map nV))) l2=some (.lst ((j7 T).map nV)):=ze
 refine⟨l2,rfl,⟨_,SqL.of hl2'⟩,fun D2 hD2=>?_⟩
 have rl:(j7 T).length<=9:=Ab (Tn.reps_le _ _) m9
 refine jD (xs:=(j7 T).map nV) (fun i zs H'=>zD (upd (upd H3 sa (DSet w sa ds)) l2 (.lst ((j7 T).map nV))) H'/\zs.length=i/\Tps H' (((j7 T).take i).map (Tn.partF T.m (mkT T))) zs) ⟨zf hD2 _,rfl,.nil⟩ (fun i zs H' h _=>SqL.of (h.1 _ _ hl2')) ?_ ?_
 ·rintro i zs H6 x hx ⟨s6,zl,hT⟩ hD6
  have hi:i < ((j7 T).map nV).length:=(AC.mp hx).1
  rw[AJ] at hx
  obtain⟨r,hr',rfl⟩:=AX.mp hx
  refine yes ⟨_,rfl,_,rfl,l,mkT T,r,rfl,s6 _ _ hl5,by omega,fun t H7 s7 ht=>?_⟩
  have hD7:=s7 _ _ hD6
  rw[AB] at hi
  refine WQ (by rw[AB];exact hi) jM hD7 (zu (by omega)) ⟨(s6.trans s7).put hD2,by rw[AH,zl];rfl,?_⟩
  rw[take_snoc hr',AL]
  rw[ml] at ht
  exact Tps.snoc (Tps.tk ((Tk.of s7).trans (Tk.put hD7)) hT) (Tk.put hD7 _ _ ht)
 rintro zs H6 ⟨s6,zl,hT⟩ hD6
 rw[AB,Ae] at hT
 refine⟨D2,_,rfl,.inl ⟨SqL.of hD6,fun t ht=>?_⟩⟩
 have n7:=zf ht (.tup zs)
 exact q t zs _ (S5.trans (s6.trans n7)) ze (Tps.tk (Tk.of n7) hT)
abbrev Zk:Stmt:=top 23
theorem jj:zC ["many", "grades", "places", "reached", "step"] ["many", "grades", "places"] (zo Zk):=⟨rfl,rfl,rfl,by decide +kernel,rfl,by decide +kernel,by decide +kernel⟩
theorem ww {P:Program} {w:World} {K:PySem.W.Frag} {mg:Str->Option Value} {base:Heap} {f:Addr} {fd:FuncData} (F:Fun K "cell_places" "cell_places" Zk f fd) (gb:Gb mg) (d_next_places:Def P w K mg base 1 "next_places" ["places", "many", "grades"] YS):jt P w K mg base CX0 2 f fd ["many", "grades", "places"] JZ:=by
 refine F.ok jj (fun vs H Q E h=>?_) (fun cdv A outer s H vs Q E hr h=>?_)
 ·obtain⟨gs,m,k,G,rfl,_⟩:=h
  rfl
 obtain⟨gs,m,k,G,rfl,m9,k2,hg,g9,q⟩:=h
 refine⟨_,(@zh _ _ _ _ _ (@zr _ _ 3 _ _ _ _ jj.nd rfl (Or.inl rfl) (@zN _ _ _ _ (@zd _ _ _ _ _ (@zi _ _ _ _) (@zg _) rfl)) rfl (by walk_at "f")) (@zh _ _ _ _ _ (@zP _ _ _ _ _ _ _ _ AU rfl (@qj _ _ _ _ _ _ rfl gb.range (@zd _ _ _ _ _ (@pw _ 2 _ _ rfl rfl) (@zg _) rfl) rfl) (@pgl _ 4 _ _ jj.nd rfl rfl) (@zk _ _ _ (@zr _ _ 3 _ _ _ _ jj.nd rfl (Or.inl rfl) (@zw _ _ _ _ _ _ _ _ _ _ _ d_next_places hr (by omega) rfl (@zd _ _ _ _ _ (@pw _ 3 _ _ rfl rfl) (@zd _ _ _ _ _ (@pw _ 0 _ _ rfl rfl) (@zd _ _ _ _ _ (@pw _ 1 _ _ rfl rfl) (@zg _) rfl) rfl) rfl) (by decide) rfl rfl) rfl (by walk_at "f"))) (by intro _;rfl)) (@zk _ _ _ (@zB _ _ _ _ (@pw _ 3 _ _ rfl rfl))))),?_⟩
 refine⟨zq (by show 1<=1000;decide),fun r0 hr0=>?_⟩
 refine⟨_,rfl,(k:Int),rfl,by omega,by omega,?_⟩
 rw[A4]
 refine qM (fun i σ H'=>∃ (l:Addr) (x:Option V),σ=[some (nV m),some (.ref gs),some (nV k),some (.ref l),x]/\zD H H'/\H' l=some (.lst ((Tn.pls m G i).map nV))) ⟨r0,_,rfl,zf hr0 _,ze⟩ ?_ ?_
 ·rintro i σ H1 hi ⟨l,x,rfl,s1,h1⟩
  have pl:(Tn.pls m G i).length<=9:=by
   rw[Tn.pls_len]
   have:i=0\/i=1:=by omega
   rcases this with h | h <;> rw[h]
   ·rw[Nat.pow_zero];decide
   ·rw[Cz]
    exact g9
  exact⟨_,rfl,_,rfl,_,rfl,l,gs,m,_,G,rfl,m9,h1,s1 _ _ hg,pl,g9,fun l2 H2 s2 h2=>⟨l2,_,rfl,s1.trans s2,h2⟩⟩
 ·rintro σ H1 ⟨l,x,rfl,s1,h1⟩
  exact⟨_,rfl,q l _ s1 h1⟩
abbrev ZQ:Stmt:=top 25
theorem jJ:zC ["T", "olds", "news", "connectives", "name", "places", "cells", "reached", "wished"] ["T", "olds", "news"] (zo ZQ):=⟨rfl,rfl,rfl,by decide +kernel,rfl,by decide +kernel,by decide +kernel⟩
theorem zaP {P:Program} {w:World} {K:PySem.W.Frag} {mg:Str->Option Value} {base:Heap} {f:Addr} {fd:FuncData} (F:Fun K "remade" "remade" ZQ f fd) (gb:Gb mg) (d_cell_places:Def P w K mg base 2 "cell_places" ["many", "grades", "places"] JZ):jt P w K mg base CX0 3 f fd ["T", "olds", "news"] J1:=by
 refine F.ok jJ (fun vs H Q E h=>?_) (fun cdv A outer s H vs Q E hr h=>?_)
 ·obtain⟨v,ol,nw,T,G,F,kvs,rfl,_⟩:=h
  rfl
 obtain⟨v,ol,nw,T,G,F,kvs,rfl,⟨a,w,c,vs,rfl,h1,h2,h3,h4⟩,g,hol,gl9,hGl,hnw,hval,q⟩:=h
 have nd0:(["place", "cells"]:List Str).Nodup:=by decide +kernel
 have nd1:(["old", "news"]:List Str).Nodup:=by decide +kernel
 have nd2:(["one", "old", "T"]:List Str).Nodup:=by decide +kernel
 refine⟨_,(@zh _ _ _ _ _ (@zr _ _ 3 _ _ _ _ jJ.nd rfl (Or.inl rfl) (@zN _ _ _ _ (@zg _)) rfl (by walk_at "f")) (@zh _ _ _ _ _ (@zP _ _ _ _ _ _ _ _ AU rfl (@qT _ K _ _ _ (@zv _ _ _ _ _ _ _ (@zn _ K rfl) (@pw _ 0 _ _ rfl rfl) (@zi _ _ _ _) (fun _ _=>rfl)) rfl) (@Z9 _ K _ _ _ _ 3 rfl (@ql _ _ _ _ _ (@pgl _ 4 _ _ jJ.nd rfl rfl) (@ql _ _ _ _ _ (@pgl _ 5 _ _ jJ.nd rfl rfl) (@ql _ _ _ _ _ (@QJ _ _ 6 _ jJ.nd rfl (Or.inr rfl) (by walk_at "f")) (@Z6 _) rfl) rfl) rfl) rfl rfl rfl) (@zh _ _ _ _ _ (@j4 _ ["place", "cells"] [none,some 6] _ 7 _ _ _ _ _ _ _ _ _ _ _ _ (by exact (show zS ["T", "olds", "news", "connectives", "name", "places", "cells", "reached", "wished"] (zo ZQ) ["place", "cells"] [none,some 6] _ from⟨rfl,by decide +kernel,by decide +kernel,by decide +kernel,by decide +kernel,rfl,by decide +kernel⟩)) rfl (@zE _ K _ _ _ (@zw _ _ _ _ _ _ _ _ _ _ _ d_cell_places hr (by omega) rfl (@zd _ _ _ _ _ (@zv _ _ _ _ _ _ _ (@zn _ K rfl) (@pw _ 0 _ _ rfl rfl) (@zi _ _ _ _) (fun _ _=>rfl)) (@zd _ _ _ _ _ (@pw _ 1 _ _ rfl rfl) (@zd _ _ _ _ _ (@pw _ 5 _ _ rfl rfl) (@zg _) rfl) rfl) rfl) (by decide) rfl rfl) rfl) (fun _ _ _ _=>(@pgl _ 0 _ _ nd0 rfl rfl)) (fun _ _ _ _=>(@qW _)) (fun _ _ _ _=>(@zv _ _ _ _ _ _ _ (@zn _ K rfl) (@pw _ 1 _ _ rfl rfl) (@pw _ 0 _ _ rfl rfl) (fun _ _=>rfl))) jJ.nd rfl rfl rfl (by intro _;rfl)) (@zk _ _ _ (@qi _ _ _ _ (@qE _ K _ _ _ _ _ _ _ _ _ _ _ Ac As Ar (@zX _) (@pw _ 3 _ _ rfl rfl) (@zd _ _ _ _ _ (@qd _ _ _ _ _ (@zd _ _ _ _ _ (@pw _ 4 _ _ rfl rfl) (@zd _ _ _ _ _ (@pw _ 5 _ _ rfl rfl) (@zd _ _ _ _ _ (@zG _ _ _ _ _ _ _ _ _ (@zL _ K rfl) rfl gb.tuple qO (@zd _ _ _ _ _ (@qm _ ["old", "news"] [none,some 2] _ _ _ _ _ _ _ _ _ _ (by exact (show zS ["T", "olds", "news", "connectives", "name", "places", "cells", "reached", "wished"] (zo ZQ) ["old", "news"] [none,some 2] _ from⟨rfl,by decide +kernel,by decide +kernel,by decide +kernel,by decide +kernel,rfl,by decide +kernel⟩)) rfl (@zE _ K _ _ _ (@pw _ 7 _ _ rfl rfl) rfl) (fun _ _ _ _=>(@pgl _ 0 _ _ nd1 rfl rfl)) (fun _ _ _ _=>(@qW _)) (fun _ _ _ _=>(@Jw _ _ _ _ _ _ (@pw _ 1 _ _ rfl rfl) (@pw _ 0 _ _ rfl rfl) (fun _ _=>rfl))) (by intro _;rfl)) (@zg _) rfl) (by decide) (by decide) rfl rfl) (@zg _) rfl) rfl) rfl)) (@zg _) rfl) rfl rfl rfl rfl rfl rfl) rfl))) (by intro _;rfl)) (@zh _ _ _ _ _ (@j4 _ ["one", "old", "T"] [none,none,some 0] _ 8 _ _ _ _ _ _ _ _ _ _ _ _ (by exact (show zS ["T", "olds", "news", "connectives", "name", "places", "cells", "reached", "wished"] (zo ZQ) ["one", "old", "T"] [none,none,some 0] _ from⟨rfl,by decide +kernel,by decide +kernel,by decide +kernel,by decide +kernel,rfl,by decide +kernel⟩)) rfl (@kpi_enum _ K _ _ _ _ _ _ _ rfl gb.enumerate (@zd _ _ _ _ _ (@pw _ 1 _ _ rfl rfl) (@zg _) rfl) rfl rfl) (fun _ _ _ _=>(@Z9 _ K _ _ _ _ 2 rfl (@ql _ _ _ _ _ (@pgl _ 0 _ _ nd2 rfl rfl) (@ql _ _ _ _ _ (@pgl _ 1 _ _ nd2 rfl rfl) (@Z6 _) rfl) rfl) rfl rfl rfl)) (fun _ _ _ _=>(@Jn _ _ _ (@zF _ _ _ _ _ _ _ _ (@qo _ K rfl) (@pw _ 1 _ _ rfl rfl) (@zv _ _ _ _ _ _ _ (@zn _ K rfl) (@pw _ 2 _ _ rfl rfl) (@zi _ _ _ _) (fun _ _=>rfl)) (by with_unfolding_all rfl)))) (fun _ _ _ _=>(@pw _ 0 _ _ rfl rfl)) jJ.nd rfl rfl rfl (by intro _;rfl)) (@zk _ _ _ (@zB _ _ _ _ (@qd _ _ _ _ _ (@zd _ _ _ _ _ (@zA _ _ _ _ _ _ _ _ _ (@zT _ K rfl) rfl gb.len qX (@zd _ _ _ _ _ (@pw _ 1 _ _ rfl rfl) (@zg _) rfl) (by decide) (by decide) rfl rfl) (@zd _ _ _ _ _ (@zG _ _ _ _ _ _ _ _ _ (@zL _ K rfl) rfl gb.tuple qO (@zd _ _ _ _ _ (@pw _ 8 _ _ rfl rfl) (@zg _) rfl) (by decide) (by decide) rfl rfl) (@zd _ _ _ _ _ (@zG _ _ _ _ _ _ _ _ _ (@zL _ K rfl) rfl gb.tuple qO (@zd _ _ _ _ _ (@pw _ 3 _ _ rfl rfl) (@zg _) rfl) (by decide) (by decide) rfl rfl) (@zg _) rfl) rfl) rfl))))))),?_⟩
 have m9:=g.m9
 refine⟨zq (by show 0<=1000;decide),fun cn hcn=>?_⟩
 have n0:=zf hcn (.lst [])
 refine⟨_,rfl,.inr (.inl ⟨a,_,2,_,rfl,rfl,SqT.of (n0 _ _ h1),rfl,c,rfl,⟨_,SqT.of (n0 _ _ h3)⟩,?_⟩)⟩
 refine jU (xs:=vs) (fun i σ H'=>(∃ x1 x2 x3 x4 x5,σ=[some (.ref a),some (.ref ol),some (.ref nw),some (.ref cn),x1,x2,x3,x4,x5])/\zD H H'/\∃ ys,H' cn=some (.lst ys)/\Cns H' ((T.cs.take i).map (zaC T.m G F)) ys) ⟨⟨_,_,_,_,_,rfl⟩,n0,[],ze,.nil⟩ (fun i σ H' _ h=>SqT.of (h.2.1 _ _ h3)) ?_ ?_
 ·rintro i x σ H1 hx ⟨⟨x1,x2,x3,x4,x5,rfl⟩,s1,ys,hy,hC⟩
  have hi:i < T.cs.length:=by
   rw[h4.len]
   exact (AC.mp hx).1
  have hcc:T.cs[i]? = some T.cs[i]:=AG hi
  generalize T.cs[i]=cc at hcc
  obtain⟨nl,p2,cs3⟩:=g.cn cc (AI hcc)
  obtain⟨t,u,e1,k1,k2⟩:=h4.get hcc
  rw[hx] at e1
  cases e1
  refine⟨t,_,rfl,SqT.of (s1 _ _ k1),rfl,_,_,rfl,_,_,rfl,_,_,rfl,rfl,?_⟩
  refine⟨_,rfl,.inr (.inl ⟨a,_,0,_,rfl,rfl,SqT.of (s1 _ _ h1),rfl,_,rfl,_,rfl,ol,T.m,cc.pl,G,rfl,m9,p2,s1 _ _ hol,gl9,fun l H2 s2 h2=>?_⟩)⟩
  refine⟨l,rfl,⟨_,SqL.of h2⟩,fun D hD=>?_⟩
  have pln:(Tn.pls T.m G cc.pl).length<=81:=by
   rw[Tn.pls_len]
   exact JL gl9 p2
  refine jv (Tn.pls T.m G cc.pl) nV (fun p=>nV (Tn.at' cc.cs p)) h2 (by omega) hD (fun z hz H' Q' s3 q'=>?_) (fun H3 s3 hD3=>?_)
  ·have hz2:=Tn.pls_lt' hGl cc.pl z hz
   exact⟨_,rfl,_,rfl,.inr (.inl ⟨u,_,_,_,rfl,rfl,SqT.of (s3 _ _ (s2 _ _ (s1 _ _ k2))),Zf (by rw[cs3.len];exact hz2),q' H' zD.rfl'⟩)⟩
  have s13:=s1.trans (s2.trans s3)
  have hy3:=s3 _ _ (s2 _ _ hy)
  refine⟨_,rfl,.inl ⟨rfl,_,SqL.of hy3⟩,_,rfl,_,rfl,_,rfl,D,rfl,⟨_,SqL.of hD3⟩,fun D2 hD4=>?_⟩
  refine jv (Tn.pls T.m G cc.pl) (fun p=>nV (Tn.at' cc.cs p)) (fun p=>nV (Tn.at' F (Tn.at' cc.cs p))) hD3 (by omega) hD4 (fun z hz H' Q' s4 q'=>?_) (fun H4 s4 hD5=>?_)
  ·exact⟨_,rfl,_,rfl,nw,kvs,Sum.inl _,_,rfl,s4 _ _ (s13 _ _ hnw),rfl,hval _ (cs3.at_lt (Tn.pls_lt' hGl cc.pl z hz)),q' H' zD.rfl'⟩
  refine⟨D2,_,rfl,.inl ⟨SqL.of hD5,fun t2 ht2=>?_⟩⟩
  have etc:(Tn.pls T.m G cc.pl).map (fun p=>nV (Tn.at' F (Tn.at' cc.cs p)))=((zaC T.m G F cc).cs).map nV:=by
   show _=((Tn.pls T.m G cc.pl).map _).map nV
   rw[A2]
   rfl
  rw[etc] at *
  have n5:=zf ht2 (.tup (((zaC T.m G F cc).cs).map nV))
  refine⟨zq (by show 3<=1000;decide),fun t3 ht3=>?_⟩
  have n6:=zf ht3 (.tup [.str cc.nm,nV cc.pl,.ref t2])
  have s36:=s4.trans (n5.trans n6)
  have hy6:=s36 _ _ hy3
  have hyl:=hC.len
  rw[AB,An] at hyl
  have gcl:=g.cl
  refine⟨cn,_,_,rfl,rfl,hy6,zu (by omega),⟨⟨_,_,_,_,_,rfl⟩,(s13.trans s36).put hcn,_,ze,?_⟩⟩
  rw[take_snoc hcc,AL]
  exact (Cns.snoc (c:=zaC T.m G F cc) (hC.same (s2.trans (s3.trans s36))) ze (n6 _ _ ze)).tk (Tk.put hy6)
 ·rintro σ H1 ⟨⟨x1,x2,x3,x4,x5,rfl⟩,s1,ys,hy,hC⟩
  rw[show T.cs.take vs.length=T.cs by rw[<- h4.len,Ae]] at hC
  refine⟨_,rfl,ol,_,rfl,SqL.of (s1 _ _ hol),fun D hD=>?_⟩
  refine XF (xs:=G.map nV) (more:=[some (.ref a)]) (fun i zs H'=>zD H1 H'/\zs=((List.range i).filter fun j=>decide (Tn.at' G j ∈ T.ws)).map nV) ⟨zf hD _,rfl⟩ (fun i zs H' h _=>SqL.of (h.1 _ _ (s1 _ _ hol))) ?_ ?_
  ·rintro i zs H2 U x hx ⟨s2,rfl⟩ hD2 hU
   have hi:i < (G.map nV).length:=(AC.mp hx).1
   have hi2:i < G.length:=by rw[AB] at hi;exact hi
   have ex:x=nV (Tn.at' G i):=by
    rw[AJ,AG hi2] at hx
    unfold Tn.at'
    rw[Ao,AG hi2]
    exact (Ad hx).symm
   subst ex
   have n3:=zf hU (.tup [nV i,nV (Tn.at' G i)])
   have s3:=s2.trans n3
   have hD3:=n3 _ _ hD2
   have zl:(((List.range i).filter fun j=>decide (Tn.at' G j ∈ T.ws)).map nV).length<=9:=by
    rw[AB]
    have:=CU (fun j=>decide (Tn.at' G j ∈ T.ws)) (List.range i)
    rw[AZ] at this
    omega
   refine⟨_,rfl,_,rfl,.inr (.inl ⟨a,_,1,_,rfl,rfl,SqT.of (s3 _ _ (s1 _ _ h1)),rfl,w,_,rfl,.inr (SqT.of (s3 _ _ (s1 _ _ h2))),rfl,qk _,_,rfl,?_⟩)⟩
   dsimp only
   rw[if_neg AS,jq]
   by_cases hm:Tn.at' G i ∈ T.ws
   ·rw[if_pos (Ai hm)]
    refine⟨_,rfl,WQ hi ⟨_,_,rfl⟩ hD3 (zu (by omega)) ⟨s3.put hD,?_⟩⟩
    rw[Bj,DO,AL]
    simp[hm]
   ·rw[if_neg (by rw[Aw hm];exact AS)]
    refine cno hi ⟨_,_,rfl⟩ hD3 ⟨s3,?_⟩
    rw[Bj,DO,AL]
    simp[hm]
  ·rintro zs H2 ⟨s2,rfl⟩ hD2
   rw[AB] at hD2
   refine⟨_,rfl,_,_,rfl,.inl ⟨_,SqL.of (s2 _ _ (s1 _ _ hol)),rfl⟩,?_⟩
   refine⟨_,rfl,D,_,rfl,.inl ⟨SqL.of hD2,fun tw htw=>?_⟩⟩
   have n3:=zf htw (.tup (((List.range G.length).filter fun j=>decide (Tn.at' G j ∈ T.ws)).map nV))
   refine⟨_,rfl,cn,_,rfl,.inl ⟨SqL.of (n3 _ _ (s2 _ _ hy)),fun tc htc=>?_⟩⟩
   have n4:=zf htc (.tup ys)
   refine⟨zq (by show 3<=1000;decide),fun t htt=>?_⟩
   have el:((G.map nV).length:Int)=(G.length:Int):=by rw[AB]
   have n5:=zf htt (.tup [nV G.length,.ref tw,.ref tc])
   dsimp only
   rw[el]
   refine q _ _ (s1.trans (s2.trans (n3.trans (n4.trans n5)))) ⟨t,tw,tc,ys,rfl,ze,n5 _ _ (n4 _ _ ze),n5 _ _ ze,hC.same (s2.trans (n3.trans (n4.trans n5)))⟩
abbrev QE:Stmt:=top 27
theorem ZE:zC ["T", "parts", "news", "number", "part"] ["T"] (zo QE):=⟨rfl,rfl,rfl,by decide +kernel,rfl,by decide +kernel,by decide +kernel⟩
theorem zaQ {P:Program} {w:World} {K:PySem.W.Frag} {mg:Str->Option Value} {base:Heap} {f:Addr} {fd:FuncData} (F:Fun K "shrunk" "shrunk" QE f fd) (gb:Gb mg) (d_alike:Def P w K mg base 4 "alike" ["T"] WI) (d_remade:Def P w K mg base 3 "remade" ["T", "olds", "news"] J1):jt P w K mg base CX0 5 f fd ["T"] WK:=by
 refine F.ok ZE (fun vs H Q E h=>?_) (fun cdv A outer s H vs Q E hr h=>?_)
 ·obtain⟨v,T,rfl,_⟩:=h
  rfl
 obtain⟨v,T,rfl,ia,gT,nT,q⟩:=h
 have nd0:(["old", "number"]:List Str).Nodup:=by decide +kernel
 have nd1:(["part"]:List Str).Nodup:=by decide +kernel
 refine⟨_,(@zh _ _ _ _ _ (@zr _ _ 1 _ _ _ _ ZE.nd rfl (Or.inl rfl) (@zw _ _ _ _ _ _ _ _ _ _ _ d_alike hr (by omega) rfl (@zd _ _ _ _ _ (@pw _ 0 _ _ rfl rfl) (@zg _) rfl) (by decide) rfl rfl) rfl (by walk_at "f")) (@zh _ _ _ _ _ (@zr _ _ 2 _ _ _ _ ZE.nd rfl (Or.inl rfl) (@Wh _ _) rfl (by walk_at "f")) (@zh _ _ _ _ _ (@zP _ _ _ _ _ _ _ _ AU rfl (@XH _ K _ _ _ _ _ _ _ rfl gb.enumerate (@zd _ _ _ _ _ (@pw _ 1 _ _ rfl rfl) (@zg _) rfl) rfl rfl) (@Z9 _ K _ _ _ _ 2 rfl (@ql _ _ _ _ _ (@QJ _ _ 3 _ ZE.nd rfl (Or.inr rfl) (by walk_at "f")) (@ql _ _ _ _ _ (@pgl _ 4 _ _ ZE.nd rfl rfl) (@Z6 _) rfl) rfl) rfl rfl rfl) (@zk _ _ _ (@qi _ _ _ _ (@qE _ K _ _ _ _ _ _ _ _ _ _ _ PySem.F.plainAttrs_dict PySem.F.slot_dict_update PySem.F.type_dict_update (@mt_updP _ rfl) (@pw _ 2 _ _ rfl rfl) (@zd _ _ _ _ _ (@qm _ ["old", "number"] [none,some 3] _ _ _ _ _ _ _ _ _ _ (by exact (show zS ["T", "parts", "news", "number", "part"] (zo QE) ["old", "number"] [none,some 3] _ from⟨rfl,by decide +kernel,by decide +kernel,by decide +kernel,by decide +kernel,rfl,by decide +kernel⟩)) rfl (@qT _ K _ _ _ (@pw _ 4 _ _ rfl rfl) rfl) (fun _ _ _ _=>(@pgl _ 0 _ _ nd0 rfl rfl)) (fun _ _ _ _=>(@qW _)) (fun _ _ _ _=>(@qd _ _ _ _ _ (@zd _ _ _ _ _ (@pw _ 0 _ _ rfl rfl) (@zd _ _ _ _ _ (@pw _ 1 _ _ rfl rfl) (@zg _) rfl) rfl))) (by intro _;rfl)) (@zg _) rfl) rfl rfl rfl rfl rfl rfl) rfl)) (by intro _;rfl)) (@zk _ _ _ (@zB _ _ _ _ (@zw _ _ _ _ _ _ _ _ _ _ _ d_remade hr (by omega) rfl (@zd _ _ _ _ _ (@pw _ 0 _ _ rfl rfl) (@zd _ _ _ _ _ (@qm _ ["part"] [none] _ _ _ _ _ _ _ _ _ _ (by exact (show zS ["T", "parts", "news", "number", "part"] (zo QE) ["part"] [none] _ from⟨rfl,by decide +kernel,by decide +kernel,by decide +kernel,by decide +kernel,rfl,by decide +kernel⟩)) rfl (@qT _ K _ _ _ (@pw _ 1 _ _ rfl rfl) rfl) (fun _ _ _ _=>(@pgl _ 0 _ _ nd1 rfl rfl)) (fun _ _ _ _=>(@qW _)) (fun _ _ _ _=>(@zv _ _ _ _ _ _ _ (@zn _ K rfl) (@pw _ 0 _ _ rfl rfl) (@zi _ _ _ _) (fun _ _=>rfl))) (by intro _;rfl)) (@zd _ _ _ _ _ (@pw _ 2 _ _ rfl rfl) (@zg _) rfl) rfl) rfl) (by decide) rfl rfl)))))),?_⟩
 obtain⟨a,w0,c,vs,rfl,h1,h2,h3,h4⟩:=id ia
 have m9:=gT.m9
 have fx:=je gT
 have rl:(j7 T).length<=9:=Ab (Tn.reps_le _ _) m9
 refine⟨_,rfl,.ref a,T,rfl,ia,gT,nT,fun t xs H1 s1 ht hT=>?_⟩
 have hxl:xs.length=(j7 T).length:=by
  rw[<- Al hT]
  unfold ptsT
  rw[AB]
 refine fun nd hnd=>?_
 have n1:=zf hnd (.dK [])
 refine⟨_,rfl,t,_,rfl,SqT.of (n1 _ _ ht),?_⟩
 refine zac (xs:=xs) (fun i σ H'=>(∃ x3 x4,σ=[some (.ref a),some (.ref t),some (.ref nd),x3,x4])/\zD H1 H'/\∃ kvs:List (Key×V),H' nd=some (.dK kvs)/\kvs.length<=9 * i/\∀ x,x < T.m->Tn.at' (ZU T) x < i->jo kvs (Sum.inl (x:Int))=some (nV (Tn.at' (ZU T) x))) ⟨⟨_,_,rfl⟩,n1,[],ze,AK _,fun x _ h=>absurd h (CT _)⟩ (fun i σ H' _ h=>SqT.of (h.2.1 _ _ ht)) ?_ ?_
 ·rintro i x σ H2 U hx ⟨⟨x3,x4,rfl⟩,s2,kvs,hk,kl,hv⟩ hU
  have hi:i < xs.length:=(AC.mp hx).1
  have hr':(j7 T)[i]? = some (j7 T)[i]:=AG (by omega)
  generalize (j7 T)[i]=r at hr'
  obtain⟨z',e1,b,rfl,hb⟩:=qJ hT (i:=i) (a:=Tn.partF T.m (mkT T) r) (by unfold ptsT;rw[List.getElem?_map,hr'];rfl)
  rw[hx] at e1
  cases e1
  have n3:=zf hU (.tup [.int (i:Nat),.ref b])
  have S3:=s2.trans n3
  have hk3:=n3 _ _ hk
  have hb3:=S3 _ _ hb
  refine⟨U,_,rfl,SqT.of ze,rfl,_,_,rfl,_,_,rfl,rfl,?_⟩
  generalize upd H2 U (.tup [.int (i:Nat),.ref b])=H3 at *
  have pl:(Tn.partF T.m (mkT T) r).length<=9:=by
   have:=CU (fun j=>decide (Tn.at' (mkT T) j=r)) (List.range T.m)
   rw[AZ] at this
   exact Ab this m9
  generalize hP:Tn.partF T.m (mkT T) r=P at *
  refine⟨_,rfl,.inr (.inr (.inl ⟨rfl,.inl ⟨_,hk3⟩⟩)),?_⟩
  refine⟨_,rfl,b,rfl,⟨_,SqT.of hb3⟩,fun D hD=>?_⟩
  refine Jb (xs:=P.map nV) (fun m ys H'=>zD H3 H'/\ys.length=m/\Prs H' ys ((P.take m).map fun (x:Nat)=>((Sum.inl (x:Int):Key),nV i))) ⟨zf hD _,rfl,.nil⟩ (fun m ys H' h _=>SqT.of (h.1 _ _ hb3)) ?_ ?_
  ·rintro m ys H4 x hx4 ⟨s4,yl,hPr⟩ hD4
   have hm:m < (P.map nV).length:=(AC.mp hx4).1
   rw[AJ] at hx4
   obtain⟨y,hy,rfl⟩:=AX.mp hx4
   refine yes ⟨_,rfl,_,rfl,zq (by show 2<=1000;decide),fun t4 ht4=>?_⟩
   have n5:=zf ht4 (.tup [nV y,nV i])
   have hD5:=n5 _ _ hD4
   refine WQ hm jM hD5 (zu (by rw[AB] at hm;omega)) ⟨(s4.trans n5).put hD,by rw[AH,yl];rfl,?_⟩
   rw[take_snoc hy,AL]
   exact Prs.snoc (p:=(Sum.inl (y:Int),nV i)) (Prs.tk (Tk.put hD5) (Prs.tk (Tk.of n5) hPr)) (Tk.put hD5 _ _ ze)
  rintro ys H4 ⟨s4,yl,hPr⟩ hD4
  rw[AB,Ae] at hPr
  refine⟨nd,D,kvs,ys,_,rfl,rfl,s4 _ _ hk3,hD4,hPr,zq (by rw[AB];omega),?_⟩
  refine⟨⟨_,_,rfl⟩,(S3.trans s4).put hnd,_,ze,?_,fun x hx' hl=>?_⟩
  ·have:=jw (P.map fun (x:Nat)=>((Sum.inl (x:Int):Key),nV i)) kvs
   rw[AB] at this
   omega
  ·have er:Tn.at' (j7 T) i=r:=by
    unfold Tn.at'
    rw[Ao,hr']
    rfl
   rw[yB]
   by_cases e:Tn.at' (ZU T) x=i
   ·have:x ∈ P:=by
     rw[<- hP]
     refine Tn.part_mem.mpr ⟨hx',?_⟩
     have h5:Tn.at' (j7 T) (Tn.at' (ZU T) x)=Tn.at' (mkT T) x:=Tn.reps_home fx.mks hx'
     rw[<- h5,e,er]
    rw[if_pos this,e]
   ·have:¬ x ∈ P:=fun h=>by
     rw[<- hP] at h
     have h5:=(Tn.part_mem.mp h).2
     have hrm:=Tn.reps_mem.mp (AI hr')
     have h6:Tn.at' (ZU T) x=Tn.at' (ZU T) r:=(Tn.homes_eq fx.mks hx' hrm.1).mpr (h5.trans hrm.2.symm)
     have h7:=(Tn.homes_reps fx.mks (y:=i) (by show i < (j7 T).length;omega)).2
     have h8:Tn.at' (ZU T) (Tn.at' (j7 T) i)=i:=h7
     rw[er] at h8
     exact e (h6.trans h8)
    rw[if_neg this]
    exact hv x hx' (by omega)
 ·rintro σ H2 ⟨⟨x3,x4,rfl⟩,s2,kvs,hk,kl,hv⟩
  have ht2:=s2 _ _ ht
  refine⟨_,rfl,_,rfl,t,rfl,⟨_,SqT.of ht2⟩,fun D hD=>?_⟩
  refine Jb (xs:=xs) (fun i ys H'=>zD H2 H'/\ys=((j7 T).take i).map nV) ⟨zf hD _,rfl⟩ (fun i ys H' h _=>SqT.of (h.1 _ _ ht2)) ?_ ?_
  ·rintro i ys H3 x hx ⟨s3,rfl⟩ hD3
   have hi:i < xs.length:=(AC.mp hx).1
   have hr':(j7 T)[i]? = some (j7 T)[i]:=AG (by omega)
   generalize (j7 T)[i]=r at hr'
   obtain⟨z',e1,b,rfl,hb⟩:=qJ hT (i:=i) (a:=Tn.partF T.m (mkT T) r) (by unfold ptsT;rw[List.getElem?_map,hr'];rfl)
   rw[hx] at e1
   cases e1
   have hd:=Tn.part_head fx.mks (AI hr')
   have e0:atI ((Tn.partF T.m (mkT T) r).map nV) 0=some (nV r):=by
    have h:=Zf (xs:=Tn.partF T.m (mkT T) r) (i:=0) (AC.mp hd).1
    have e:Tn.at' (Tn.partF T.m (mkT T) r) 0=r:=by
     unfold Tn.at'
     rw[Ao,hd]
     rfl
    rw[e] at h
    exact h
   refine yes ⟨_,rfl,.inr (.inl ⟨b,_,0,_,rfl,rfl,SqT.of ((s2.trans s3) _ _ hb),e0,?_⟩)⟩
   refine WQ hi jM hD3 (by rw[AB,An];exact zu (by omega)) ⟨s3.put hD,?_⟩
   rw[take_snoc hr',AL]
   rfl
  rintro ys H3 ⟨s3,rfl⟩ hD3
  rw[hxl,Ae] at hD3
  have S3:=s1.trans (s2.trans s3)
  refine⟨_,rfl,.ref a,D,nd,T,j7 T,ZU T,kvs,rfl,ia.same S3,gT,hD3,rl,zaD,s3 _ _ hk,fun x hx=>hv x hx (by rw[hxl];exact QQ gT hx),fun u H4 s4 iu=>?_⟩
  exact q u H4 (S3.trans s4) iu
abbrev ZF:Stmt:=top 21
theorem jb:zC ["T", "cells", "ways", "pairs", "reached", "pair", "step", "led_to"] ["T", "cells", "ways", "pairs"] (zo ZF):=⟨rfl,rfl,rfl,by decide +kernel,rfl,by decide +kernel,by decide +kernel⟩
theorem WL {P:Program} {w:World} {K:PySem.W.Frag} {mg:Str->Option Value} {base:Heap} {f:Addr} {fd:FuncData} (F:Fun K "next_pairs" "next_pairs" ZF f fd) (gb:Gb mg) (d_steps_of:Def P w K mg base 1 "steps_of" ["T"] WE) (d_stepped:Def P w K mg base 1 "stepped" ["cells", "many", "step", "x"] QC):jt P w K mg base CX0 3 f fd ["T", "cells", "ways", "pairs"] Yo:=by
 refine F.ok jb (fun vs H Q E h=>?_) (fun cdv A outer s H vs Q E hr h=>?_)
 ·obtain⟨v,e,wy,pl,T,kvs,us,W,P,o,rfl,_⟩:=h
  rfl
 obtain⟨v,e,wy,pl,T,kvs,us,W,P,o,rfl,ia,gT,hcd,ew,hw,hW,hp,hP,hPW,q⟩:=h
 refine⟨_,(@zh _ _ _ _ _ (@zr _ _ 4 _ _ _ _ jb.nd rfl (Or.inl rfl) (@zN _ _ _ _ (@zg _)) rfl (by walk_at "f")) (@zh _ _ _ _ _ (@zP _ _ _ _ _ _ _ _ AU rfl (@zE _ K _ _ _ (@pw _ 3 _ _ rfl rfl) rfl) (@pgl _ 5 _ _ jb.nd rfl rfl) (@zk _ _ _ (@zP _ _ _ _ _ _ _ _ AU rfl (@zE _ K _ _ _ (@zw _ _ _ _ _ _ _ _ _ _ _ d_steps_of hr (by omega) rfl (@zd _ _ _ _ _ (@pw _ 0 _ _ rfl rfl) (@zg _) rfl) (by decide) rfl rfl) rfl) (@pgl _ 6 _ _ jb.nd rfl rfl) (@zh _ _ _ _ _ (@zr _ _ 7 _ _ _ _ jb.nd rfl (Or.inl rfl) (@qd _ _ _ _ _ (@zd _ _ _ _ _ (@zw _ _ _ _ _ _ _ _ _ _ _ d_stepped hr (by omega) rfl (@zd _ _ _ _ _ (@pw _ 1 _ _ rfl rfl) (@zd _ _ _ _ _ (@zv _ _ _ _ _ _ _ (@zn _ K rfl) (@pw _ 0 _ _ rfl rfl) (@zi _ _ _ _) (fun _ _=>rfl)) (@zd _ _ _ _ _ (@pw _ 6 _ _ rfl rfl) (@zd _ _ _ _ _ (@zv _ _ _ _ _ _ _ (@zn _ K rfl) (@pw _ 5 _ _ rfl rfl) (@zi _ _ _ _) (fun _ _=>rfl)) (@zg _) rfl) rfl) rfl) rfl) (by decide) rfl rfl) (@zd _ _ _ _ _ (@zw _ _ _ _ _ _ _ _ _ _ _ d_stepped hr (by omega) rfl (@zd _ _ _ _ _ (@pw _ 1 _ _ rfl rfl) (@zd _ _ _ _ _ (@zv _ _ _ _ _ _ _ (@zn _ K rfl) (@pw _ 0 _ _ rfl rfl) (@zi _ _ _ _) (fun _ _=>rfl)) (@zd _ _ _ _ _ (@pw _ 6 _ _ rfl rfl) (@zd _ _ _ _ _ (@zv _ _ _ _ _ _ _ (@zn _ K rfl) (@pw _ 5 _ _ rfl rfl) (@zi _ _ _ _) (fun _ _=>rfl)) (@zg _) rfl) rfl) rfl) rfl) (by decide) rfl rfl) (@zg _) rfl) rfl)) rfl (by walk_at "f")) (@zk _ _ _ (@qL _ _ _ _ _ _ _ _ (@zF _ _ _ _ _ _ _ _ (@yi _ _ hr) (@pw _ 7 _ _ rfl rfl) (@pw _ 2 _ _ rfl rfl) (by with_unfolding_all rfl)) (@zh _ _ _ _ _ (@ps_dput _ _ _ _ _ _ _ _ _ (@hu1 _ _ hr) (@pw _ 2 _ _ rfl rfl) (@pw _ 7 _ _ rfl rfl) (@zy _ _ _ _ _ _ _ _ (@Wf _ K rfl) (@QL _ _ _ _ _ _ (@hu1 _ _ hr) (@pw _ 2 _ _ rfl rfl) (@pw _ 5 _ _ rfl rfl) (fun _ _=>rfl)) (@qd _ _ _ _ _ (@zd _ _ _ _ _ (@pw _ 6 _ _ rfl rfl) (@zg _) rfl))) rfl) (@zk _ _ _ (@qi _ _ _ _ (@qE _ K _ _ _ _ _ _ _ _ _ _ _ Ac As Ar (@zX _) (@pw _ 4 _ _ rfl rfl) (@zd _ _ _ _ _ (@pw _ 7 _ _ rfl rfl) (@zg _) rfl) rfl rfl rfl rfl rfl rfl) rfl))) (@zO _)))) (by intro _;rfl))) (by intro _;rfl)) (@zk _ _ _ (@zB _ _ _ _ (@pw _ 4 _ _ rfl rfl))))),?_⟩
 obtain⟨a,w0,c,vs,rfl,h1,h2,h3,h4⟩:=id ia
 have m9:=gT.m9
 refine⟨zq (by show 0<=1000;decide),fun rl hrl=>?_⟩
 have n0:=zf hrl (.lst [])
 have plw:pl ≠ wy:=Y5 hp hw (by intro z;cases z)
 have plr:pl ≠ rl:=zH hp hrl
 have er:e ≠ rl:=by
  obtain⟨kv0,he0,_⟩:=hcd
  exact zH he0 hrl
 have hul:=Al hP
 refine⟨_,rfl,pl,rfl,⟨_,SqL.of (n0 _ _ hp)⟩,?_⟩
 refine qf (xs:=us) (fun i σ H'=>∃ x5 x6 x7 kvs' us' R,σ=[some (.ref a),some (.ref e),some (.ref wy),some (.ref pl),some (.ref rl),x5,x6,x7]/\Of2 wy rl H H'/\H' wy=some (.dT kvs')/\Wy H' (T,o) kvs' (W++R)/\H' rl=some (.lst us')/\Pr2 H' R us'/\(∀ z ∈ R,∃ p ∈ P,∃ s ∈ ZO T,z=nxt T.m s p)/\(∀ p ∈ P.take i,∀ s ∈ ZO T,nxt T.m s p ∈ W++R)) ⟨none,none,none,kvs,[],[],rfl,Of2.of n0,n0 _ _ hw,by rw[BW];exact hW.tk (Tk.of n0),ze,.nil,(fun z h=>by cases h),(fun z h=>by cases h)⟩ (fun i σ H' _ h=>by obtain⟨_,_,_,_,_,_,_,o,_⟩:=h;exact SqL.of (o _ _ plw plr hp)) ?_ ?_
 ·rintro i x σ H1 hx ⟨x5,x6,x7,kvs1,us1,R,rfl,o1,hw1,hW1,hr1,hR1,hF,hN⟩
  have hi:i < us.length:=(AC.mp hx).1
  have hpi:P[i]? = some P[i]:=AG (by omega)
  generalize P[i]=p at hpi
  obtain⟨v',e1,tp,rfl,htp⟩:=qJ hP hpi
  rw[hx] at e1
  cases e1
  have hpm:=AI hpi
  have k1:Tk H H1:=o1.tk (by rw[hw];intro _ z;cases z) (by rw[hrl];intro _ z;cases z)
  have pW:p ∈ W:=hPW p hpm
  obtain⟨p1,p2⟩:=hW.lt p pW
  refine⟨_,rfl,.ref a,T,rfl,ia.tk k1,gT,fun st ss H2 fst s2 hst hS=>?_⟩
  have str:st ≠ rl:=fun z=>by rw[z,hr1] at fst;cases fst
  have stw:st ≠ wy:=fun z=>by rw[z,hw1] at fst;cases fst
  have hul2:=Al hS
  have hw2:=s2 _ _ hw1
  have hr2:=s2 _ _ hr1
  refine⟨st,rfl,⟨_,SqL.of hst⟩,?_⟩
  refine qf (xs:=ss) (fun j σ H'=>∃ x6 x7 kvs' us' R',σ=[some (.ref a),some (.ref e),some (.ref wy),some (.ref pl),some (.ref rl),some (.ref tp),x6,x7]/\Of2 wy rl H2 H'/\H' wy=some (.dT kvs')/\Wy H' (T,o) kvs' (W++R')/\H' rl=some (.lst us')/\Pr2 H' R' us'/\(∀ z ∈ R',∃ p ∈ P,∃ s ∈ ZO T,z=nxt T.m s p)/\(∀ z ∈ R,z ∈ R')/\(∀ s ∈ (ZO T).take j,nxt T.m s p ∈ W++R')) ⟨x6,x7,kvs1,us1,R,rfl,Of2.of zD.rfl',hw2,hW1.tk (Tk.of s2),hr2,hR1.tk (Tk.of s2),hF,fun z h=>h,(fun s h=>by cases h)⟩ (fun j σ H' _ h=>by obtain⟨_,_,_,_,_,_,o,_⟩:=h;exact SqL.of (o _ _ stw str hst)) ?_ ?_
  ·rintro j x σ H3 hx3 ⟨x6,x7,kvs3,us3,R3,rfl,o3,hw3,hW3,hr3,hR3,hF3,hM3,hN3⟩
   have hj:j < ss.length:=(AC.mp hx3).1
   have hsj:(ZO T)[j]? = some (ZO T)[j]:=AG (by omega)
   generalize (ZO T)[j]=s at hsj
   obtain⟨v',e3,ts,rfl,hts⟩:=qJ hS hsj
   rw[hx3] at e3
   cases e3
   have hsm:=AI hsj
   have k23:Tk H2 H3:=o3.tk (by rw[hw2];intro _ z;cases z) (by rw[hr2];intro _ z;cases z)
   have kH2:Tk H H2:=k1.trans (Tk.of s2)
   have kH3:Tk H H3:=kH2.trans k23
   have cd3:xC H3 e T:=Y1 ((Y1 hcd o1 ew er k1).same s2) o3 ew er k23
   refine⟨_,rfl,_,rfl,.inr (.inl ⟨a,_,0,_,rfl,rfl,SqT.of (kH3 _ _ h1),rfl,_,rfl,_,rfl,.inr (.inl ⟨tp,_,0,_,rfl,rfl,SqT.of (kH3 _ _ htp),rfl,e,ts,T,s,p.1,rfl,cd3,gT,hsm,k23 _ _ hts,p1,fun H4 s4=>?_⟩)⟩)⟩
   refine⟨_,rfl,_,rfl,.inr (.inl ⟨a,_,0,_,rfl,rfl,SqT.of (s4 _ _ (kH3 _ _ h1)),rfl,_,rfl,_,rfl,.inr (.inl ⟨tp,_,1,_,rfl,rfl,SqT.of (s4 _ _ (kH3 _ _ htp)),rfl,e,ts,T,s,p.2,rfl,cd3.same s4,gT,hsm,s4 _ _ (k23 _ _ hts),p2,fun H5 s5=>?_⟩)⟩)⟩
   refine⟨zq (by show 2<=1000;decide),fun lt hlt=>?_⟩
   have n6:=zf hlt (.tup [nV (jr T.m s p.1),nV (jr T.m s p.2)])
   have S36:=s4.trans (s5.trans n6)
   have hlt6:(upd H5 lt (.tup [nV (jr T.m s p.1),nV (jr T.m s p.2)])) lt=some (.tup ((pk (nxt T.m s p)).map kV)):=ze
   generalize upd H5 lt (.tup [nV (jr T.m s p.1),nV (jr T.m s p.2)])=H6 at *
   have hw6:=S36 _ _ hw3
   have hr6:=S36 _ _ hr3
   have hW6:=hW3.tk (Tk.of S36)
   have hR6:=hR3.tk (Tk.of S36)
   have zl:(nxt T.m s p).1 < T.m/\(nxt T.m s p).2 < T.m:=⟨QR gT hsm p1,QR gT hsm p2⟩
   have cnt:(W++R3).length<=T.m * T.m:=hW6.count
   have c81:=sq81 m9
   refine⟨_,rfl,_,rfl,wy,lt,kvs3,pk (nxt T.m s p),rfl,rfl,hw6,hlt6,_,rfl,?_⟩
   rw[hW6.some_iff]
   by_cases hz:nxt T.m s p ∈ W++R3
   ·rw[Ai hz]
    refine WP ⟨_,_,kvs3,us3,R3,rfl,o3.trans (Of2.of S36),hw6,hW6,hr6,hR6,hF3,hM3,fun s' hs'=>?_⟩
    rw[take_snoc hsj] at hs'
    rcases AQ.mp hs' with h | h
    ·exact hN3 s' h
    ·rw[AE.mp h]
     exact hz
   rw[Aw hz]
   refine W5 ?_
   obtain⟨tw,ws',ss',hval,htw,hxl,hss,hsm',hwk⟩:=hW6.val p (Ah _ pW)
   have hg:Js H6 wy (.ref tp) (jo kvs3 (pk p)):=Js.t hw6 (S36 _ _ (kH3 _ _ htp))
   rw[hval] at hg
   refine⟨_,rfl,_,rfl,wy,_,rfl,hg,_,rfl,zq (by show 1<=1000;decide),fun t1 ht1=>?_⟩
   have n7:=zf ht1 (.tup [.ref ts])
   refine JP (n7 _ _ htw) ze (by show ws'.length+1<=1000;omega) fun t2 H8 s8 ht2=>?_
   have S68:=n7.trans s8
   have hw8:=S68 _ _ hw6
   have hr8:=S68 _ _ hr6
   have kl:=hW6.len
   refine⟨_,rfl,_,rfl,wy,_,rfl,DPut.t hw8 (S68 _ _ hlt6) (zu (by omega)),?_⟩
   have rlw:rl ≠ wy:=fun z=>by rw[z,hw8] at hr8;cases hr8
   have hr9:(upd H8 wy (.dT (jX kvs3 (pk (nxt T.m s p)) (.ref t2)))) rl=some (.lst us3):=by rw[zI rlw];exact hr8
   have hr3l:=Al hR6
   refine⟨_,rfl,.inl ⟨rfl,_,SqL.of hr9⟩,_,rfl,rl,us3,_,rfl,rfl,hr9,zu (by rw[AH] at cnt;omega),?_⟩
   have k8:Tk H6 (upd (upd H8 wy (.dT (jX kvs3 (pk (nxt T.m s p)) (.ref t2)))) rl (.lst (us3++[.ref lt]))):=(Tk.of S68).trans ((Tk.putD hw8).trans (Tk.put hr9))
   have k9:Tk H8 (upd (upd H8 wy (.dT (jX kvs3 (pk (nxt T.m s p)) (.ref t2)))) rl (.lst (us3++[.ref lt]))):=(Tk.putD hw8).trans (Tk.put hr9)
   refine⟨_,_,jX kvs3 (pk (nxt T.m s p)) (.ref t2),us3++[.ref lt],R3++[nxt T.m s p],rfl,?_,by rw[zI (BD rlw)];exact ze,?_,ze,Pr2.snoc (hR6.tk k8) (k8 _ _ hlt6),fun z hz'=>?_,fun z h=>Ah _ (hM3 z h),fun s' hs'=>?_⟩
   ·exact (o3.trans (Of2.of (S36.trans S68))).trans (Of2.putA.trans Of2.putB)
   ·rw[<- CC]
    exact ((hW6.tk (Tk.of S68)).add hz zl ht2 (by rw[AH,AH];rw[AH] at hxl;show ws'.length+1<=_;omega) (ss:=ss'++[s]) (Sts.app (Sts.tk (Tk.of S68) hss) (.cons ⟨ts,rfl,S68 _ _ (S36 _ _ (k23 _ _ hts))⟩ .nil)) (fun s' hs'=>by
     rcases AQ.mp hs' with h | h
     ·exact hsm' s' h
     ·rw[AE.mp h];exact hsm) (by unfold wlk;rw[List.foldl_append];unfold wlk at hwk;rw[hwk];rfl)).tk k9
   ·rcases AQ.mp hz' with h | h
    ·exact hF3 z h
    ·exact⟨p,hpm,s,hsm,AE.mp h⟩
   ·rw[take_snoc hsj] at hs'
    rw[<- CC]
    rcases AQ.mp hs' with h | h
    ·exact Ah _ (hN3 s' h)
    ·rw[AE.mp h]
     exact Aa _ (AE.mpr rfl)
  ·rintro σ H3 ⟨x6,x7,kvs3,us3,R3,rfl,o3,hw3,hW3,hr3,hR3,hF3,hM3,hN3⟩
   rw[<- hul2,Ae] at hN3
   refine⟨_,_,_,kvs3,us3,R3,rfl,o1.trans ((Of2.of s2).trans o3),hw3,hW3,hr3,hR3,hF3,fun p' hp' s' hs'=>?_⟩
   rw[take_snoc hpi] at hp'
   rcases AQ.mp hp' with h | h
   ·rcases AQ.mp (hN p' h s' hs') with h | h
    ·exact Ah _ h
    ·exact Aa _ (hM3 _ h)
   ·rw[AE.mp h]
    exact hN3 s' hs'
 ·rintro σ H1 ⟨x5,x6,x7,kvs1,us1,R,rfl,o1,hw1,hW1,hr1,hR1,hF,hN⟩
  rw[<- hul,Ae] at hN
  exact⟨_,rfl,q rl us1 R kvs1 H1 (fun b o nb hb=>o1 b o nb (zH hb hrl) hb) hw1 hW1 hr1 hR1 hF hN⟩
abbrev QF:Stmt:=top 20
theorem jA:zC ["T", "x", "y", "cells", "ways", "pairs", "parted"] ["T", "x", "y"] (zo QF):=⟨rfl,rfl,rfl,by decide +kernel,rfl,by decide +kernel,by decide +kernel⟩
theorem xP {P:Program} {w:World} {K:PySem.W.Frag} {mg:Str->Option Value} {base:Heap} {f:Addr} {fd:FuncData} (F:Fun K "parting" "parting" QF f fd) (gb:Gb mg) (d_cells_by_name:Def P w K mg base 1 "cells_by_name" ["H"] xJ) (d_next_pairs:Def P w K mg base 3 "next_pairs" ["T", "cells", "ways", "pairs"] Yo):jt P w K mg base CX0 4 f fd ["T", "x", "y"] JY:=by
 refine F.ok jA (fun vs H Q E h=>?_) (fun cdv A outer s H vs Q E hr h=>?_)
 ·obtain⟨v,T,x,y,rfl,_⟩:=h
  rfl
 obtain⟨v,T,x,y,rfl,ia,gT,nT,hx,hy,q0,q1⟩:=h
 have nd0:(["pair", "T"]:List Str).Nodup:=by decide +kernel
 refine⟨_,(@zh _ _ _ _ _ (@zr _ _ 3 _ _ _ _ jA.nd rfl (Or.inl rfl) (@zw _ _ _ _ _ _ _ _ _ _ _ d_cells_by_name hr (by omega) rfl (@zd _ _ _ _ _ (@pw _ 0 _ _ rfl rfl) (@zg _) rfl) (by decide) rfl rfl) rfl (by walk_at "f")) (@zh _ _ _ _ _ (@zr _ _ 4 _ _ _ _ jA.nd rfl (Or.inl rfl) (@pe_dispT _ _ _ _ _ _ _ hr (@qd _ _ _ _ _ (@zd _ _ _ _ _ (@pw _ 1 _ _ rfl rfl) (@zd _ _ _ _ _ (@pw _ 2 _ _ rfl rfl) (@zg _) rfl) rfl)) (@qd _ _ _ _ _ (@zg _))) rfl (by walk_at "f")) (@zh _ _ _ _ _ (@zr _ _ 5 _ _ _ _ jA.nd rfl (Or.inl rfl) (@zN _ _ _ _ (@zd _ _ _ _ _ (@qd _ _ _ _ _ (@zd _ _ _ _ _ (@pw _ 1 _ _ rfl rfl) (@zd _ _ _ _ _ (@pw _ 2 _ _ rfl rfl) (@zg _) rfl) rfl)) (@zg _) rfl)) rfl (by walk_at "f")) (@zh _ _ _ _ _ (@Wa _ _ _ _ _ _ AU (@zF _ _ _ _ _ _ _ _ (@Xj _) (@zA _ _ _ _ _ _ _ _ _ (@zT _ K rfl) rfl gb.len qX (@zd _ _ _ _ _ (@pw _ 5 _ _ rfl rfl) (@zg _) rfl) (by decide) (by decide) rfl rfl) (@zi _ _ _ _) (@zW _ _ (by decide) (by decide))) (@zh _ _ _ _ _ (@j4 _ ["pair", "T"] [none,some 0] _ 6 _ _ _ _ _ _ _ _ _ _ _ _ (by exact (show zS ["T", "x", "y", "cells", "ways", "pairs", "parted"] (zo QF) ["pair", "T"] [none,some 0] _ from⟨rfl,by decide +kernel,by decide +kernel,by decide +kernel,by decide +kernel,rfl,by decide +kernel⟩)) rfl (@zE _ K _ _ _ (@pw _ 5 _ _ rfl rfl) rfl) (fun _ _ _ _=>(@pgl _ 0 _ _ nd0 rfl rfl)) (fun _ _ _ _=>(@Jn _ _ _ (@zF _ _ _ _ _ _ _ _ (@Xi _) (@jp _ _ _ _ _ _ _ _ (@qo _ K rfl) (@zv _ _ _ _ _ _ _ (@zn _ K rfl) (@pw _ 0 _ _ rfl rfl) (@zi _ _ _ _) (fun _ _=>rfl)) (@zv _ _ _ _ _ _ _ (@zn _ K rfl) (@pw _ 1 _ _ rfl rfl) (@zi _ _ _ _) (fun _ _=>rfl)) (by with_unfolding_all rfl)) (@jp _ _ _ _ _ _ _ _ (@qo _ K rfl) (@zv _ _ _ _ _ _ _ (@zn _ K rfl) (@pw _ 0 _ _ rfl rfl) (@zi _ _ _ _) (fun _ _=>rfl)) (@zv _ _ _ _ _ _ _ (@zn _ K rfl) (@pw _ 1 _ _ rfl rfl) (@zi _ _ _ _) (fun _ _=>rfl)) (by with_unfolding_all rfl)) (@zW _ _ (by decide) (by decide))))) (fun _ _ _ _=>(@pw _ 0 _ _ rfl rfl)) jA.nd rfl rfl rfl (by intro _;rfl)) (@zh _ _ _ _ _ (@qL _ _ _ _ _ _ _ _ (@zF _ _ _ _ _ _ _ _ (@Xj _) (@zA _ _ _ _ _ _ _ _ _ (@zT _ K rfl) rfl gb.len qX (@zd _ _ _ _ _ (@pw _ 6 _ _ rfl rfl) (@zg _) rfl) (by decide) (by decide) rfl rfl) (@zi _ _ _ _) (@zW _ _ (by decide) (by decide))) (@zk _ _ _ (@zB _ _ _ _ (@QL _ _ _ _ _ _ (@hu1 _ _ hr) (@pw _ 4 _ _ rfl rfl) (@zv _ _ _ _ _ _ _ (@zn _ K rfl) (@pw _ 6 _ _ rfl rfl) (@zi _ _ _ _) (fun _ _=>rfl)) (fun _ _=>rfl)))) (@zO _)) (@zk _ _ _ (@zr _ _ 5 _ _ _ _ jA.nd rfl (Or.inl rfl) (@zw _ _ _ _ _ _ _ _ _ _ _ d_next_pairs hr (by omega) rfl (@zd _ _ _ _ _ (@pw _ 0 _ _ rfl rfl) (@zd _ _ _ _ _ (@pw _ 3 _ _ rfl rfl) (@zd _ _ _ _ _ (@pw _ 4 _ _ rfl rfl) (@zd _ _ _ _ _ (@pw _ 5 _ _ rfl rfl) (@zg _) rfl) rfl) rfl) rfl) (by decide) rfl rfl) rfl (by walk_at "f")))))) (@zk _ _ _ (@zB _ _ _ _ (@wC _ _ _))))))),?_⟩
 obtain⟨a,w0,c,vs,rfl,h1,h2,h3,h4⟩:=id ia
 have m9:=gT.m9
 refine⟨_,rfl,_,T,rfl,ia,gT,nT,fun e H1 s1 hcd=>?_⟩
 refine fun wy hwy=>⟨_,rfl,_,rfl,zq (by show 2<=1000;decide),fun t1 ht1=>?_⟩
 have n2:=zf hwy (.dT [])
 have n3:=zf ht1 (.tup [nV x,nV y])
 refine⟨A9 _,fun t2 ht2=>?_⟩
 have n4:=zf ht2 (.tup [])
 have hw4:=n4 _ _ (n3 _ _ (ze (H:=H1) (a:=wy) (o:=.dT [])))
 refine⟨hw4,t1,pk (x,y),rfl,n4 _ _ ze,?_⟩
 have ew:e ≠ wy:=by
  obtain⟨kv0,he0,_⟩:=hcd
  exact zH he0 hwy
 have S5:zD H1 (upd (upd (upd (upd H1 wy (.dT [])) t1 (.tup [nV x,nV y])) t2 (.tup [])) wy (.dT [(pk (x,y),.ref t2)])):=(n2.trans (n3.trans n4)).put hwy
 have hw5:(upd (upd (upd (upd H1 wy (.dT [])) t1 (.tup [nV x,nV y])) t2 (.tup [])) wy (.dT [(pk (x,y),.ref t2)])) wy=some (.dT [(pk (x,y),.ref t2)]):=ze
 have ht5:(upd (upd (upd (upd H1 wy (.dT [])) t1 (.tup [nV x,nV y])) t2 (.tup [])) wy (.dT [(pk (x,y),.ref t2)])) t2=some (.tup []):=Tk.putD hw4 _ _ ze
 generalize upd (upd (upd (upd H1 wy (.dT [])) t1 (.tup [nV x,nV y])) t2 (.tup [])) wy (.dT [(pk (x,y),.ref t2)])=H5 at *
 have hW5:Wy H5 (T,(x,y)) [(pk (x,y),.ref t2)] [(x,y)]:=by
  refine⟨rfl,by simp,fun z hz=>?_,fun z hz=>?_⟩
  ·rw[AE.mp hz]
   exact⟨hx,hy⟩
  ·rw[AE.mp hz]
   exact⟨t2,[],[],qF rfl,ht5,by show 0 < 1;decide,.nil,(fun s h=>by cases h),rfl⟩
 refine⟨_,rfl,_,rfl,zq (by show 2<=1000;decide),fun t3 ht3=>?_⟩
 have n6:=zf ht3 (.tup [nV x,nV y])
 refine⟨zq (by show 1<=1000;decide),fun pl hpl=>?_⟩
 have n7:=zf hpl (.lst [.ref t3])
 have S7:=S5.trans (n6.trans n7)
 have hw7:=n7 _ _ (n6 _ _ hw5)
 have hW7:=hW5.tk (Tk.of (n6.trans n7))
 have hp7:(upd (upd H5 t3 (.tup [nV x,nV y])) pl (.lst [.ref t3])) pl=some (.lst [.ref t3]):=ze
 have hP7:Pr2 (upd (upd H5 t3 (.tup [nV x,nV y])) pl (.lst [.ref t3])) [(x,y)] [.ref t3]:=.cons ⟨t3,rfl,n7 _ _ ze⟩ .nil
 generalize upd (upd H5 t3 (.tup [nV x,nV y])) pl (.lst [.ref t3])=H7 at *
 refine⟨fun n σ H'=>∃ (pl:Addr) (x6:Option V) (kvs:List (List Key×V)) (us:List V) (Wl P:List Pr),n=2 * (82 - Wl.length)+(if P=[] then 0 else 1)/\σ=[some (.ref a),some (nV x),some (nV y),some (.ref e),some (.ref wy),some (.ref pl),x6]/\Off wy H1 H'/\xC H' e T/\H' wy=some (.dT kvs)/\Wy H' (T,(x,y)) kvs Wl/\H' pl=some (.lst us)/\Pr2 H' P us/\P.length<=81/\(∀ z ∈ P,z ∈ Wl)/\(x,y) ∈ Wl/\(Tn.at' (mkT T) x=Tn.at' (mkT T) y->∀ z ∈ Wl,Tn.at' (mkT T) z.1=Tn.at' (mkT T) z.2)/\(∀ z ∈ Wl,z ∉ P->(z.1 ∈ T.ws ↔ z.2 ∈ T.ws)/\∀ s ∈ ZO T,nxt T.m s z ∈ Wl),⟨_,pl,none,_,_,[(x,y)],[(x,y)],rfl,rfl,Off.of S7,hcd.same S7,hw7,hW7,hp7,hP7,by show 1<=81;decide,fun z h=>h,AE.mpr rfl,fun h z hz=>by rw[AE.mp hz];exact h,fun z hz hn=>absurd hz hn⟩,?_⟩
 rintro n σ H8 ⟨pl,x6,kvs,us,Wl,P,rfl,rfl,o8,cd8,hw8,hW8,hp8,hP8,p81,hPW,hxy,hE,hC⟩
 have k8:Tk H1 H8:=fun b xs hb=>o8 b _ (fun z=>by rw[z,hwy] at hb;cases hb) hb
 have S8:zD H H8:=fun b o hb=>o8 b o (fun z=>by
  have:=s1 _ _ hb
  rw[z,hwy] at this
  cases this) (s1 _ _ hb)
 have hul:=Al hP8
 have cnt:Wl.length<=T.m * T.m:=hW8.count
 have c81:=sq81 m9
 have pln:P.length<=us.length:=by omega
 refine⟨_,rfl,_,us.length,rfl,.inl ⟨_,SqL.of hp8,rfl⟩,_,_,rfl,rfl,_,rfl,?_⟩
 by_cases hP0:P=[]
 ·subst hP0
  have hu0:us.length=0:=hul.symm
  refine jZ (fun z=>absurd (Ak z) (by rw[hu0];decide)) (fun _=>?_)
  refine q0 (JW (T:=T) (fun a b=>(a,b) ∈ Wl) (fun a b h=>hW8.lt _ h) (fun a b h=>(hC _ h (by intro z;cases z)).1) (fun a b h s hs=>(hC _ h (by intro z;cases z)).2 s hs) hxy) H8 S8
 have hu0:0 < us.length:=by
  cases P with
  | nil=>exact absurd rfl hP0
  | cons z r=>rw[<- hul];exact Nat.succ_pos _
 refine jZ (fun _=>?_) (fun z=>absurd (Ai (by show (0:Int) < (us.length:Int);omega)) z)
 refine⟨fun σ' H'=>∃ m',m' < 2 * (82 - Wl.length)+(if P=[] then 0 else 1)/\(∃ (pl:Addr) (x6:Option V) (kvs:List (List Key×V)) (us:List V) (Wl P:List Pr),m'=2 * (82 - Wl.length)+(if P=[] then 0 else 1)/\σ'=[some (.ref a),some (nV x),some (nV y),some (.ref e),some (.ref wy),some (.ref pl),x6]/\Off wy H1 H'/\xC H' e T/\H' wy=some (.dT kvs)/\Wy H' (T,(x,y)) kvs Wl/\H' pl=some (.lst us)/\Pr2 H' P us/\P.length<=81/\(∀ z ∈ P,z ∈ Wl)/\(x,y) ∈ Wl/\(Tn.at' (mkT T) x=Tn.at' (mkT T) y->∀ z ∈ Wl,Tn.at' (mkT T) z.1=Tn.at' (mkT T) z.2)/\(∀ z ∈ Wl,z ∉ P->(z.1 ∈ T.ws ↔ z.2 ∈ T.ws)/\∀ s ∈ ZO T,nxt T.m s z ∈ Wl)),fun _ _ h=>h,?_⟩
 refine⟨_,rfl,pl,rfl,⟨_,SqL.of hp8⟩,fun D hD=>?_⟩
 refine jD (xs:=us) (fun i ys H'=>zD H8 H'/\ys.length<=i/\(ys=[]->∀ p ∈ P.take i,(p.1 ∈ T.ws ↔ p.2 ∈ T.ws))/\∀ v ∈ ys,∃ p ∈ P,¬ (p.1 ∈ T.ws ↔ p.2 ∈ T.ws)/\∃ t,v=.ref t/\H8 t=some (.tup [nV p.1,nV p.2])) ⟨zf hD _,AK _,fun _ p hp=>(by cases hp),fun v hv=>(by cases hv)⟩ (fun i ys H' h _=>SqL.of (h.1 _ _ hp8)) ?_ ?_
 ·rintro i ys H9 v hv ⟨s9,yl,hn,hq⟩ hD9
  have hi:i < us.length:=(AC.mp hv).1
  have hpi:P[i]? = some P[i]:=AG (by omega)
  generalize P[i]=p at hpi
  obtain⟨v',e1,t,rfl,ht⟩:=qJ hP8 hpi
  rw[hv] at e1
  cases e1
  have hpm:=AI hpi
  have h19:=s9 _ _ (k8 _ _ (s1 _ _ h1))
  have h29:=s9 _ _ (k8 _ _ (s1 _ _ h2))
  refine⟨_,rfl,.inr (.inl ⟨t,_,0,_,rfl,rfl,SqT.of (s9 _ _ ht),rfl,_,rfl,.inr (.inl ⟨a,_,1,_,rfl,rfl,SqT.of h19,rfl,w0,_,rfl,.inr (SqT.of h29),rfl,qk _,?_⟩)⟩)⟩
  try dsimp only
  rw[if_neg AS,jq]
  refine⟨_,rfl,.inr (.inl ⟨t,_,1,_,rfl,rfl,SqT.of (s9 _ _ ht),rfl,_,rfl,.inr (.inl ⟨a,_,1,_,rfl,rfl,SqT.of h19,rfl,w0,_,rfl,.inr (SqT.of h29),rfl,qk _,?_⟩)⟩)⟩
  try dsimp only
  rw[if_neg AS,jq]
  refine⟨rfl,_,rfl,?_⟩
  rw[wish_dec]
  by_cases hw':(p.1 ∈ T.ws ↔ p.2 ∈ T.ws)
  ·rw[Ai hw']
   refine WP ?_
   refine cno hi jM hD9 ⟨s9,B7 yl,fun h0 p' hp'=>?_,hq⟩
   rw[take_snoc hpi] at hp'
   rcases AQ.mp hp' with h | h
   ·exact hn h0 p' h
   ·rw[AE.mp h]
    exact hw'
  ·rw[Aw hw']
   refine W5 ?_
   refine⟨_,rfl,WQ hi jM hD9 (zu (by omega)) ⟨s9.put hD,by rw[AH];exact DC yl,fun h0=>by simp at h0,fun v hv'=>?_⟩⟩
   rcases AQ.mp hv' with h | h
   ·exact hq v h
   ·exact⟨p,hpm,hw',t,AE.mp h,ht⟩
 rintro ys H9 ⟨s9,yl,hn,hq⟩ hD9
 rw[<- hul,Ae] at hn
 have hw9:=s9 _ _ hw8
 refine⟨_,rfl,_,ys.length,rfl,.inl ⟨_,SqL.of hD9,rfl⟩,_,_,rfl,rfl,_,rfl,?_⟩
 cases ys with
 | cons v0 yr=>
  refine jZ (fun _=>?_) (fun z=>absurd (Ai (by show (0:Int) < (((v0 :: yr).length:Nat):Int);rw[Aq];omega)) z)
  obtain⟨p,hpm,hnw,t,rfl,ht⟩:=hq v0 (AW ..)
  obtain⟨tw,xs',ss',hval,htw,hxl',hss',hsm',hwk'⟩:=hW8.val p (hPW p hpm)
  have hg:Js H9 wy (.ref t) (jo kvs (pk p)):=Js.t hw9 (s9 _ _ ht)
  rw[hval] at hg
  refine⟨_,rfl,_,rfl,.inl ⟨D,_,0,_,rfl,rfl,SqL.of hD9,qw (j:=0) rfl,wy,_,rfl,hg,?_⟩⟩
  refine q1 (fun h=>hnw ?_) tw xs' ss' H9 (S8.trans s9) (s9 _ _ htw) (Sts.tk (Tk.of s9) hss') hsm' (by have:=Al hss';omega) (by rw[show wlk T.m ss' (x,y)=p from hwk'];exact hnw)
  obtain⟨l1,l2⟩:=hW8.lt p (hPW p hpm)
  exact wX gT l1 l2 (hE h p (hPW p hpm))
 | nil=>
  refine jZ (fun z=>absurd (Ak z) (by show ¬ (0:Int) < ((0:Nat):Int);decide)) (fun _=>?_)
  refine⟨_,rfl,_,rfl,_,rfl,_,rfl,.ref a,e,wy,pl,T,kvs,us,Wl,P,(x,y),rfl,ia.tk ((Tk.of s1).trans (k8.trans (Tk.of s9))),gT,cd8.same s9,ew,hw9,hW8.tk (Tk.of s9),s9 _ _ hp8,hP8.tk (Tk.of s9),hPW,fun l us' R kvs' H10 o10 hw10 hW10 hl10 hR10 hF hN=>?_⟩
  have cnt2:(Wl++R).length<=T.m * T.m:=hW10.count
  rw[AH] at cnt2
  have k10:Tk H9 H10:=fun b xs hb=>o10 b _ (Y5 hb hw9 (by intro z;cases z)) hb
  refine⟨_,?_,l,_,kvs',us',Wl++R,R,rfl,rfl,fun b o nb hb=>o10 b o nb (s9 _ _ (o8 b o nb hb)),?_,hw10,hW10,hl10,hR10,by omega,fun z h=>Aa _ h,Ah _ hxy,fun h z hz=>?_,fun z hz hn'=>?_⟩
  ·rw[if_neg hP0,AH]
   by_cases hR:R=[]
   ·rw[if_pos hR,hR]
    show 2 * (82 - (Wl.length+0))+0 < _
    omega
   ·rw[if_neg hR]
    have:0 < R.length:=List.length_pos_iff.mpr hR
    omega
  ·obtain⟨kv0,he0,hc0⟩:=cd8
   refine⟨kv0,o10 _ _ ew (s9 _ _ he0),fun c hc=>?_⟩
   obtain⟨u,u1,u2⟩:=hc0 c hc
   exact⟨u,u1,k10 _ _ (s9 _ _ u2)⟩
  ·rcases AQ.mp hz with hz | hz
   ·exact hE h z hz
   ·obtain⟨p,hp,s,hs,rfl⟩:=hF z hz
    obtain⟨l1,l2⟩:=hW8.lt p (hPW p hp)
    exact wW gT hs l1 l2 (hE h p (hPW p hp))
  ·rcases AQ.mp hz with hz | hz
   ·by_cases hp:z ∈ P
    ·exact⟨hn rfl z hp,fun s hs=>hN z hp s hs⟩
    ·obtain⟨c1,c2⟩:=hC z hz hp
     exact⟨c1,fun s hs=>Ah _ (c2 s hs)⟩
   ·exact absurd hz hn'
abbrev Zl:Stmt:=top 35
theorem zQ:zC ["_law_script", "_law_k", "_law_many", "_law_cell", "_law_rest", "_law_seed", "_law_found", "_law_j"] ["_law_script", "_law_k", "_law_many"] (zo Zl):=⟨rfl,rfl,rfl,by decide +kernel,rfl,by decide +kernel,by decide +kernel⟩
theorem wx {P:Program} {w:World} {K:PySem.W.Frag} {mg:Str->Option Value} {base:Heap} {f:Addr} {fd:FuncData} (F:Fun K "_law_numbers" "_law_numbers" Zl f fd) (gb:Gb mg):jt P w K mg base CX0 1 f fd ["_law_script", "_law_k", "_law_many"] (YW K):=by
 refine F.ok zQ (fun vs H Q E h=>?_) (fun cdv A outer s H vs Q E hr h=>?_)
 ·obtain⟨a,k,n,ns,rfl,_⟩:=h
  rfl
 obtain⟨a,k,n,ns,rfl,hS,h63,k0,n0,n60,q⟩:=h
 refine⟨_,(@zh _ _ _ _ _ (@zr _ _ 3 _ _ _ _ zQ.nd rfl (Or.inl rfl) (@zi _ _ _ _) rfl (by walk_at "f")) (@zh _ _ _ _ _ (@qL _ _ _ _ _ _ _ _ (@zF _ _ _ _ _ _ _ _ (@op_lt _) (@pw _ 1 _ _ rfl rfl) (@zA _ _ _ _ _ _ _ _ _ (@zT _ K rfl) rfl gb.len qX (@zd _ _ _ _ _ (@pw _ 0 _ _ rfl rfl) (@zg _) rfl) (by decide) (by decide) rfl rfl) (@zW _ _ (by decide) (by decide))) (@zk _ _ _ (@zr _ _ 3 _ _ _ _ zQ.nd rfl (Or.inl rfl) (@zv _ _ _ _ _ _ _ (@zn _ K rfl) (@pw _ 0 _ _ rfl rfl) (@pw _ 1 _ _ rfl rfl) (fun _ _=>rfl)) rfl (by walk_at "f"))) (@zO _)) (@zh _ _ _ _ _ (@zr _ _ 4 _ _ _ _ zQ.nd rfl (Or.inl rfl) (@zi _ _ _ _) rfl (by walk_at "f")) (@zh _ _ _ _ _ (@qL _ _ _ _ _ _ _ _ (@PW.pt _ _ _ (@pw_or _ _ _ _ _ _ _ (@zF _ _ _ _ _ _ _ _ (@op_lt _) (@pw _ 3 _ _ rfl rfl) (@zi _ _ _ _) (@zW _ _ (by decide) (by decide))) (@Xa _ _ _ _ (@zF _ _ _ _ _ _ _ _ (@op_ge _) (@pw _ 3 _ _ rfl rfl) (@zy _ _ _ _ _ _ _ _ (@Yv _) (@zi _ _ _ _) (@zi _ _ _ _)) (@zW _ _ (by decide) (by decide)))))) (@zk _ _ _ (@zr _ _ 4 _ _ _ _ zQ.nd rfl (Or.inl rfl) (@zA _ _ _ _ _ _ _ _ _ (@call_abs _) rfl gb.abs bt_abs (@zd _ _ _ _ _ (@pw _ 3 _ _ rfl rfl) (@zg _) rfl) (by decide) (by decide) rfl rfl) rfl (by walk_at "f"))) (@zO _)) (@zh _ _ _ _ _ (@zr _ _ 5 _ _ _ _ zQ.nd rfl (Or.inl rfl) (@zy _ _ _ _ _ _ _ _ (@qV _) (@pw _ 3 _ _ rfl rfl) (@zi _ _ _ _)) rfl (by walk_at "f")) (@zh _ _ _ _ _ (@zr _ _ 6 _ _ _ _ zQ.nd rfl (Or.inl rfl) (@zN _ _ _ _ (@zg _)) rfl (by walk_at "f")) (@zh _ _ _ _ _ (@zP _ _ _ _ _ _ _ _ AU rfl (@qj _ _ _ _ _ _ rfl gb.range (@zd _ _ _ _ _ (@pw _ 2 _ _ rfl rfl) (@zg _) rfl) rfl) (@pgl _ 7 _ _ zQ.nd rfl rfl) (@zh _ _ _ _ _ (@zr _ _ 5 _ _ _ _ zQ.nd rfl (Or.inl rfl) (@zy _ _ _ _ _ _ _ _ (@qV _) (@zy _ _ _ _ _ _ _ _ (@qq _) (@zy _ _ _ _ _ _ _ _ (@qq _) (@zy _ _ _ _ _ _ _ _ (@js _) (@pw _ 5 _ _ rfl rfl) (@zi _ _ _ _)) (@zy _ _ _ _ _ _ _ _ (@js _) (@zi _ _ _ _) (@zy _ _ _ _ _ _ _ _ (@qq _) (@pw _ 7 _ _ rfl rfl) (@zi _ _ _ _)))) (@zi _ _ _ _)) (@zi _ _ _ _)) rfl (by walk_at "f")) (@zk _ _ _ (@qL _ _ _ _ _ _ _ _ (@zF _ _ _ _ _ _ _ _ (@Xj _) (@pw _ 4 _ _ rfl rfl) (@zi _ _ _ _) (@zW _ _ (by decide) (by decide))) (@zh _ _ _ _ _ (@qi _ _ _ _ (@qE _ K _ _ _ _ _ _ _ _ _ _ _ Ac As Ar (@zX _) (@pw _ 6 _ _ rfl rfl) (@zd _ _ _ _ _ (@zy _ _ _ _ _ _ _ _ (@qV _) (@pw _ 4 _ _ rfl rfl) (@zy _ _ _ _ _ _ _ _ (@Yv _) (@zi _ _ _ _) (@zi _ _ _ _))) (@zg _) rfl) rfl rfl rfl rfl rfl rfl) rfl) (@zk _ _ _ (@zr _ _ 4 _ _ _ _ zQ.nd rfl (Or.inl rfl) (@zy _ _ _ _ _ _ _ _ (@Ji _) (@pw _ 4 _ _ rfl rfl) (@zy _ _ _ _ _ _ _ _ (@Yv _) (@zi _ _ _ _) (@zi _ _ _ _))) rfl (by walk_at "f")))) (@zk _ _ _ (@qi _ _ _ _ (@qE _ K _ _ _ _ _ _ _ _ _ _ _ Ac As Ar (@zX _) (@pw _ 6 _ _ rfl rfl) (@zd _ _ _ _ _ (@zy _ _ _ _ _ _ _ _ (@qV _) (@zy _ _ _ _ _ _ _ _ (@qV _) (@zy _ _ _ _ _ _ _ _ (@qq _) (@zy _ _ _ _ _ _ _ _ (@js _) (@pw _ 5 _ _ rfl rfl) (@zi _ _ _ _)) (@zy _ _ _ _ _ _ _ _ (@Ji _) (@pw _ 5 _ _ rfl rfl) (@zi _ _ _ _))) (@zi _ _ _ _)) (@zy _ _ _ _ _ _ _ _ (@Yv _) (@zi _ _ _ _) (@zi _ _ _ _))) (@zg _) rfl) rfl rfl rfl rfl rfl rfl) rfl))))) (by intro _;rfl)) (@zk _ _ _ (@zB _ _ _ _ (@pw _ 6 _ _ rfl rfl)))))))))),?_⟩
 have p6:((10:Int) ^ (6:Int).toNat)=1000000:=by decide
 obtain⟨k,rfl⟩:=Int.eq_ofNat_of_zero_le k0
 refine hide (R:=?R1) (D:=?D1) (P:=fun R D=>∀ c:Int,R D [some (.ref a),some (.int k),some (.int n),some (.int c),none,none,none,none] H) (fun rest1=>?main) ?r1
 case main=>
  refine⟨_,rfl,_,rfl,_,_,rfl,.inl ⟨_,hS,rfl⟩,_,_,rfl,rfl,_,rfl,?_⟩
  refine jZ (fun z=>?_) (fun _=>?f1)
  case f1=>exact rest1 0
  have hk:k < ns.length:=by
   have:=Ak z
   rw[AB] at this
   omega
  exact⟨_,rfl,_,rfl,.inl ⟨a,_,_,_,rfl,rfl,hS,qw (by rw[AJ,AG hk];rfl),rest1 _⟩⟩
 case r1=>
  intro c
  refine hide (R:=?R2) (D:=?D2) (P:=fun R D=>∀ r:Int,0<=r->R D [some (.ref a),some (.int k),some (.int n),some (.int c),some (.int r),none,none,none] H) (fun rest2=>?m2) ?r2
  case m2=>
   have absn:∀ c:Int,0<=(if c < 0 then -c else c):=fun c=>by split <;> omega
   refine⟨_,rfl,_,_,rfl,rfl,_,rfl,jZ (fun _=>?t2) (fun _=>⟨_,rfl,_,_,rfl,rfl,⟨by decide,by decide,by decide⟩,_,_,rfl,rfl,_,rfl,jZ (fun _=>?t3) (fun _=>?f2)⟩)⟩
   case f2=>exact rest2 0 (by decide)
   case t2=>exact⟨_,rfl,_,rfl,rest2 _ (absn c)⟩
   case t3=>exact⟨_,rfl,_,rfl,rest2 _ (absn c)⟩
  case r2=>
   intro r r0
   refine⟨_,rfl,_,_,rfl,rfl,(show (0:Int) < 2147483629 by decide),zq (by show 0<=1000;decide),fun fd hfd=>?_⟩
   refine⟨_,rfl,n,rfl,by omega,by omega,?_⟩
   refine qM (fun i σ H'=>∃ (sd r:Int) (xs:List Nat) (x7:Option V),σ=[some (.ref a),some (.int k),some (.int n),some (.int c),some (.int r),some (.int sd),some (.ref fd),x7]/\0<=r/\0<=sd/\sd < 2147483629/\zD H H'/\H' fd=some (.lst (xs.map nV))/\xs.length=i/\∀ x ∈ xs,x < 1000000) ⟨_,_,[],_,rfl,r0,EY _ (by decide),Dz _ (by decide),zf hfd _,ze,rfl,fun x hx=>by cases hx⟩ ?_ ?_
   ·rintro i σ H1 hi ⟨sd,r,xs,x7,rfl,r0,s0,s1,ss,hf,xl,hx⟩
    have st:∀ (x:Nat),x < 1000000->∀ y ∈ xs++[x],y < 1000000:=fun x h y hy=>by
     rcases AQ.mp hy with hy | hy
     ·exact hx y hy
     ·rw[AE.mp hy];exact h
    refine⟨_,rfl,_,_,rfl,rfl,.inr ⟨by decide,by decide⟩,_,rfl,_,_,rfl,rfl,_,_,rfl,rfl,.inl ⟨by decide,by decide⟩,_,_,rfl,rfl,_,_,rfl,rfl,_,_,rfl,rfl,(show (0:Int) < 2147483629 by decide),?_⟩
    dsimp only
    generalize hsd:(sd * 43391+15485863 * (0+(i:Int)+1)+7) % 2147483629=sd2
    have t0:0<=sd2:=by rw[<- hsd];exact EY _ (by decide)
    have t1:sd2 < 2147483629:=by rw[<- hsd];exact Dz _ (by decide)
    refine⟨_,rfl,_,_,rfl,rfl,_,rfl,jZ (fun _=>?_) (fun _=>?_)⟩
    ·refine⟨_,rfl,.inl ⟨rfl,_,SqL.of hf⟩,_,rfl,_,_,rfl,rfl,⟨by decide,by decide,by decide⟩,_,_,rfl,rfl,(show (0:Int) < 10 ^ (6:Int).toNat by decide),fd,_,_,rfl,rfl,hf,zu (by rw[AB];omega),?_⟩
     refine⟨_,rfl,_,_,rfl,rfl,⟨by decide,by decide,by decide⟩,_,_,rfl,rfl,⟨by rw[p6];decide,by rw[p6];decide⟩,?_⟩
     dsimp only
     rw[p6]
     refine⟨_,_,xs++[(r % 1000000).toNat],_,rfl,Int.ediv_nonneg r0 (by decide),t0,t1,ss.put hfd,?_,by rw[AH,xl];rfl,st _ (by omega)⟩
     rw[ze,AL]
     show some (HO.lst (_++[_]))=some (HO.lst (_++[V.int _]))
     rw[show (((r % 1000000).toNat:Nat):Int)=r % 1000000 by omega]
    ·refine⟨_,rfl,.inl ⟨rfl,_,SqL.of hf⟩,_,rfl,_,_,rfl,rfl,.inr ⟨by decide,by decide⟩,_,rfl,_,_,rfl,rfl,⟨by decide,by decide⟩,_,_,rfl,rfl,_,_,rfl,rfl,(show (0:Int) < 998244353 by decide),_,_,rfl,rfl,⟨by decide,by decide,by decide⟩,_,_,rfl,rfl,(show (0:Int) < 10 ^ (6:Int).toNat by decide),fd,_,_,rfl,rfl,hf,zu (by rw[AB];omega),?_⟩
     dsimp only
     rw[p6]
     refine⟨_,_,xs++[((sd2 * 52361+sd2 / 65536) % 998244353 % 1000000).toNat],_,rfl,r0,t0,t1,ss.put hfd,?_,by rw[AH,xl];rfl,st _ (by omega)⟩
     rw[ze,AL]
     show some (HO.lst (_++[_]))=some (HO.lst (_++[V.int _]))
     rw[show ((((sd2 * 52361+sd2 / 65536) % 998244353 % 1000000).toNat:Nat):Int)=(sd2 * 52361+sd2 / 65536) % 998244353 % 1000000 by omega]
   ·rintro σ H1 ⟨sd,r,xs,x7,rfl,r0,s0,s1,ss,hf,xl,hx⟩
    exact⟨_,rfl,q fd xs H1 ss hf xl hx⟩
abbrev Qf:Stmt:=top 36
theorem zZ:zC ["_law_numbers_here", "_law_signs", "_law_found", "_law_number", "_law_word", "_law_step", "_law_k"] ["_law_numbers_here"] (zo Qf):=⟨rfl,rfl,rfl,by decide +kernel,rfl,by decide +kernel,by decide +kernel⟩
theorem yH {P:Program} {w:World} {K:PySem.W.Frag} {mg:Str->Option Value} {base:Heap} {f:Addr} {fd:FuncData} (F:Fun K "_law_names" "_law_names" Qf f fd) (gb:Gb mg):jt P w K mg base CX0 1 f fd ["_law_numbers_here"] Yl:=by
 refine F.ok zZ (fun vs H Q E h=>?_) (fun cdv A outer s H vs Q E hr h=>?_)
 ·obtain⟨l,xs,rfl,_⟩:=h
  rfl
 obtain⟨l,xs,rfl,hl,h3,q⟩:=h
 refine⟨_,(@zh _ _ _ _ _ (@zr _ _ 1 _ _ _ _ zZ.nd rfl (Or.inl rfl) (@jP _ _ _ _) rfl (by walk_at "f")) (@zh _ _ _ _ _ (@zr _ _ 2 _ _ _ _ zZ.nd rfl (Or.inl rfl) (@zN _ _ _ _ (@zg _)) rfl (by walk_at "f")) (@zh _ _ _ _ _ (@zP _ _ _ _ _ _ _ _ AU rfl (@zE _ K _ _ _ (@pw _ 0 _ _ rfl rfl) rfl) (@pgl _ 3 _ _ zZ.nd rfl rfl) (@zh _ _ _ _ _ (@zr _ _ 4 _ _ _ _ zZ.nd rfl (Or.inl rfl) (@jP _ _ _ _) rfl (by walk_at "f")) (@zh _ _ _ _ _ (@zP _ _ _ _ _ _ _ _ AU rfl (@zE _ K _ _ _ (@zN _ _ _ _ (@zd _ _ _ _ _ (@zi _ _ _ _) (@zd _ _ _ _ _ (@zi _ _ _ _) (@zd _ _ _ _ _ (@zi _ _ _ _) (@zg _) rfl) rfl) rfl)) rfl) (@pgl _ 5 _ _ zZ.nd rfl rfl) (@zk _ _ _ (@zr _ _ 4 _ _ _ _ zZ.nd rfl (Or.inl rfl) (@zy _ _ _ _ _ _ _ _ (@wE _) (@pw _ 4 _ _ rfl rfl) (@zv _ _ _ _ _ _ _ (@zn _ K rfl) (@pw _ 1 _ _ rfl rfl) (@zy _ _ _ _ _ _ _ _ (@qV _) (@zy _ _ _ _ _ _ _ _ (@Ji _) (@pw _ 3 _ _ rfl rfl) (@pw _ 5 _ _ rfl rfl)) (@zi _ _ _ _)) (fun _ _=>rfl))) rfl (by walk_at "f"))) (by intro _;rfl)) (@zh _ _ _ _ _ (@zr _ _ 4 _ _ _ _ zZ.nd rfl (Or.inl rfl) (@qN _ _ _ _ _ _ _ _ _ _ (@Z8 _ K rfl) (@zy _ _ _ _ _ _ _ _ (@op_mulS _) (@pw _ 4 _ _ rfl rfl) (@zi _ _ _ _)) (@j9 _) (@qS _ _ _ (@zy _ _ _ _ _ _ _ _ (@qq _) (@zi _ _ _ _) (@zy _ _ _ _ _ _ _ _ (@qV _) (@pw _ 3 _ _ rfl rfl) (@zi _ _ _ _))))) rfl (by walk_at "f")) (@zh _ _ _ _ _ (@zr _ _ 6 _ _ _ _ zZ.nd rfl (Or.inl rfl) (@zi _ _ _ _) rfl (by walk_at "f")) (@zh _ _ _ _ _ (@Wa _ _ _ _ _ _ AU (@zF _ _ _ _ _ _ _ _ (@qo _ K rfl) (@pw _ 4 _ _ rfl rfl) (@pw _ 2 _ _ rfl rfl) (by with_unfolding_all rfl)) (@zh _ _ _ _ _ (@zr _ _ 4 _ _ _ _ zZ.nd rfl (Or.inl rfl) (@zy _ _ _ _ _ _ _ _ (@wE _) (@jP _ _ _ _) (@zv _ _ _ _ _ _ _ (@zn _ K rfl) (@pw _ 1 _ _ rfl rfl) (@pw _ 6 _ _ rfl rfl) (fun _ _=>rfl))) rfl (by walk_at "f")) (@zk _ _ _ (@zr _ _ 6 _ _ _ _ zZ.nd rfl (Or.inl rfl) (@zy _ _ _ _ _ _ _ _ (@qq _) (@pw _ 6 _ _ rfl rfl) (@zi _ _ _ _)) rfl (by walk_at "f"))))) (@zk _ _ _ (@qi _ _ _ _ (@qE _ K _ _ _ _ _ _ _ _ _ _ _ Ac As Ar (@zX _) (@pw _ 2 _ _ rfl rfl) (@zd _ _ _ _ _ (@pw _ 4 _ _ rfl rfl) (@zg _) rfl) rfl rfl rfl rfl rfl rfl) rfl))))))) (by intro _;rfl)) (@zk _ _ _ (@zB _ _ _ _ (@pw _ 2 _ _ rfl rfl)))))),?_⟩
 refine⟨zq (by show 0<=1000;decide),fun fd hfd=>?_⟩
 have n0:=zf hfd (.lst [])
 refine⟨_,rfl,l,rfl,⟨_,SqL.of (n0 _ _ hl)⟩,?_⟩
 refine qf (xs:=xs.map nV) (fun i σ H'=>∃ (x3 x4 x5 x6:Option V) (ws:List Str),σ=[some (.ref l),some (.str yy),some (.ref fd),x3,x4,x5,x6]/\zD H H'/\H' fd=some (.lst (ws.map V.str))/\ws.Nodup/\ws.length=i/\∀ w ∈ ws,w.length<=9) ⟨none,none,none,none,[],rfl,n0,ze,List.nodup_nil,rfl,fun w h=>by cases h⟩ (fun i σ H' _ h=>by obtain⟨_,_,_,_,_,_,s,_⟩:=h;exact SqL.of (s _ _ hl)) ?_ ?_
 ·rintro i x σ H1 hx ⟨x3,x4,x5,x6,ws,rfl,s1,hf,nd,wl,w9⟩
  rw[AJ] at hx
  obtain⟨y,hy,rfl⟩:=AX.mp hx
  have hi:i < xs.length:=(AC.mp hy).1
  refine⟨zq (by show 3<=1000;decide),fun l3 hl3=>?_⟩
  have n1:=zf hl3 (.lst [.int 7,.int 182,.int 4732])
  have h3':(upd H1 l3 (.lst [.int 7,.int 182,.int 4732])) l3=some (.lst [.int 7,.int 182,.int 4732]):=ze
  have hf1:=n1 _ _ hf
  generalize upd H1 l3 (.lst [.int 7,.int 182,.int 4732])=H2 at *
  refine⟨l3,rfl,⟨_,SqL.of h3'⟩,?_⟩
  refine qf (xs:=[.int 7,.int 182,.int 4732]) (fun j σ H'=>∃ (w:Str) (x5:Option V),σ=[some (.ref l),some (.str yy),some (.ref fd),some (nV y),some (.str w),x5,x6]/\H'=H2/\w.length=j) ⟨_,_,rfl,rfl,rfl⟩ (fun j σ H' _ h=>by obtain⟨_,_,_,rfl,_⟩:=h;exact SqL.of h3') ?_ ?_
  ·rintro j z σ H3 hz ⟨w,x5,rfl,rfl,wl'⟩
   have hj:j < 3:=(AC.mp hz).1
   obtain⟨st,rfl,t0,t1⟩:∃ st:Nat,z=nV st/\1<=st/\st<=5000:=by
    match j,hj,hz with
    | 0,_,hz=>cases hz;exact⟨7,rfl,by decide,by decide⟩
    | 1,_,hz=>cases hz;exact⟨182,rfl,by decide,by decide⟩
    | 2,_,hz=>cases hz;exact⟨4732,rfl,by decide,by decide⟩
   refine⟨_,rfl,_,rfl,_,rfl,_,rfl,_,_,rfl,rfl,⟨by omega,by omega⟩,_,_,rfl,rfl,(show (0:Int) < 26 by decide),?_⟩
   dsimp only
   rw[show ((y:Int) / (st:Int) % 26)=((y / st % 26:Nat):Int) by rw[EK,EL];rfl]
   refine .inr (.inr ⟨yy,_,_,rfl,rfl,zq (by decide +kernel),yz (Cc _ (by decide)),_,_,rfl,rfl,zq (by show w.length+1<=1000;omega),_,_,rfl,rfl,?_⟩)
   rw[Str.length_append,wl']
   rfl
  ·rintro σ H3 ⟨w,x5,rfl,rfl,wl'⟩
   have ml:=mul_len w 3
   have wl3:w.length=3:=wl'
   refine⟨_,rfl,w,3,rfl,rfl,by decide,by decide,by omega,_,rfl,_,_,rfl,rfl,(show (0:Int) < 7 by decide),_,_,rfl,rfl,_,rfl,.inr (.inr ⟨_,rfl,zq (by rw[wl3] at ml;exact Ab ml (by decide)),?_⟩)⟩
   dsimp only
   have w2l:(Txt.slice (Txt.mul w 3) none (some (2+(y:Int) % 7))).length<=9:=Ab (Txt.slice_le _ _ _) (by rw[wl3] at ml;exact ml)
   generalize Txt.slice (Txt.mul w 3) none (some (2+(y:Int) % 7))=w2 at w2l
   refine⟨fun m σ H'=>H'=H3/\∃ (w:Str) (kk:Nat),σ=[some (.ref l),some (.str yy),some (.ref fd),some (nV y),some (.str w),x5,some (nV kk)]/\m+kk=4/\(∀ j,j+1 < kk->zs j ∈ ws)/\(∀ j,j+1=kk->w=zs j)/\w.length<=9,⟨4,rfl,w2,0,rfl,rfl,(fun j h=>absurd h (by omega)),(fun j h=>absurd h (by omega)),w2l⟩,?_⟩
   rintro m σ H4 ⟨rfl,w,kk,rfl,mk4,hz1,hz2,wn⟩
   refine⟨_,rfl,_,rfl,fd,_,rfl,.inl (SqL.of hf1),rfl,zax ws,_,rfl,?_⟩
   rw[if_neg AS,in_strs]
   by_cases hw:w ∈ ws
   ·rw[Ai hw]
    refine W5 ?_
    have all:∀ j,j < kk->zs j ∈ ws:=fun j hj=>by
     by_cases e:j+1=kk
     ·rw[<- hz2 j e];exact hw
     ·exact hz1 j (by omega)
    have kk2:kk<=2:=by
     refine DR fun hn=>?_
     have h:=jE ((List.range 3).map zs) ws (zs_nd 3 (by omega)) (fun x hx=>by
      obtain⟨j,hj,rfl⟩:=AM.mp hx
      exact all j (by have:=Af.mp hj;omega))
     rw[AB,AZ] at h
     omega
    refine⟨fun σ' H'=>H'=H4/\∃ (w:Str) (kk:Nat),σ'=[some (.ref l),some (.str yy),some (.ref fd),some (nV y),some (.str w),x5,some (nV kk)]/\m - 1+kk=4/\(∀ j,j+1 < kk->zs j ∈ ws)/\(∀ j,j+1=kk->w=zs j)/\w.length<=9,fun σ' H' h=>⟨m - 1,by omega,h⟩,?_⟩
    refine⟨_,rfl,_,rfl,.inr (.inr ⟨yy,_,_,rfl,rfl,zq (by decide +kernel),yz (by omega),_,_,rfl,rfl,zq (by show 1+1<=1000;decide),_,rfl,_,_,rfl,rfl,?_⟩)⟩
    exact⟨rfl,zs kk,kk+1,rfl,by omega,fun j h=>all j (by omega),(fun j h=>by rw[show j=kk by omega]),(show 2<=9 by decide)⟩
   ·rw[Aw hw]
    refine WP ?_
    refine⟨_,rfl,.inl ⟨rfl,_,SqL.of hf1⟩,_,rfl,fd,_,_,rfl,rfl,hf1,by rw[AB];exact zu (by omega),?_⟩
    refine⟨_,_,_,_,ws++[w],rfl,(s1.trans n1).put hfd,by rw[ze,AL];rfl,?_,by rw[AH,wl];rfl,fun v hv=>?_⟩
    rotate_left
    ·rcases AQ.mp hv with hv | hv
     ·exact w9 v hv
     ·rw[AE.mp hv];exact wn
    exact B9.mpr ⟨nd,C0 _ _,fun a ha b hb e=>hw (by rw[AE.mp hb] at e;rw[<- e];exact ha)⟩
 ·rintro σ H1 ⟨x3,x4,x5,x6,ws,rfl,s1,hf,nd,wl,w9⟩
  rw[AB] at wl
  exact⟨_,rfl,q fd ws H1 s1 hfd hf nd wl w9⟩
abbrev jK:Stmt:=top 37
theorem qh:zC ["_law_script", "_law_k", "_law_sizes", "_law_numbers_here", "_law_many", "_law_wished", "_law_connectives", "_law_at", "_law_name", "_law_places", "_law_cells_here"] ["_law_script", "_law_k", "_law_sizes"] (zo jK):=⟨rfl,rfl,rfl,by decide +kernel,rfl,by decide +kernel,by decide +kernel⟩
theorem yI {P:Program} {w:World} {K:PySem.W.Frag} {mg:Str->Option Value} {base:Heap} {f:Addr} {fd:FuncData} (F:Fun K "_law_table" "_law_table" jK f fd) (gb:Gb mg) (d_law_numbers:Def P w K mg base 1 "_law_numbers" ["_law_script", "_law_k", "_law_many"] (YW K)) (d_law_names:Def P w K mg base 1 "_law_names" ["_law_numbers_here"] Yl):jt P w K mg base CX0 2 f fd ["_law_script", "_law_k", "_law_sizes"] (Ym K):=by
 refine F.ok qh (fun vs H Q E h=>?_) (fun cdv A outer s H vs Q E hr h=>?_)
 ·obtain⟨a,sl,k,ns,zz,rfl,_⟩:=h
  rfl
 obtain⟨a,sl,k,ns,zz,rfl,hS,h63,k0,hsl,z0,z9,hz,q⟩:=h
 have nd0:(["_law_one", "_law_numbers_here"]:List Str).Nodup:=by decide +kernel
 have nd1:(["_law_one", "_law_many"]:List Str).Nodup:=by decide +kernel
 refine⟨_,(@zh _ _ _ _ _ (@zr _ _ 3 _ _ _ _ qh.nd rfl (Or.inr rfl) (@zw _ _ _ _ _ _ _ _ _ _ _ d_law_numbers hr (by omega) rfl (@zd _ _ _ _ _ (@pw _ 0 _ _ rfl rfl) (@zd _ _ _ _ _ (@pw _ 1 _ _ rfl rfl) (@zd _ _ _ _ _ (@zi _ _ _ _) (@zg _) rfl) rfl) rfl) (by decide) rfl rfl) rfl (by walk_at "f")) (@zh _ _ _ _ _ (@zr _ _ 4 _ _ _ _ qh.nd rfl (Or.inr rfl) (@zv _ _ _ _ _ _ _ (@zn _ K rfl) (@pw _ 2 _ _ rfl rfl) (@zy _ _ _ _ _ _ _ _ (@qV _) (@zv _ _ _ _ _ _ _ (@zn _ K rfl) (@pw _ 3 _ _ rfl rfl) (@zi _ _ _ _) (fun _ _=>rfl)) (@zA _ _ _ _ _ _ _ _ _ (@zT _ K rfl) rfl gb.len qX (@zd _ _ _ _ _ (@pw _ 2 _ _ rfl rfl) (@zg _) rfl) (by decide) (by decide) rfl rfl)) (fun _ _=>rfl)) rfl (by walk_at "f")) (@zh _ _ _ _ _ (@zr _ _ 5 _ _ _ _ qh.nd rfl (Or.inl rfl) (@zG _ _ _ _ _ _ _ _ _ (@zL _ K rfl) rfl gb.tuple qO (@zd _ _ _ _ _ (@qm _ ["_law_one", "_law_numbers_here"] [none,some 3] _ _ _ _ _ _ _ _ _ _ (by exact (show zS ["_law_script", "_law_k", "_law_sizes", "_law_numbers_here", "_law_many", "_law_wished", "_law_connectives", "_law_at", "_law_name", "_law_places", "_law_cells_here"] (zo jK) ["_law_one", "_law_numbers_here"] [none,some 3] _ from⟨rfl,by decide +kernel,by decide +kernel,by decide +kernel,by decide +kernel,rfl,by decide +kernel⟩)) rfl (@qj _ _ _ _ _ _ rfl gb.range (@zd _ _ _ _ _ (@pw _ 4 _ _ rfl rfl) (@zg _) rfl) rfl) (fun _ _ _ _=>(@pgl _ 0 _ _ nd0 rfl rfl)) (fun _ _ _ _=>(@Jn _ _ _ (@zF _ _ _ _ _ _ _ _ (@Zr _) (@zy _ _ _ _ _ _ _ _ (@op_and _) (@zy _ _ _ _ _ _ _ _ (@op_shr _) (@zv _ _ _ _ _ _ _ (@zn _ K rfl) (@pw _ 1 _ _ rfl rfl) (@zi _ _ _ _) (fun _ _=>rfl)) (@pw _ 0 _ _ rfl rfl)) (@zi _ _ _ _)) (@zi _ _ _ _) (@zW _ _ (by decide) (by decide))))) (fun _ _ _ _=>(@pw _ 0 _ _ rfl rfl)) (by intro _;rfl)) (@zg _) rfl) (by decide) (by decide) rfl rfl) rfl (by walk_at "f")) (@zh _ _ _ _ _ (@zr _ _ 6 _ _ _ _ qh.nd rfl (Or.inl rfl) (@zN _ _ _ _ (@zg _)) rfl (by walk_at "f")) (@zh _ _ _ _ _ (@zr _ _ 7 _ _ _ _ qh.nd rfl (Or.inl rfl) (@zi _ _ _ _) rfl (by walk_at "f")) (@zh _ _ _ _ _ (@zP _ _ _ _ _ _ _ _ AU rfl (@zE _ K _ _ _ (@zw _ _ _ _ _ _ _ _ _ _ _ d_law_names hr (by omega) rfl (@zd _ _ _ _ _ (@qN _ _ _ _ _ _ _ _ _ _ (@Z8 _ K rfl) (@pw _ 3 _ _ rfl rfl) (@qS _ _ _ (@zi _ _ _ _)) (@qS _ _ _ (@zy _ _ _ _ _ _ _ _ (@qq _) (@zi _ _ _ _) (@zy _ _ _ _ _ _ _ _ (@qV _) (@zv _ _ _ _ _ _ _ (@zn _ K rfl) (@pw _ 3 _ _ rfl rfl) (@zi _ _ _ _) (fun _ _=>rfl)) (@zi _ _ _ _))))) (@zg _) rfl) (by decide) rfl rfl) rfl) (@pgl _ 8 _ _ qh.nd rfl rfl) (@zh _ _ _ _ _ (@zr _ _ 9 _ _ _ _ qh.nd rfl (Or.inl rfl) (@zv _ _ _ _ _ _ _ (@zn _ K rfl) (@zN _ _ _ _ (@zd _ _ _ _ _ (@zi _ _ _ _) (@zd _ _ _ _ _ (@zi _ _ _ _) (@zd _ _ _ _ _ (@zi _ _ _ _) (@zd _ _ _ _ _ (@zi _ _ _ _) (@zd _ _ _ _ _ (@zi _ _ _ _) (@zd _ _ _ _ _ (@zi _ _ _ _) (@zg _) rfl) rfl) rfl) rfl) rfl) rfl)) (@zy _ _ _ _ _ _ _ _ (@qV _) (@zv _ _ _ _ _ _ _ (@zn _ K rfl) (@pw _ 3 _ _ rfl rfl) (@pw _ 7 _ _ rfl rfl) (fun _ _=>rfl)) (@zi _ _ _ _)) (fun _ _=>rfl)) rfl (by walk_at "f")) (@zh _ _ _ _ _ (@zr _ _ 10 _ _ _ _ qh.nd rfl (Or.inl rfl) (@zv _ _ _ _ _ _ _ (@zn _ K rfl) (@zN _ _ _ _ (@zd _ _ _ _ _ (@zi _ _ _ _) (@zd _ _ _ _ _ (@pw _ 4 _ _ rfl rfl) (@zd _ _ _ _ _ (@zy _ _ _ _ _ _ _ _ (@js _) (@pw _ 4 _ _ rfl rfl) (@pw _ 4 _ _ rfl rfl)) (@zg _) rfl) rfl) rfl)) (@pw _ 9 _ _ rfl rfl) (fun _ _=>rfl)) rfl (by walk_at "f")) (@zh _ _ _ _ _ (@qi _ _ _ _ (@qE _ K _ _ _ _ _ _ _ _ _ _ _ Ac As Ar (@zX _) (@pw _ 6 _ _ rfl rfl) (@zd _ _ _ _ _ (@qd _ _ _ _ _ (@zd _ _ _ _ _ (@pw _ 8 _ _ rfl rfl) (@zd _ _ _ _ _ (@pw _ 9 _ _ rfl rfl) (@zd _ _ _ _ _ (@zG _ _ _ _ _ _ _ _ _ (@zL _ K rfl) rfl gb.tuple qO (@zd _ _ _ _ _ (@qm _ ["_law_one", "_law_many"] [none,some 4] _ _ _ _ _ _ _ _ _ _ (by exact (show zS ["_law_script", "_law_k", "_law_sizes", "_law_numbers_here", "_law_many", "_law_wished", "_law_connectives", "_law_at", "_law_name", "_law_places", "_law_cells_here"] (zo jK) ["_law_one", "_law_many"] [none,some 4] _ from⟨rfl,by decide +kernel,by decide +kernel,by decide +kernel,by decide +kernel,rfl,by decide +kernel⟩)) rfl (@zE _ K _ _ _ (@qN _ _ _ _ _ _ _ _ _ _ (@Z8 _ K rfl) (@pw _ 3 _ _ rfl rfl) (@qS _ _ _ (@zy _ _ _ _ _ _ _ _ (@qq _) (@pw _ 7 _ _ rfl rfl) (@zi _ _ _ _))) (@qS _ _ _ (@zy _ _ _ _ _ _ _ _ (@qq _) (@zy _ _ _ _ _ _ _ _ (@qq _) (@pw _ 7 _ _ rfl rfl) (@zi _ _ _ _)) (@pw _ 10 _ _ rfl rfl)))) rfl) (fun _ _ _ _=>(@pgl _ 0 _ _ nd1 rfl rfl)) (fun _ _ _ _=>(@qW _)) (fun _ _ _ _=>(@zy _ _ _ _ _ _ _ _ (@qV _) (@pw _ 0 _ _ rfl rfl) (@pw _ 1 _ _ rfl rfl))) (by intro _;rfl)) (@zg _) rfl) (by decide) (by decide) rfl rfl) (@zg _) rfl) rfl) rfl)) (@zg _) rfl) rfl rfl rfl rfl rfl rfl) rfl) (@zk _ _ _ (@zr _ _ 7 _ _ _ _ qh.nd rfl (Or.inl rfl) (@zy _ _ _ _ _ _ _ _ (@qq _) (@zy _ _ _ _ _ _ _ _ (@qq _) (@pw _ 7 _ _ rfl rfl) (@zi _ _ _ _)) (@pw _ 10 _ _ rfl rfl)) rfl (by walk_at "f")))))) (by intro _;rfl)) (@zk _ _ _ (@zB _ _ _ _ (@qd _ _ _ _ _ (@zd _ _ _ _ _ (@pw _ 4 _ _ rfl rfl) (@zd _ _ _ _ _ (@pw _ 5 _ _ rfl rfl) (@zd _ _ _ _ _ (@zG _ _ _ _ _ _ _ _ _ (@zL _ K rfl) rfl gb.tuple qO (@zd _ _ _ _ _ (@pw _ 6 _ _ rfl rfl) (@zg _) rfl) (by decide) (by decide) rfl rfl) (@zg _) rfl) rfl) rfl)))))))))),?_⟩
 refine⟨_,rfl,_,rfl,a,k,60,ns,rfl,hS,h63,k0,by decide,by decide,fun nl xs H1 s1 hnl xl xb=>?_⟩
 have xl60:xs.length=60:=xl
 have hsl1:=s1 _ _ hsl
 have at_x:∀ j:Nat,j < 60->∃ x,atI (xs.map nV) (j:Int)=some (nV x):=fun j hj=>⟨_,Zf (by omega)⟩
 obtain⟨x0,hx0⟩:=at_x 0 (by decide)
 obtain⟨m,hm⟩:=JU (Cc x0 z0)
 have hmz:=AI hm
 obtain⟨m1,m4⟩:=hz m hmz
 have em:atI (zz.map nV) ((x0:Int) % ((zz.map nV).length:Int))=some (nV m):=by
  rw[AB,show ((x0:Int) % (zz.length:Int))=((x0 % zz.length:Nat):Int) from rfl]
  exact qw (by rw[AJ,hm];rfl)
 refine⟨_,rfl,_,rfl,.inl ⟨nl,_,0,_,rfl,rfl,SqL.of hnl,hx0,_,rfl,_,_,rfl,.inl ⟨_,SqL.of hsl1,rfl⟩,_,_,rfl,rfl,(by rw[AB];omega),.inl ⟨sl,_,_,_,rfl,rfl,SqL.of hsl1,em,?_⟩⟩⟩
 refine⟨_,rfl,(m:Int),rfl,by omega,by omega,fun D hD=>?_⟩
 rw[A4]
 obtain⟨y1,hy1⟩:=at_x 1 (by decide)
 refine ZJ (fun i ys H'=>zD H1 H'/\∃ ws:List Nat,ys=ws.map nV/\ws.Pairwise (· < ·)/\(∀ x ∈ ws,x < i)/\ws.length<=i) ⟨zf hD _,[],rfl,.nil,(fun x hx=>by cases hx),AK _⟩ ?_ ?_
 ·rintro i ys H2 hi ⟨s2,ws,rfl,pw,wb,wl⟩ hD2
  refine⟨_,rfl,.inl ⟨nl,_,1,_,rfl,rfl,SqL.of (s2 _ _ hnl),hy1,_,rfl,_,_,rfl,rfl,(show (0:Int)<=0+(i:Int) by omega),_,_,rfl,rfl,rfl,_,rfl,jZ (fun _=>?_) (fun _=>?_)⟩⟩
  ·refine⟨_,rfl,WQ hi jM hD2 (by rw[AB];exact zu (by omega)) ⟨s2.put hD,ws++[i],?_,?_,?_,by rw[AH];exact DC wl⟩⟩
   ·rw[AL,Bx]
    rfl
   ·exact B9.mpr ⟨pw,C0 _ _,fun a ha b hb=>by rw[AE.mp hb];exact wb a ha⟩
   ·intro x hx
    rcases AQ.mp hx with hx | hx
    ·exact Au (wb x hx)
    ·rw[AE.mp hx];exact BM _
  ·exact cno hi jM hD2 ⟨s2,ws,rfl,pw,(fun x hx=>Au (wb x hx)),B7 wl⟩
 rintro ys H2 ⟨s2,wz,rfl,pw,wb,wl⟩ hD2
 refine⟨D,_,rfl,.inl ⟨SqL.of hD2,fun tw htw=>?_⟩⟩
 have n3:=zf htw (.tup (wz.map nV))
 refine⟨zq (by show 0<=1000;decide),fun lc hlc=>?_⟩
 have n4:=zf hlc (.lst [])
 have S4:=s1.trans (s2.trans (n3.trans n4))
 have hlc0:=(s1.trans (s2.trans n3)).free hlc
 have twn:tw ≠ lc:=zH (@ze H2 tw (.tup (wz.map nV))) hlc
 have htw4:=n4 _ _ (@ze H2 tw (.tup (wz.map nV)))
 have hlc4:(upd (upd H2 tw (.tup (wz.map nV))) lc (.lst [])) lc=some (.lst []):=ze
 have hnl4:=(s2.trans (n3.trans n4)) _ _ hnl
 generalize upd (upd H2 tw (.tup (wz.map nV))) lc (.lst [])=H4 at *
 obtain⟨y5,hy5⟩:=at_x 5 (by decide)
 refine⟨_,rfl,_,rfl,_,rfl,.inl ⟨nl,_,5,_,rfl,rfl,SqL.of hnl4,hy5,_,_,rfl,rfl,(show (0:Int) < 4 by decide),_,_,rfl,rfl,_,rfl,?_⟩⟩
 have ecut:wc (xs.map nV) (some 2) (some (2+(y5:Int) % 4))=((xs.drop 2).take (y5 % 4)).map nV:=by
  rw[show (2+(y5:Int) % 4)=((2+y5 % 4:Nat):Int) by omega]
  show wc _ (some ((2:Nat):Int)) _=_
  rw[Yk 2 (2+y5 % 4) (by rw[AB];omega) (by omega),<- DE,<- DD,show 2+y5 % 4 - 2=y5 % 4 by omega]
 refine .inl ⟨nl,_,rfl,SqL.of hnl4,fun l2 hl2=>?_⟩
 rw[ecut]
 have n5:=zf hl2 (.lst (((xs.drop 2).take (y5 % 4)).map nV))
 refine⟨l2,_,rfl,ze,by rw[An];omega,fun l3 ws H5 s5 hl3n hl3 nd wl w9=>?_⟩
 have s45:=n5.trans s5
 have wl3:ws.length<=3:=by rw[wl,An];omega
 have hnl5:=s45 _ _ hnl4
 have hlc5:=s45 _ _ hlc4
 have lcn:lc ≠ l3:=zH (n5 _ _ hlc4) hl3n
 have nln:nl ≠ lc:=fun e=>by
  rw[e,hlc4] at hnl4
  have:=HO.lst.inj (Ad hnl4)
  have:=BQ List.length this
  rw[AB] at this
  simp at this
  omega
 refine⟨l3,rfl,⟨_,SqL.of hl3⟩,?_⟩
 refine qf (xs:=ws.map V.str) (fun i σ H'=>∃ (p:Nat) (x8 x9 x10:Option V) (cs:List Cn) (vs:List V),σ=[some (.ref a),some (.int k),some (.ref sl),some (.ref nl),some (nV m),some (.ref tw),some (.ref lc),some (nV p),x8,x9,x10]/\zD H H'/\(∀ b o,b ≠ lc->H5 b=some o->H' b=some o)/\H' lc=some (.lst vs)/\Cns H' cs vs/\cs.map Cn.nm=ws.take i/\p<=8+17 * i/\∀ c ∈ cs,c.nm.length<=100/\c.pl<=2/\Tn.Cs m c.pl c.cs) ⟨8,none,none,none,[],[],rfl,S4.trans s45,(fun b o _ h=>h),hlc5,.nil,rfl,AK _,fun c hc=>by cases hc⟩ (fun i σ H' _ h=>by obtain⟨_,_,_,_,_,_,_,_,o,_⟩:=h;exact SqL.of (o _ _ (BD lcn) hl3)) ?_ ?_
 ·rintro i x σ H6 hx ⟨p,x8,x9,x10,cs,vs,rfl,S6,o6,hlc6,hC,hnm,hp,hcn⟩
  rw[AJ] at hx
  obtain⟨w,hw,rfl⟩:=AX.mp hx
  have hi:i < ws.length:=(AC.mp hw).1
  have csl:cs.length=i:=by
   have:=BQ List.length hnm
   rw[AB,An] at this
   omega
  have hvl:=hC.len
  have hnl6:=o6 nl _ nln hnl5
  obtain⟨xa,hxa⟩:=at_x p (by omega)
  obtain⟨pl,epl,pl2⟩:=six xa
  have p16:=pow16 m4 pl2
  refine⟨zq (by show 6<=1000;decide),fun p1 hp1=>⟨_,rfl,_,rfl,.inl ⟨nl,_,_,_,rfl,rfl,SqL.of ((zf hp1 _) _ _ hnl6),hxa,_,_,rfl,rfl,(show (0:Int) < 6 by decide),.inl ⟨p1,_,_,_,rfl,rfl,SqL.of ze,epl,?_⟩⟩⟩⟩
  have k1:=zf hp1 (.lst [.int 2,.int 1,.int 2,.int 0,.int 2,.int 1])
  refine⟨_,rfl,_,rfl,_,rfl,_,_,rfl,rfl,.inl ⟨by omega,by omega⟩,zq (by show 3<=1000;decide),fun p2 hp2=>⟨_,rfl,.inl ⟨p2,_,_,_,rfl,rfl,SqL.of ze,size3 m pl2,?_⟩⟩⟩
  have k2:=zf hp2 (.lst [.int 1,nV m,.int ((m:Int) * (m:Int))])
  have K2:=k1.trans k2
  have hlc7:=K2 _ _ hlc6
  have hnl7:=K2 _ _ hnl6
  generalize upd (upd H6 p1 (.lst [.int 2,.int 1,.int 2,.int 0,.int 2,.int 1])) p2 (.lst [.int 1,nV m,.int ((m:Int) * (m:Int))])=H7 at *
  refine⟨_,rfl,.inl ⟨rfl,_,SqL.of hlc7⟩,_,rfl,_,rfl,_,rfl,_,rfl,_,_,rfl,rfl,_,rfl,_,rfl,_,_,rfl,rfl,_,rfl,_,_,rfl,rfl,_,rfl,.inl ⟨nl,_,rfl,SqL.of hnl7,fun l4 hl4=>?_⟩⟩
  dsimp only
  rw[zay xs p (m ^ pl) (by omega)]
  generalize hcc:(xs.drop (p+1)).take (m ^ pl)=zc
  have zl:zc.length=m ^ pl:=by rw[<- hcc,An,Bz];omega
  have k3:=zf hl4 (.lst (zc.map nV))
  refine⟨l4,rfl,⟨_,SqL.of ze⟩,fun E hE=>?_⟩
  refine jv zc nV (fun z=>nV (z % m)) ze (by omega) hE (fun z hz H' Q' s7 q'=>?_) (fun H8 s8 hE8=>?_)
  ·exact⟨_,rfl,_,rfl,_,_,rfl,rfl,(show (0:Int) < (m:Int) by omega),q' H' zD.rfl'⟩
  rw[show (zc.map fun z=>nV (z % m))=(zc.map (· % m)).map nV by rw[A2];rfl] at hE8
  refine⟨E,_,rfl,.inl ⟨SqL.of hE8,fun tu htu=>?_⟩⟩
  have k4:=zf htu (.tup ((zc.map (· % m)).map nV))
  refine⟨zq (by show 3<=1000;decide),fun tt htt=>?_⟩
  have k5:=zf htt (.tup [.str w,nV pl,.ref tu])
  have K8:=k3.trans (s8.trans (k4.trans k5))
  have hlc9:=K8 _ _ hlc7
  have ht9:=@ze (upd H8 tu (.tup ((zc.map (· % m)).map nV))) tt (.tup [.str w,nV pl,.ref tu])
  have hu9:=k5 _ _ (@ze H8 tu (.tup ((zc.map (· % m)).map nV)))
  generalize upd (upd H8 tu (.tup ((zc.map (· % m)).map nV))) tt (.tup [.str w,nV pl,.ref tu])=H9 at *
  have KK:=K2.trans K8
  refine⟨lc,_,_,rfl,rfl,hlc9,zu (by omega),_,rfl,_,_,rfl,rfl,_,rfl,_,_,rfl,rfl,?_⟩
  refine⟨p+1+m ^ pl,_,_,_,cs++[⟨w,pl,zc.map (· % m)⟩],_,rfl,(S6.trans KK).put hlc0,(fun b o hb h=>by rw[zI hb];exact KK _ _ (o6 b o hb h)),ze,Cns.snoc (c:=⟨w,pl,zc.map (· % m)⟩) (Cns.tk ((Tk.of KK).trans (Tk.put hlc9)) hC) (Tk.put hlc9 _ _ ht9) (Tk.put hlc9 _ _ hu9),?_,by omega,fun c hc=>?_⟩
  ·rw[AL,hnm,take_snoc hw]
   rfl
  ·rcases AQ.mp hc with hc | hc
   ·exact hcn c hc
   ·rw[AE.mp hc]
    refine⟨Ab (w9 w (AI hw)) (by decide),pl2,by rw[AB];exact zl,fun x hx=>?_⟩
    obtain⟨z,_,rfl⟩:=AM.mp hx
    exact Cc _ m1
 ·rintro σ H6 ⟨p,x8,x9,x10,cs,vs,rfl,S6,o6,hlc6,hC,hnm,hp,hcn⟩
  rw[AB,Ae] at hnm
  have csl:cs.length<=3:=by
   have:=BQ List.length hnm
   rw[AB] at this
   omega
  refine⟨_,rfl,_,rfl,_,rfl,lc,_,rfl,.inl ⟨SqL.of hlc6,fun tc htc=>⟨zq (by show 3<=1000;decide),fun t ht=>?_⟩⟩⟩
  have k1:=zf htc (.tup vs)
  have k2:=zf ht (.tup [nV m,.ref tw,.ref tc])
  refine q (.ref t) ⟨m,wz,cs⟩ _ (S6.trans (k1.trans k2)) ⟨t,tw,tc,vs,rfl,ze,(k1.trans k2) _ _ (o6 _ _ twn (s45 _ _ htw4)),k2 _ _ ze,Cns.same (k1.trans k2) hC⟩ ⟨m1,by show m<=9;omega,pw,wb,by show cs.length<=16;omega,hcn⟩ (by unfold qc;show (cs.map Cn.nm).Nodup;rw[hnm];exact nd) hmz csl
abbrev jQ:Stmt:=top 38
theorem qp:zC ["_law_numbers_here", "_law_tools", "_law_letters_here", "_law_stack", "_law_number", "_law_some", "_law_name", "_law_places", "_law_parts"] ["_law_numbers_here", "_law_tools", "_law_letters_here"] (zo jQ):=⟨rfl,rfl,rfl,by decide +kernel,rfl,by decide +kernel,by decide +kernel⟩
theorem WM {P:Program} {w:World} {K:PySem.W.Frag} {mg:Str->Option Value} {base:Heap} {f:Addr} {fd:FuncData} (F:Fun K "_law_saying" "_law_saying" jQ f fd) (gb:Gb mg):jt P w K mg base CX0 1 f fd ["_law_numbers_here", "_law_tools", "_law_letters_here"] WA:=by
 refine F.ok qp (fun vs H Q E h=>?_) (fun cdv A outer s H vs Q E hr h=>?_)
 ·obtain⟨nl,c,la,xs,T,cv,L,rfl,_⟩:=h
  rfl
 obtain⟨nl,c,la,xs,T,cv,L,rfl,hn,x1,xl5,gT,hc,h4,hla,l1,l2,q⟩:=h
 have nd0:(["_law_tool", "_law_stack"]:List Str).Nodup:=by decide +kernel
 refine⟨_,(@zh _ _ _ _ _ (@zr _ _ 3 _ _ _ _ qp.nd rfl (Or.inr rfl) (@zN _ _ _ _ (@zg _)) rfl (by walk_at "f")) (@zh _ _ _ _ _ (@zP _ _ _ _ _ _ _ _ AU rfl (@zE _ K _ _ _ (@pw _ 0 _ _ rfl rfl) rfl) (@pgl _ 4 _ _ qp.nd rfl rfl) (@zh _ _ _ _ _ (@j4 _ ["_law_tool", "_law_stack"] [none,some 3] _ 5 _ _ _ _ _ _ _ _ _ _ _ _ (by exact (show zS ["_law_numbers_here", "_law_tools", "_law_letters_here", "_law_stack", "_law_number", "_law_some", "_law_name", "_law_places", "_law_parts"] (zo jQ) ["_law_tool", "_law_stack"] [none,some 3] _ from⟨rfl,by decide +kernel,by decide +kernel,by decide +kernel,by decide +kernel,rfl,by decide +kernel⟩)) rfl (@qT _ K _ _ _ (@pw _ 1 _ _ rfl rfl) rfl) (fun _ _ _ _=>(@pgl _ 0 _ _ nd0 rfl rfl)) (fun _ _ _ _=>(@Jn _ _ _ (@zF _ _ _ _ _ _ _ _ (@op_le _) (@zv _ _ _ _ _ _ _ (@zn _ K rfl) (@pw _ 0 _ _ rfl rfl) (@zi _ _ _ _) (fun _ _=>rfl)) (@zA _ _ _ _ _ _ _ _ _ (@zT _ K rfl) rfl gb.len qX (@zd _ _ _ _ _ (@pw _ 1 _ _ rfl rfl) (@zg _) rfl) (by decide) (by decide) rfl rfl) (@zW _ _ (by decide) (by decide))))) (fun _ _ _ _=>(@pw _ 0 _ _ rfl rfl)) qp.nd rfl rfl rfl (by intro _;rfl)) (@zk _ _ _ (@qL _ _ _ _ _ _ _ _ (@PW.pt _ _ _ (@Xb _ _ _ _ _ _ _ (@zF _ _ _ _ _ _ _ _ (@op_neNil _ K _ hr rfl) (@pw _ 5 _ _ rfl rfl) (@zN _ _ _ _ (@zg _)) (@zW _ _ (by decide) (by decide))) (@yO _ _ _ _ (@zF _ _ _ _ _ _ _ _ (@Xj _) (@zy _ _ _ _ _ _ _ _ (@qV _) (@pw _ 4 _ _ rfl rfl) (@zi _ _ _ _)) (@zi _ _ _ _) (@zW _ _ (by decide) (by decide)))))) (@zh _ _ _ _ _ (@ps_asg _ _ _ _ _ _ (@qN _ _ _ _ _ _ _ _ _ _ (@Z8 _ K rfl) (@zv _ _ _ _ _ _ _ (@zn _ K rfl) (@pw _ 5 _ _ rfl rfl) (@zy _ _ _ _ _ _ _ _ (@qV _) (@zy _ _ _ _ _ _ _ _ (@Ji _) (@pw _ 4 _ _ rfl rfl) (@zi _ _ _ _)) (@zA _ _ _ _ _ _ _ _ _ (@zT _ K rfl) rfl gb.len qX (@zd _ _ _ _ _ (@pw _ 5 _ _ rfl rfl) (@zg _) rfl) (by decide) (by decide) rfl rfl)) (fun _ _=>rfl)) (@j9 _) (@qS _ _ _ (@zi _ _ _ _))) (@Z9 _ K _ _ _ _ 2 rfl (@ql _ _ _ _ _ (@pgl _ 6 _ _ qp.nd rfl rfl) (@ql _ _ _ _ _ (@pgl _ 7 _ _ qp.nd rfl rfl) (@Z6 _) rfl) rfl) rfl rfl rfl) rfl rfl rfl) (@zh _ _ _ _ _ (@zr _ _ 8 _ _ _ _ qp.nd rfl (Or.inl rfl) (@zG _ _ _ _ _ _ _ _ _ (@zL _ K rfl) rfl gb.tuple qO (@zd _ _ _ _ _ (@qN _ _ _ _ _ _ _ _ _ _ (@Z8 _ K rfl) (@pw _ 3 _ _ rfl rfl) (@qS _ _ _ (@zy _ _ _ _ _ _ _ _ (@WW _) (@zA _ _ _ _ _ _ _ _ _ (@zT _ K rfl) rfl gb.len qX (@zd _ _ _ _ _ (@pw _ 3 _ _ rfl rfl) (@zg _) rfl) (by decide) (by decide) rfl rfl) (@pw _ 7 _ _ rfl rfl))) (@j9 _)) (@zg _) rfl) (by decide) (by decide) rfl rfl) rfl (by walk_at "f")) (@zk _ _ _ (@zr _ _ 3 _ _ _ _ qp.nd rfl (Or.inr rfl) (@zy _ _ _ _ _ _ _ _ (@Jl _) (@qN _ _ _ _ _ _ _ _ _ _ (@Z8 _ K rfl) (@pw _ 3 _ _ rfl rfl) (@j9 _) (@qS _ _ _ (@zy _ _ _ _ _ _ _ _ (@WW _) (@zA _ _ _ _ _ _ _ _ _ (@zT _ K rfl) rfl gb.len qX (@zd _ _ _ _ _ (@pw _ 3 _ _ rfl rfl) (@zg _) rfl) (by decide) (by decide) rfl rfl) (@pw _ 7 _ _ rfl rfl)))) (@zN _ _ _ _ (@zd _ _ _ _ _ (@zy _ _ _ _ _ _ _ _ (@Wf _ K rfl) (@qd _ _ _ _ _ (@zd _ _ _ _ _ (@pw _ 6 _ _ rfl rfl) (@zg _) rfl)) (@pw _ 8 _ _ rfl rfl)) (@zg _) rfl))) rfl (by walk_at "f"))))) (@zk _ _ _ (@qi _ _ _ _ (@qE _ K _ _ _ _ _ _ _ _ _ _ _ Ac As Ar (@zX _) (@pw _ 3 _ _ rfl rfl) (@zd _ _ _ _ _ (@zv _ _ _ _ _ _ _ (@zn _ K rfl) (@pw _ 2 _ _ rfl rfl) (@zy _ _ _ _ _ _ _ _ (@qV _) (@zy _ _ _ _ _ _ _ _ (@Ji _) (@pw _ 4 _ _ rfl rfl) (@zi _ _ _ _)) (@zA _ _ _ _ _ _ _ _ _ (@zT _ K rfl) rfl gb.len qX (@zd _ _ _ _ _ (@pw _ 2 _ _ rfl rfl) (@zg _) rfl) (by decide) (by decide) rfl rfl)) (fun _ _=>rfl)) (@zg _) rfl) rfl rfl rfl rfl rfl rfl) rfl))))) (by intro _;rfl)) (@zk _ _ _ (@zB _ _ _ _ (@zv _ _ _ _ _ _ _ (@zn _ K rfl) (@pw _ 3 _ _ rfl rfl) (@pe_un _ _ _ _ _ _ (@un_neg _) (@zi _ _ _ _)) (fun _ _=>rfl)))))),?_⟩
 refine⟨zq (by show 0<=1000;decide),fun s0 hs0=>?_⟩
 have n0:=zf hs0 (.lst [])
 have gcl:=gT.cl
 have hvl:=h4.len
 refine⟨_,rfl,nl,rfl,⟨_,SqL.of (n0 _ _ hn)⟩,?_⟩
 refine qf (xs:=xs.map nV) (fun i σ H'=>∃ (st:Addr) (x4 x5 x6 x7 x8:Option V) (ss:List (V×Sy)),σ=[some (.ref nl),some (.ref c),some (.ref la),some (.ref st),x4,x5,x6,x7,x8]/\zD H H'/\H st=none/\H' st=some (.lst (ss.map Prod.fst))/\(∀ z ∈ ss,jL H' z.2 z.1/\GSt T L z.2)/\(ss.map fun z=>z.2.sz).sum<=i/\(1<=i->ss ≠ [])) ⟨s0,none,none,none,none,none,[],rfl,n0,hs0,ze,(fun z hz=>by cases hz),AK _,fun h=>absurd h (by decide)⟩ (fun i σ H' _ h=>by obtain⟨_,_,_,_,_,_,_,_,s,_⟩:=h;exact SqL.of (s _ _ hn)) ?_ ?_
 ·rintro i x σ H1 hx ⟨st,x4,x5,x6,x7,x8,ss,rfl,s1,hst0,hst,hss,hsum,hne⟩
  rw[AJ] at hx
  obtain⟨y,hy,rfl⟩:=AX.mp hx
  have hi:i < xs.length:=(AC.mp hy).1
  have ssl:ss.length<=i:=Ab (sz_len ss) hsum
  refine⟨_,rfl,c,rfl,⟨_,SqT.of (s1 _ _ hc)⟩,fun D hD=>?_⟩
  refine Jb (xs:=cv) (fun j ys H'=>zD H1 H'/\ys.length<=j/\∀ y ∈ ys,∃ cc ∈ T.cs,∃ t u,y=.ref t/\H t=some (.tup [.str cc.nm,nV cc.pl,.ref u])/\cc.pl<=ss.length) ⟨zf hD _,AK _,fun y hy=>by cases hy⟩ (fun j ys H' h _=>SqT.of ((s1.trans h.1) _ _ hc)) ?_ ?_
  ·rintro j ys H2 z hz ⟨s2,yl,hys⟩ hD2
   have hj:j < cv.length:=(AC.mp hz).1
   have hcc:T.cs[j]? = some T.cs[j]:=AG (by omega)
   have hcm:=AI hcc
   generalize T.cs[j]=cc at hcc hcm
   obtain⟨t,u,e1,e2,e3⟩:=h4.get hcc
   rw[hz] at e1
   cases e1
   have S2:=s1.trans s2
   refine⟨_,rfl,.inr (.inl ⟨t,_,1,_,rfl,rfl,SqT.of (S2 _ _ e2),rfl,_,rfl,_,_,rfl,.inl ⟨_,SqL.of (s2 _ _ hst),rfl⟩,_,_,rfl,rfl,_,rfl,?_⟩)⟩
   rw[AB]
   refine jZ (fun h=>?_) (fun _=>?_)
   ·refine⟨_,rfl,WQ hj jM hD2 (zu (by omega)) ⟨s2.put hD,by rw[AH];exact DC yl,fun v hv=>?_⟩⟩
    rcases AQ.mp hv with hv | hv
    ·exact hys v hv
    ·rw[AE.mp hv]
     exact⟨cc,hcm,t,u,rfl,e2,by have:=Ak h;omega⟩
   ·exact cno hj jM hD2 ⟨s2,B7 yl,hys⟩
  rintro ys H2 ⟨s2,yl,hys⟩ hD2
  refine⟨_,rfl,zq (by show 0<=1000;decide),fun le hle=>?_⟩
  have n3:=zf hle (.lst [])
  have hD3:=n3 _ _ hD2
  have hst3:=n3 _ _ (s2 _ _ hst)
  have hle3:(upd H2 le (.lst [])) le=some (.lst []):=ze
  have S13:=s2.trans n3
  have S3:=s1.trans S13
  generalize upd H2 le (.lst [])=H3 at *
  refine hide (R:=?RB) (D:=?DB) (P:=fun R D'=>R D' [some (.ref nl),some (.ref c),some (.ref la),some (.ref st),some (nV y),some (.ref D),x6,x7,x8] H3) (fun rB=>?mA) ?rB
  case mA=>
   refine⟨D,le,ys,rfl,rfl,SqL.of hD3,SqL.of hle3,_,rfl,jZ (fun c1=>⟨_,rfl,_,_,rfl,rfl,(show (0:Int) < 7 by decide),_,_,rfl,rfl,_,rfl,jZ (fun _=>?tA) (fun _=>?fB)⟩) (fun _=>?fA)⟩
   case fB=>exact rB
   case fA=>exact rB
   case tA=>
    have y1:0 < ys.length:=by
     cases ys with
     | nil=>cases c1
     | cons a b=>exact Nat.succ_pos _
    obtain⟨yv,hyx⟩:=JU (Cc (y / 7) y1)
    obtain⟨cc,hcm,t,u,rfl,ht,cpl⟩:=hys _ (AI hyx)
    have ht3:=S3 _ _ ht
    have eix:atI ys ((y:Int) / 7 % (ys.length:Int))=some (.ref t):=by
     rw[show ((y:Int) / 7 % (ys.length:Int))=((y / 7 % ys.length:Nat):Int) by rw[EK,EL];rfl]
     exact qw hyx
    refine⟨_,rfl,_,rfl,_,_,rfl,rfl,⟨by decide,by decide⟩,_,rfl,_,_,rfl,.inl ⟨_,SqL.of hD3,rfl⟩,_,_,rfl,rfl,(show (0:Int) < (ys.length:Int) by omega),.inl ⟨D,_,_,_,rfl,rfl,SqL.of hD3,eix,?_⟩⟩
    refine⟨_,rfl,.inr (.inl ⟨t,_,rfl,SqT.of ht3,(show ¬ (HT.sIx 3 0 none=0/\HT.sIx 3 3 (some 2)=3) by decide),fun t2 ht2=>?_⟩)⟩
    refine⟨t2,_,rfl,SqT.of ze,rfl,_,_,rfl,_,_,rfl,rfl,?_⟩
    rw[show wc [V.str cc.nm,nV cc.pl,V.ref u] none (some 2)=[V.str cc.nm,nV cc.pl] from rfl] at *
    have n4:=zf ht2 (.tup [V.str cc.nm,nV cc.pl])
    have hst4:=n4 _ _ hst3
    generalize upd H3 t2 (.tup [V.str cc.nm,nV cc.pl])=H4 at *
    obtain⟨k,ek⟩:∃ k,ss.length=k+cc.pl:=⟨ss.length - cc.pl,by omega⟩
    have eI:(((ss.map Prod.fst).length:Int) - ((cc.pl:Nat):Int))=(k:Int):=by rw[AB];omega
    have c2:=(gT.cn cc hcm).2.1
    refine⟨_,rfl,_,rfl,_,_,rfl,.inl ⟨_,SqL.of hst4,rfl⟩,_,rfl,_,_,rfl,rfl,_,rfl,.inl ⟨st,_,rfl,SqL.of hst4,fun p1 hp1=>?_⟩⟩
    dsimp only
    rw[eI,cut_fr k (by rw[AB];omega),<- DE]
    generalize hB:ss.drop k=B
    have n5:=zf hp1 (.lst (B.map Prod.fst))
    refine⟨p1,_,rfl,.inl ⟨SqL.of ze,fun p2 hp2=>?_⟩⟩
    have n6:=zf hp2 (.tup (B.map Prod.fst))
    have S6:=n5.trans n6
    have hp26:(upd (upd H4 p1 (.lst (B.map Prod.fst))) p2 (.tup (B.map Prod.fst))) p2=some (.tup (B.map Prod.fst)):=ze
    generalize upd (upd H4 p1 (.lst (B.map Prod.fst))) p2 (.tup (B.map Prod.fst))=H6 at *
    have hst6:=S6 _ _ hst4
    refine⟨_,rfl,_,rfl,_,_,rfl,.inl ⟨_,SqL.of hst6,rfl⟩,_,rfl,_,_,rfl,rfl,_,rfl,.inl ⟨st,_,rfl,SqL.of hst6,fun p3 hp3=>?_⟩⟩
    dsimp only
    rw[eI,cut_upto k (by rw[AB];omega),<- DD]
    generalize hA:ss.take k=C
    have n7:=zf hp3 (.lst (C.map Prod.fst))
    have hpl:B.length=cc.pl:=by rw[<- hB,Bz];omega
    have hcl:C.length<=k:=by rw[<- hA];exact List.length_take_le _ _
    refine⟨_,rfl,zq (by show 1<=1000;decide),fun p4 hp4=>⟨_,rfl,?_⟩⟩
    have n8:=zf hp4 (.tup [.str cc.nm])
    refine JP ze ((n7.trans n8) _ _ hp26) (by show 1+_<=1000;rw[AB];omega) fun t5 H9 s9 ht5=>?_
    refine⟨zq (by show 1<=1000;decide),fun p6 hp6=>?_⟩
    have n10:=zf hp6 (.lst [.ref t5])
    refine⟨p3,p6,_,_,rfl,rfl,(n8.trans (s9.trans n10)) _ _ ze,ze,by rw[AB];exact zq (by show C.length+1<=1000;omega),fun p7 hp7=>?_⟩
    have n11:=zf hp7 (.lst (C.map Prod.fst++[.ref t5]))
    have Sb:=S13.trans (n4.trans (S6.trans (n7.trans (n8.trans (s9.trans n10)))))
    have Sa:=Sb.trans n11
    have hin:∀ z ∈ ss,jL (upd (upd H9 p6 (.lst [.ref t5])) p7 (.lst (C.map Prod.fst++[.ref t5]))) z.2 z.1:=fun z hz=>(hss z hz).1.same Sa
    have mB:∀ z ∈ B,z ∈ ss:=fun z hz=>by rw[<- hB] at hz;exact Dp hz
    have mC:∀ z ∈ C,z ∈ ss:=fun z hz=>by rw[<- hA] at hz;exact CA hz
    refine⟨p7,_,_,_,_,_,C++[(.ref t5,Sy.mk cc.nm (B.map Prod.snd))],rfl,s1.trans Sa,(s1.trans Sb).free hp7,by rw[ze,AL];rfl,fun z hz=>?_,?_,fun _=>by simp⟩
    ·rcases AQ.mp hz with hz | hz
     ·exact⟨hin z (mC z hz),(hss z (mC z hz)).2⟩
     ·rw[AE.mp hz]
      refine⟨jL.of ((n10.trans n11) _ _ ht5) (pr_of fun z hz=>hin z (mB z hz)) (by rw[AB];omega),GSt.of hcm (by rw[AB,hpl]) (fun a ha=>?_) (by rw[AB];omega)⟩
      obtain⟨z,hz,rfl⟩:=AM.mp ha
      exact (hss z (mB z hz)).2
    ·have es:(ss.map fun z=>z.2.sz).sum=(C.map fun z=>z.2.sz).sum+(B.map fun z=>z.2.sz).sum:=by
      rw[<- hA,<- hB,<- Cu,<- AL,B1]
     have em:(Sy.mk cc.nm (B.map Prod.snd)).sz=(B.map fun z=>z.2.sz).sum+1:=by
      rw[sz_mk (by rw[AB];omega),A2]
      rfl
     rw[AL,Cu]
     show _+((Sy.mk cc.nm (B.map Prod.snd)).sz+0)<=i+1
     omega
  case rB=>
   have eix:∃ x ∈ L,atI (L.map V.str) ((y:Int) / 7 % (L.length:Int))=some (.str x):=by
    obtain⟨xv,hlx⟩:=JU (Cc (y / 7) (show 0 < L.length from l1))
    refine⟨xv,AI hlx,?_⟩
    rw[show ((y:Int) / 7 % (L.length:Int))=((y / 7 % L.length:Nat):Int) by rw[EK,EL];rfl]
    exact qw (by rw[AJ,hlx];rfl)
   obtain⟨x,hxL,eix⟩:=eix
   rw[<- AB (f:=V.str) (as:=L)] at eix
   refine⟨_,rfl,.inl ⟨rfl,_,SqL.of hst3⟩,_,rfl,_,rfl,_,_,rfl,rfl,⟨by decide,by decide⟩,_,rfl,_,_,rfl,.inl ⟨_,SqL.of (S3 _ _ hla),rfl⟩,_,_,rfl,rfl,(by rw[AB];omega),.inl ⟨la,_,_,_,rfl,rfl,SqL.of (S3 _ _ hla),eix,st,_,_,rfl,rfl,hst3,by rw[AB];exact zu (by omega),?_⟩⟩
   refine⟨st,_,_,_,_,_,ss++[(.str x,.ltr x)],rfl,S3.put hst0,hst0,by rw[ze,AL];rfl,fun z hz=>?_,?_,fun _=>by simp⟩
   ·rcases AQ.mp hz with hz | hz
    ·exact⟨(hss z hz).1.tk ((Tk.of S13).trans (Tk.put hst3)),(hss z hz).2⟩
    ·rw[AE.mp hz]
     exact⟨rfl,hxL⟩
   ·rw[AL,Cu]
    show _+1<=i+1
    omega
 ·rintro σ H1 ⟨st,x4,x5,x6,x7,x8,ss,rfl,s1,hst0,hst,hss,hsum,hne⟩
  rw[AB] at hsum hne
  rcases C9 ss with e | ⟨ss,z,rfl⟩
  ·exact absurd e (hne x1)
  rw[CV,AL] at hst
  rw[CV,AL,Cu] at hsum
  obtain⟨iz,gz⟩:=hss z (by simp)
  have hz5:z.2.sz<=5:=by
   have:(List.map (fun z=>z.2.sz) [z]).sum=z.2.sz:=by simp
   omega
  refine⟨_,rfl,_,rfl,.inl ⟨st,_,-1,_,rfl,rfl,SqL.of hst,atI_last _ _,q z.1 z.2 H1 s1 iz ⟨gz,Ab (Sy.dp_sz _) hz5,hz5⟩⟩⟩
abbrev Qg:Stmt:=top 39
theorem Q1:zC ["_law_table_here", "_law_name", "_law_places", "_law_one"] ["_law_table_here", "_law_name", "_law_places"] (zo Qg):=⟨rfl,rfl,rfl,by decide +kernel,rfl,by decide +kernel,by decide +kernel⟩
theorem yJ {P:Program} {w:World} {K:PySem.W.Frag} {mg:Str->Option Value} {base:Heap} {f:Addr} {fd:FuncData} (F:Fun K "_law_cells" "_law_cells" Qg f fd) (gb:Gb mg):jt P w K mg base CX0 1 f fd ["_law_table_here", "_law_name", "_law_places"] WB:=by
 refine F.ok Q1 (fun vs H Q E h=>?_) (fun cdv A outer s H vs Q E hr h=>?_)
 ·obtain⟨v,T,c,rfl,_⟩:=h
  rfl
 obtain⟨v,T,c,rfl,tb,nT,hcm,q⟩:=h
 refine⟨_,(@zh _ _ _ _ _ (@zP _ _ _ _ _ _ _ _ AU rfl (@qT _ K _ _ _ (@zv _ _ _ _ _ _ _ (@zn _ K rfl) (@pw _ 0 _ _ rfl rfl) (@zi _ _ _ _) (fun _ _=>rfl)) rfl) (@pgl _ 3 _ _ Q1.nd rfl rfl) (@zk _ _ _ (@qL _ _ _ _ _ _ _ _ (@PW.pt _ _ _ (@Xb _ _ _ _ _ _ _ (@zF _ _ _ _ _ _ _ _ (@Zr _) (@zv _ _ _ _ _ _ _ (@zn _ K rfl) (@pw _ 3 _ _ rfl rfl) (@zi _ _ _ _) (fun _ _=>rfl)) (@pw _ 1 _ _ rfl rfl) (@zW _ _ (by decide) (by decide))) (@yO _ _ _ _ (@zF _ _ _ _ _ _ _ _ (@Zr _) (@zv _ _ _ _ _ _ _ (@zn _ K rfl) (@pw _ 3 _ _ rfl rfl) (@zi _ _ _ _) (fun _ _=>rfl)) (@pw _ 2 _ _ rfl rfl) (@zW _ _ (by decide) (by decide)))))) (@zk _ _ _ (@zB _ _ _ _ (@zv _ _ _ _ _ _ _ (@zn _ K rfl) (@pw _ 3 _ _ rfl rfl) (@zi _ _ _ _) (fun _ _=>rfl)))) (@zO _))) (by intro _;rfl)) (@zk _ _ _ (@zB _ _ _ _ (@wC _ _ _)))),?_⟩
 obtain⟨a,w0,c0,vs,rfl,h1,h2,h3,h4⟩:=id tb
 have hvl:=h4.len
 obtain⟨k,hk⟩:=Bc.mp hcm
 have hkl:=(AC.mp hk).1
 refine⟨_,rfl,.inr (.inl ⟨a,_,2,_,rfl,rfl,SqT.of h1,rfl,c0,rfl,⟨_,SqT.of h3⟩,?_⟩)⟩
 refine jU (xs:=vs) (fun i σ H'=>H'=H/\i<=k/\∃ x3,σ=[some (.ref a),some (.str c.nm),some (nV c.pl),x3]) ⟨rfl,A9 _,_,rfl⟩ (fun i σ H' _ h=>by rw[h.1];exact SqT.of h3) ?_ ?_
 ·rintro i x σ H' hx ⟨rfl,hik,x3,rfl⟩
  have hi:i < vs.length:=(AC.mp hx).1
  have hc:T.cs[i]? = some T.cs[i]:=AG (by omega)
  generalize T.cs[i]=ci at hc
  obtain⟨t,u,e1,e2,e3⟩:=h4.get hc
  rw[hx] at e1
  cases e1
  refine⟨_,rfl,.inr (.inl ⟨t,_,0,_,rfl,rfl,SqT.of e2,rfl,_,rfl,rfl,_,rfl,?_⟩)⟩
  by_cases hik':i=k
  ·subst hik'
   rw[hk] at hc
   cases hc
   rw[Ai rfl]
   refine W5 ⟨_,rfl,.inr (.inl ⟨t,_,1,_,rfl,rfl,SqT.of e2,rfl,_,rfl,rfl,_,rfl,?_⟩)⟩
   rw[Ai rfl]
   exact W5 ⟨_,rfl,.inr (.inl ⟨t,_,2,_,rfl,rfl,SqT.of e2,rfl,q u e3⟩)⟩
  ·rw[Aw fun e=>hik' (nm_inj nT hc hk (V.str.inj e))]
   exact WP ⟨rfl,by omega,_,rfl⟩
 ·rintro σ H' ⟨_,hle,_⟩
  omega
abbrev Qh:Stmt:=top 40
theorem jR:zC ["_law_table_here", "_law_saying_here", "_law_grading", "_law_place", "_law_part"] ["_law_table_here", "_law_saying_here", "_law_grading"] (zo Qh):=⟨rfl,rfl,rfl,by decide +kernel,rfl,by decide +kernel,by decide +kernel⟩
theorem yK {P:Program} {w:World} {K:PySem.W.Frag} {mg:Str->Option Value} {base:Heap} {f:Addr} {fd:FuncData} (F:Fun K "_law_grade" "_law_grade" Qh f fd) (gb:Gb mg) (d_law_cells:Def P w K mg base 1 "_law_cells" ["_law_table_here", "_law_name", "_law_places"] WB) (j:Nat) (d_law_grade:Def P w K mg base (3+j) "_law_grade" ["_law_table_here", "_law_saying_here", "_law_grading"] (JQ j)):jt P w K mg base CX0 (3+j+1) f fd ["_law_table_here", "_law_saying_here", "_law_grading"] (JQ (j+1)):=by
 refine F.ok jR (fun vs H Q E h=>?_) (fun cdv A outer s H vs Q E hr h=>?_)
 ·obtain⟨v,sv,g,s,T,L,γ,rfl,_⟩:=h
  rfl
 obtain⟨v,sv,g,s,T,L,γ,rfl,tb,gT,nT,ih,gs,hg,hj,q⟩:=h
 refine⟨_,(@zh _ _ _ _ _ (@qL _ _ _ _ _ _ _ _ (@Zp _ _ _ (@zA _ _ _ _ _ _ _ _ _ (@ZK _ K rfl) rfl gb.isinstance ju (@zd _ _ _ _ _ (@pw _ 1 _ _ rfl rfl) (@zd _ _ _ _ _ (@w8 _ _ (.ty "str") _ _ rfl gb.str Xv rfl (by decide) (by decide)) (@zg _) rfl) rfl) (by decide) (by decide) rfl rfl) (by intro _;rfl)) (@zk _ _ _ (@zB _ _ _ _ (@Jw _ _ _ _ _ _ (@pw _ 2 _ _ rfl rfl) (@pw _ 1 _ _ rfl rfl) (fun _ _=>rfl)))) (@zO _)) (@zh _ _ _ _ _ (@zr _ _ 3 _ _ _ _ jR.nd rfl (Or.inl rfl) (@zi _ _ _ _) rfl (by walk_at "f")) (@zh _ _ _ _ _ (@zP _ _ _ _ _ _ _ _ AU rfl (@qT _ K _ _ _ (@qN _ _ _ _ _ _ _ _ _ _ (@kslT _ K rfl) (@pw _ 1 _ _ rfl rfl) (@qS _ _ _ (@zi _ _ _ _)) (@j9 _)) rfl) (@pgl _ 4 _ _ jR.nd rfl rfl) (@zk _ _ _ (@zr _ _ 3 _ _ _ _ jR.nd rfl (Or.inl rfl) (@zy _ _ _ _ _ _ _ _ (@qq _) (@zy _ _ _ _ _ _ _ _ (@js _) (@pw _ 3 _ _ rfl rfl) (@zv _ _ _ _ _ _ _ (@zn _ K rfl) (@pw _ 0 _ _ rfl rfl) (@zi _ _ _ _) (fun _ _=>rfl))) (@zw _ _ _ _ _ _ _ _ _ _ _ d_law_grade hr (by omega) rfl (@zd _ _ _ _ _ (@pw _ 0 _ _ rfl rfl) (@zd _ _ _ _ _ (@pw _ 4 _ _ rfl rfl) (@zd _ _ _ _ _ (@pw _ 2 _ _ rfl rfl) (@zg _) rfl) rfl) rfl) (by decide) rfl rfl)) rfl (by walk_at "f"))) (by intro _;rfl)) (@zk _ _ _ (@zB _ _ _ _ (@zv _ _ _ _ _ _ _ (@zn _ K rfl) (@zw _ _ _ _ _ _ _ _ _ _ _ d_law_cells hr (by omega) rfl (@zd _ _ _ _ _ (@pw _ 0 _ _ rfl rfl) (@zd _ _ _ _ _ (@zv _ _ _ _ _ _ _ (@zn _ K rfl) (@pw _ 1 _ _ rfl rfl) (@zi _ _ _ _) (fun _ _=>rfl)) (@zd _ _ _ _ _ (@zy _ _ _ _ _ _ _ _ (@WW _) (@zA _ _ _ _ _ _ _ _ _ (@zT _ K rfl) rfl gb.len qX (@zd _ _ _ _ _ (@pw _ 1 _ _ rfl rfl) (@zg _) rfl) (by decide) (by decide) rfl rfl) (@zi _ _ _ _)) (@zg _) rfl) rfl) rfl) (by decide) rfl rfl) (@pw _ 3 _ _ rfl rfl) (fun _ _=>rfl))))))),?_⟩
 cases hs:s.isL with
 | true=>
  have ev:=ih.letter hs
  obtain⟨kvs,hn,hv⟩:=hg
  obtain⟨hu1,hu2⟩:=hv s.nm (gs.letter hs)
  refine⟨_,rfl,_,_,_,true,rfl,by rw[ev];exact .str _,Ql "str",_,rfl,W5 ⟨_,rfl,_,rfl,g,kvs,Sum.inr s.nm,_,rfl,hn,ev,hu1,?_⟩⟩
  have q2:=q H (zD.refl H)
  rw[xD hs] at q2
  exact q2
 | false=>
  obtain⟨t,us,ev,ht,hP⟩:=ih.node hs
  obtain⟨⟨c,hcm,cn,cp⟩,gps⟩:=gs.node hs
  have hul:=Al hP
  have a2:=Sy.ps_le s
  obtain⟨a,w0,c0,vs,rfl,h1,h2,h3,h4⟩:=id tb
  have m9:=gT.m9
  have cl:=gT.cl
  have hvl:=h4.len
  have gl:∀ b ∈ s.ps,grT T γ b < T.m:=fun b hb=>YO gT nT (fun x hx=>(hg.choose_spec.2 x hx).2) (gps b hb)
  rw[ev]
  refine⟨_,rfl,_,_,_,false,rfl,.tup ht,yT (K:=K) (.tup []),_,rfl,WP ?_⟩
  refine⟨_,rfl,_,rfl,?_⟩
  refine yw ht fun t2 H2 s2 ht2=>?_
  rw[Qy (by simp)] at ht2
  refine⟨t2,rfl,⟨_,SqT.of ht2⟩,?_⟩
  refine jU (xs:=us) (fun i σ H'=>(∃ x4,σ=[some (.ref a),some (.ref t),some (.ref g),some (nV (Tn.place T.m ((s.ps.take i).map (grT T γ)))),x4])/\zD H2 H') ⟨⟨_,rfl⟩,zD.refl _⟩ (fun i σ H' _ h=>SqT.of (h.2 _ _ ht2)) ?_ ?_
  ·rintro i x σ H3 hx ⟨⟨x4,rfl⟩,s3⟩
   have hi:i < us.length:=(AC.mp hx).1
   have ha:s.ps[i]? = some s.ps[i]:=AG (by omega)
   generalize s.ps[i]=b at ha
   have hib:=Paired.at hP i _ _ ha hx
   have hbm:=AI ha
   have hdb:=Sy.dp_lt hbm
   have S3:=s2.trans s3
   have e:V.int (((Tn.place T.m ((s.ps.take i).map (grT T γ)):Nat):Int) * ((T.m:Nat):Int)+((grT T γ b:Nat):Int))=nV (Tn.place T.m ((s.ps.take (i+1)).map (grT T γ))):=by
    rw[take_snoc ha,AL,Ag,Cg,Tn.place_snoc]
    show V.int _=V.int _
    rw[Dk,DH]
   match j,hj,d_law_grade with
   | 0,hj,_=>exact absurd hj (by omega)
   | j+1,hj,_=>
   refine⟨_,rfl,_,rfl,.inr (.inl ⟨a,_,0,_,rfl,rfl,SqT.of (S3 _ _ h1),rfl,_,_,rfl,rfl,.inr ⟨by omega,by omega⟩,_,rfl,_,rfl,_,rfl,.ref a,x,g,b,T,L,γ,rfl,tb.same S3,gT,nT,hib.same S3,gps b hbm,hg.same S3,by omega,fun H4 s4=>⟨_,_,rfl,rfl,?_⟩⟩)⟩
   refine⟨⟨some x,?_⟩,s3.trans s4⟩
   rw[<- e]
   rfl
  ·rintro σ H3 ⟨⟨x4,rfl⟩,s3⟩
   have S3:=s2.trans s3
   have e0:s.ps.take us.length=s.ps:=by rw[<- hul,Ae]
   rw[e0]
   refine⟨_,rfl,_,rfl,.inr (.inl ⟨t,_,0,_,rfl,rfl,SqT.of (S3 _ _ ht),at0,_,rfl,_,_,rfl,.inr ⟨_,SqT.of (S3 _ _ ht),rfl⟩,_,_,rfl,rfl,?_⟩)⟩
   refine⟨.ref a,T,c,?_,tb.same S3,nT,hcm,fun u hu=>?_⟩
   ·rw[cn,cp,hul]
    show [V.ref a,V.str s.nm,V.int (((us.length+1:Nat):Int) - 1)]=[V.ref a,V.str s.nm,V.int (us.length:Int)]
    rw[show (((us.length+1:Nat):Int) - 1)=(us.length:Int) by omega]
   have gc:=gT.cn c hcm
   have e:grT T γ s=Tn.at' c.cs (Tn.place T.m (s.ps.map (grT T γ))):=by
    rw[grT_node hs,<- cn]
    unfold L4.cellOf
    rw[Zg nT hcm]
   refine⟨_,rfl,.inr (.inl ⟨u,_,_,_,rfl,rfl,SqT.of hu,Zf ?_,?_⟩)⟩
   ·rw[gc.2.2.len,cp]
    exact Tn.place_lt _ _ ⟨by rw[AB],fun x hx=>by
     obtain⟨b,hb,rfl⟩:=AM.mp hx
     exact gl b hb⟩
   ·rw[<- e]
    exact q H3 S3
abbrev jW:Stmt:=top 41
theorem qa:zC ["_law_many", "_law_letters_here", "_law_found", "_law_letter", "_law_more", "_law_one", "_law_grade_here", "_law_longer"] ["_law_many", "_law_letters_here"] (zo jW):=⟨rfl,rfl,rfl,by decide +kernel,rfl,by decide +kernel,by decide +kernel⟩
theorem J8 {P:Program} {w:World} {K:PySem.W.Frag} {mg:Str->Option Value} {base:Heap} {f:Addr} {fd:FuncData} (F:Fun K "_law_gradings" "_law_gradings" jW f fd) (gb:Gb mg):jt P w K mg base CX0 1 f fd ["_law_many", "_law_letters_here"] WC:=by
 refine F.ok qa (fun vs H Q E h=>?_) (fun cdv A outer s H vs Q E hr h=>?_)
 ·obtain⟨la,m,LT,rfl,_⟩:=h
  rfl
 obtain⟨la,m,LT,rfl,m1,m9,hla,nL,l5,p125,q⟩:=h
 refine⟨_,(@zh _ _ _ _ _ (@zr _ _ 2 _ _ _ _ qa.nd rfl (Or.inl rfl) (@zN _ _ _ _ (@zd _ _ _ _ _ (@Wh _ _) (@zg _) rfl)) rfl (by walk_at "f")) (@zh _ _ _ _ _ (@zP _ _ _ _ _ _ _ _ AU rfl (@zE _ K _ _ _ (@pw _ 1 _ _ rfl rfl) rfl) (@pgl _ 3 _ _ qa.nd rfl rfl) (@zh _ _ _ _ _ (@zr _ _ 4 _ _ _ _ qa.nd rfl (Or.inl rfl) (@zN _ _ _ _ (@zg _)) rfl (by walk_at "f")) (@zh _ _ _ _ _ (@zP _ _ _ _ _ _ _ _ AU rfl (@zE _ K _ _ _ (@pw _ 2 _ _ rfl rfl) rfl) (@pgl _ 5 _ _ qa.nd rfl rfl) (@zk _ _ _ (@zP _ _ _ _ _ _ _ _ AU rfl (@qj _ _ _ _ _ _ rfl gb.range (@zd _ _ _ _ _ (@pw _ 0 _ _ rfl rfl) (@zg _) rfl) rfl) (@pgl _ 6 _ _ qa.nd rfl rfl) (@zh _ _ _ _ _ (@zr _ _ 7 _ _ _ _ qa.nd rfl (Or.inl rfl) (@zG _ _ _ _ _ _ _ _ _ (@QM _) rfl gb.dict Jv (@zd _ _ _ _ _ (@pw _ 5 _ _ rfl rfl) (@zg _) rfl) (by decide) (by decide) rfl rfl) rfl (by walk_at "f")) (@zh _ _ _ _ _ (@yZ _ _ _ _ _ _ _ _ _ _ hr (@pw _ 7 _ _ rfl rfl) (@pw _ 3 _ _ rfl rfl) (@pw _ 6 _ _ rfl rfl) rfl) (@zk _ _ _ (@qi _ _ _ _ (@qE _ K _ _ _ _ _ _ _ _ _ _ _ Ac As Ar (@zX _) (@pw _ 4 _ _ rfl rfl) (@zd _ _ _ _ _ (@pw _ 7 _ _ rfl rfl) (@zg _) rfl) rfl rfl rfl rfl rfl rfl) rfl)))) (by intro _;rfl))) (by intro _;rfl)) (@zk _ _ _ (@zr _ _ 2 _ _ _ _ qa.nd rfl (Or.inl rfl) (@pw _ 4 _ _ rfl rfl) rfl (by walk_at "f"))))) (by intro _;rfl)) (@zk _ _ _ (@zB _ _ _ _ (@pw _ 2 _ _ rfl rfl))))),?_⟩
 refine fun dd hd=>⟨zq (by show 1<=1000;decide),fun fl hfl=>?_⟩
 have n1:=zf hd (.dK [])
 have n2:=zf hfl (.lst [.ref dd])
 have S2:=n1.trans n2
 refine⟨_,rfl,la,rfl,⟨_,SqL.of (S2 _ _ hla)⟩,?_⟩
 refine qf (xs:=LT.map V.str) (fun i σ H'=>(∃ fl x3 x4 x5 x6 x7 gs,σ=[some (nV m),some (.ref la),some (.ref fl),x3,x4,x5,x6,x7]/\zD H H'/\H' fl=some (.lst (JS gs))/\gs.map Prod.snd=Wx m i/\GnsR H' gs (LT.take i))) ⟨fl,none,none,none,none,none,[(dd,[])],rfl,S2,ze,rfl,fun z hz=>by rw[AE.mp hz];exact n2 _ _ ze⟩ (fun i σ H' _ h=>by obtain⟨_,_,_,_,_,_,_,_,s,_⟩:=h;exact SqL.of (s _ _ hla)) ?_ ?_
 ·rintro i x σ H1 hx ⟨fl,x3,x4,x5,x6,x7,gs,rfl,s1,hf,es,hg⟩
  rw[AJ] at hx
  obtain⟨y,hy,rfl⟩:=AX.mp hx
  have hi:i < LT.length:=(AC.mp hy).1
  have hyn:y ∉ LT.take i:=fun hm=>by
   obtain⟨j,hj,e⟩:=List.mem_take_iff_getElem.mp hm
   obtain⟨h1,h2⟩:=AC.mp hy
   exact (Co.mp nL) j i (by omega) h1 (by omega) (by rw[e,h2])
  have gl:gs.length=m ^ i:=by
   have:=BQ List.length es
   rwa [AB,JR] at this
  have pw:m ^ (i+1)<=125:=Ab (Cb m1 (by omega)) p125
  have pw':gs.length * m<=125:=by rw[gl,<- CQ];exact pw
  have tkl:(LT.take i).length=i:=by rw[An];omega
  have rl:∀ z ∈ gs,z.2.length=i:=fun z hz=>(j6.mp (es ▸ AM.mpr ⟨z,hz,rfl⟩:z.2 ∈ Wx m i)).1
  refine⟨zq (by show 0<=1000;decide),fun lo hlo=>?_⟩
  have n3:=zf hlo (.lst [])
  refine⟨_,rfl,fl,rfl,⟨_,SqL.of (n3 _ _ hf)⟩,?_⟩
  refine qf (xs:=JS gs) (fun j σ H'=>(∃ x5 x6 x7 hs,σ=[some (nV m),some (.ref la),some (.ref fl),some (.str y),some (.ref lo),x5,x6,x7]/\zD H1 H'/\H' lo=some (.lst (JS hs))/\hs.map Prod.snd=((gs.take j).map Prod.snd).flatMap (fun r=>(List.range m).map fun o=>r++[o])/\GnsR H' hs (LT.take i++[y]))) ⟨x5,x6,x7,[],rfl,n3,ze,rfl,fun z hz=>by cases hz⟩ (fun j σ H' _ h=>by obtain⟨_,_,_,_,_,s,_⟩:=h;exact SqL.of (s _ _ hf)) ?_ ?_
  ·rintro j x σ H2 hx ⟨x5,x6,x7,hs,rfl,s2,hl2,eh,hh⟩
   have hxj:(gs.map fun z=>V.ref z.1)[j]? = some x:=hx
   rw[AJ] at hxj
   obtain⟨z,hz,rfl⟩:=AX.mp hxj
   have hj:j < gs.length:=(AC.mp hz).1
   have hk:=hg z (AI hz)
   have zl:=rl z (AI hz)
   have hsl:hs.length<=gs.length * m:=by
    have:=BQ List.length eh
    rw[AB] at this
    rw[this]
    have e2:(((gs.take j).map Prod.snd).flatMap fun r=>(List.range m).map fun o=>r++[o]).length=j * m:=by
     rw[zau,AB,An,show min j gs.length=j by omega]
    rw[e2]
    exact BV _ (by omega)
   refine⟨_,rfl,(m:Int),rfl,by omega,by omega,?_⟩
   rw[A4]
   refine qM (fun k σ H'=>(∃ x6 x7 hs',σ=[some (nV m),some (.ref la),some (.ref fl),some (.str y),some (.ref lo),some (.ref z.1),x6,x7]/\zD H1 H'/\H' lo=some (.lst (JS hs'))/\hs'.map Prod.snd=hs.map Prod.snd++(List.range k).map (fun o=>z.2++[o])/\GnsR H' hs' (LT.take i++[y]))) ⟨x6,x7,hs,rfl,s2,hl2,by rw[show (List.range 0).map (fun o=>z.2++[o])=[] from rfl,BW],hh⟩ ?_ ?_
   ·rintro k σ H3 hk9 ⟨x6,x7,hs',rfl,s3,hl3,eh',hh'⟩
    have hk3:=s3 _ _ hk
    have hs'l:hs'.length=hs.length+k:=by
     have:=BQ List.length eh'
     rw[AB,AH,AB,AB,AZ] at this
     exact this
    refine⟨_,rfl,z.1,_,rfl,hk3,fun e he=>?_⟩
    refine⟨_,rfl,_,rfl,_,rfl,e,_,Sum.inr y,rfl,rfl,ze,by rw[zav (by omega)];exact zu (by omega),?_⟩
    rw[xX,show V.int (0+(k:Int))=nV k by show V.int _=V.int _;rw[Bx],zkv_put (by omega) hyn]
    have n5:=zf he (.dK (zkv (LT.take i++[y]) (z.2++[k])))
    have hl5:=n5 _ _ hl3
    refine⟨_,rfl,.inl ⟨rfl,_,SqL.of hl5⟩,_,rfl,lo,_,_,rfl,rfl,hl5,by unfold JS;rw[List.length_map];exact zu (by omega),?_⟩
    refine⟨_,_,hs'++[(e,z.2++[k])],rfl,(s3.trans n5).put hlo,by rw[ze];unfold JS;rw[List.map_append];rfl,?_,fun u hu=>?_⟩
    ·rw[AL,eh',Bj,AL,CC]
     rfl
    ·have dne:∀ (b:Addr) (o:List (Key×V)),(upd H3 e (.dK (zkv (LT.take i++[y]) (z.2++[k])))) b=some (.dK o)->b ≠ lo:=fun b o hb e2=>by
      rw[e2,hl5] at hb
      cases hb
     rcases AQ.mp hu with hu | hu
     ·have h6:=n5 _ _ (hh' u hu)
      rw[zI (dne _ _ h6)]
      exact h6
     ·rw[AE.mp hu]
      rw[zI (dne e _ ze)]
      exact ze
   ·rintro σ H3 ⟨x6,x7,hs',rfl,s3,hl3,eh',hh'⟩
    refine⟨_,_,_,hs',rfl,s3,hl3,?_,hh'⟩
    rw[eh',eh,take_snoc hz,AL,BG]
    simp
  ·rintro σ H2 ⟨x5,x6,x7,hs,rfl,s2,hl2,eh,hh⟩
   unfold JS at eh
   rw[AB,Ae] at eh
   refine⟨_,rfl,lo,_,_,_,_,_,hs,rfl,s1.trans s2,hl2,?_,?_⟩
   ·rw[eh,es]
    rfl
   ·rw[take_snoc hy]
    exact hh
 ·rintro σ H1 ⟨fl,x3,x4,x5,x6,x7,gs,rfl,s1,hf,es,hg⟩
  rw[AB] at es hg
  rw[Ae] at hg
  exact⟨_,rfl,q fl gs H1 s1 hf es hg⟩
abbrev Zm:Stmt:=top 42
theorem jk:zC ["_law_saying_here", "_law_found", "_law_part"] ["_law_saying_here"] (zo Zm):=⟨rfl,rfl,rfl,by decide +kernel,rfl,by decide +kernel,by decide +kernel⟩
theorem wA {P:Program} {w:World} {K:PySem.W.Frag} {mg:Str->Option Value} {base:Heap} {f:Addr} {fd:FuncData} (F:Fun K "_law_letters" "_law_letters" Zm f fd) (gb:Gb mg) (j:Nat) (d_law_letters:Def P w K mg base (1+j) "_law_letters" ["_law_saying_here"] (spOfL j)):jt P w K mg base CX0 (1+j+1) f fd ["_law_saying_here"] (spOfL (j+1)):=by
 refine F.ok jk (fun vs H Q E h=>?_) (fun cdv A outer s H vs Q E hr h=>?_)
 ·obtain⟨sv,s,rfl,_⟩:=h
  rfl
 obtain⟨sv,s,rfl,ih,h63,hj,q⟩:=h
 refine⟨_,(@zh _ _ _ _ _ (@qL _ _ _ _ _ _ _ _ (@Zp _ _ _ (@zA _ _ _ _ _ _ _ _ _ (@ZK _ K rfl) rfl gb.isinstance ju (@zd _ _ _ _ _ (@pw _ 0 _ _ rfl rfl) (@zd _ _ _ _ _ (@w8 _ _ (.ty "str") _ _ rfl gb.str Xv rfl (by decide) (by decide)) (@zg _) rfl) rfl) (by decide) (by decide) rfl rfl) (by intro _;rfl)) (@zk _ _ _ (@zB _ _ _ _ (@zN _ _ _ _ (@zd _ _ _ _ _ (@pw _ 0 _ _ rfl rfl) (@zg _) rfl)))) (@zO _)) (@zh _ _ _ _ _ (@zr _ _ 1 _ _ _ _ jk.nd rfl (Or.inl rfl) (@zN _ _ _ _ (@zg _)) rfl (by walk_at "f")) (@zh _ _ _ _ _ (@zP _ _ _ _ _ _ _ _ AU rfl (@qT _ K _ _ _ (@qN _ _ _ _ _ _ _ _ _ _ (@kslT _ K rfl) (@pw _ 0 _ _ rfl rfl) (@qS _ _ _ (@zi _ _ _ _)) (@j9 _)) rfl) (@pgl _ 2 _ _ jk.nd rfl rfl) (@zk _ _ _ (@zr _ _ 1 _ _ _ _ jk.nd rfl (Or.inl rfl) (@zy _ _ _ _ _ _ _ _ (@Jl _) (@pw _ 1 _ _ rfl rfl) (@zw _ _ _ _ _ _ _ _ _ _ _ d_law_letters hr (by omega) rfl (@zd _ _ _ _ _ (@pw _ 2 _ _ rfl rfl) (@zg _) rfl) (by decide) rfl rfl)) rfl (by walk_at "f"))) (by intro _;rfl)) (@zk _ _ _ (@zB _ _ _ _ (@pw _ 1 _ _ rfl rfl)))))),?_⟩
 cases hs:s.isL with
 | true=>
  have ev:=ih.letter hs
  refine⟨_,rfl,_,_,_,true,rfl,by rw[ev];exact .str _,Ql "str",_,rfl,W5 ⟨_,rfl,zq (by show 1<=1000;decide),fun l hl=>?_⟩⟩
  refine q l _ (zf hl _) hl ?_
  rw[ze,ev]
  cases s with
  | ltr x=>rfl
  | _=>cases hs
 | false=>
  obtain⟨t,us,ev,ht,hP⟩:=ih.node hs
  have hul:=Al hP
  have a2:=Sy.ps_le s
  have hls:=ZB s
  rw[ev]
  refine⟨_,rfl,_,_,_,false,rfl,.tup ht,yT (K:=K) (.tup []),_,rfl,WP ?_⟩
  refine⟨zq (by show 0<=1000;decide),fun l0 hl0=>?_⟩
  have n1:=zf hl0 (.lst [])
  refine⟨_,rfl,_,rfl,?_⟩
  refine yw (n1 _ _ ht) fun t2 H2 s2 ht2=>?_
  rw[Qy (by simp)] at ht2
  have S2:=n1.trans s2
  refine⟨t2,rfl,⟨_,SqT.of ht2⟩,?_⟩
  refine jU (xs:=us) (fun i σ H'=>(∃ l x2,σ=[some (.ref t),some (.ref l),x2]/\H l=none/\H' l=some (.lst (((s.ps.take i).flatMap Sy.lets).map V.str)))/\zD H2 H') ⟨⟨l0,_,rfl,hl0,s2 _ _ ze⟩,zD.refl _⟩ (fun i σ H' _ h=>SqT.of (h.2 _ _ ht2)) ?_ ?_
  ·rintro i x σ H3 hx ⟨⟨l,x2,rfl,hl,hl3⟩,s3⟩
   have hi:i < us.length:=(AC.mp hx).1
   have ha:s.ps[i]? = some s.ps[i]:=AG (by omega)
   generalize s.ps[i]=b at ha
   have hib:=Paired.at hP i _ _ ha hx
   have hbm:=AI ha
   have hdb:=Sy.dp_lt hbm
   have hsb:=sz_part hbm
   have hlb:=ZB b
   have ft:=zat s.ps Sy.lets i
   rw[<- zas hs] at ft
   have S3:=S2.trans s3
   match j,hj,d_law_letters with
   | 0,hj,_=>exact absurd hj (by omega)
   | j+1,hj,_=>
   refine⟨_,rfl,_,rfl,x,b,rfl,hib.same S3,by omega,by omega,fun l2 H4 s4 hn2 hl2=>⟨l,l2,_,_,rfl,rfl,s4 _ _ hl3,hl2,by rw[AB,AB];exact zq (by omega),fun l3 hl3'=>?_⟩⟩
   refine⟨⟨l3,some x,rfl,(S3.trans s4).free hl3',?_⟩,(s3.trans s4).trans (zf hl3' _)⟩
   rw[ze,take_snoc ha,BG,AL]
   simp
  ·rintro σ H3 ⟨⟨l,x2,rfl,hl,hl3⟩,s3⟩
   rw[<- hul,Ae,<- zas hs] at hl3
   exact⟨_,rfl,q l H3 (S2.trans s3) hl hl3⟩
abbrev jg:Stmt:=top 43
theorem qH:zC ["_law_sayings", "_law_found", "_law_saying_here"] ["_law_sayings"] (zo jg):=⟨rfl,rfl,rfl,by decide +kernel,rfl,by decide +kernel,by decide +kernel⟩
theorem QG {P:Program} {w:World} {K:PySem.W.Frag} {mg:Str->Option Value} {base:Heap} {f:Addr} {fd:FuncData} (F:Fun K "_law_all_letters" "_law_all_letters" jg f fd) (gb:Gb mg) (d_law_letters:Def P w K mg base 13 "_law_letters" ["_law_saying_here"] (spOfL 12)):jt P w K mg base CX0 14 f fd ["_law_sayings"] YX:=by
 refine F.ok qH (fun vs H Q E h=>?_) (fun cdv A outer s H vs Q E hr h=>?_)
 ·obtain⟨l,ps,L0,rfl,_⟩:=h
  rfl
 obtain⟨l,ps,L0,rfl,hl,p14,hps,l5,q⟩:=h
 refine⟨_,(@zh _ _ _ _ _ (@zr _ _ 1 _ _ _ _ qH.nd rfl (Or.inl rfl) (@zN _ _ _ _ (@zg _)) rfl (by walk_at "f")) (@zh _ _ _ _ _ (@zP _ _ _ _ _ _ _ _ AU rfl (@zE _ K _ _ _ (@pw _ 0 _ _ rfl rfl) rfl) (@pgl _ 2 _ _ qH.nd rfl rfl) (@zk _ _ _ (@zr _ _ 1 _ _ _ _ qH.nd rfl (Or.inl rfl) (@zy _ _ _ _ _ _ _ _ (@Jl _) (@pw _ 1 _ _ rfl rfl) (@zw _ _ _ _ _ _ _ _ _ _ _ d_law_letters hr (by omega) rfl (@zd _ _ _ _ _ (@pw _ 2 _ _ rfl rfl) (@zg _) rfl) (by decide) rfl rfl)) rfl (by walk_at "f"))) (by intro _;rfl)) (@zk _ _ _ (@zB _ _ _ _ (@zA _ _ _ _ _ _ _ _ _ (@Qx _ rfl) rfl gb.sorted Qo (@zd _ _ _ _ _ (@zG _ _ _ _ _ _ _ _ _ (@wT _ K rfl rfl) rfl gb.set YE (@zd _ _ _ _ _ (@pw _ 1 _ _ rfl rfl) (@zg _) rfl) (by decide) (by decide) rfl rfl) (@zg _) rfl) (by decide) (by decide) rfl rfl))))),?_⟩
 refine⟨zq (by show 0<=1000;decide),fun la hla=>?_⟩
 have n0:=zf hla (.lst [])
 refine⟨_,rfl,l,rfl,⟨_,SqL.of (n0 _ _ hl)⟩,?_⟩
 refine qf (xs:=ps.map Prod.fst) (fun i σ H'=>(∃ la x2,σ=[some (.ref l),some (.ref la),x2]/\H' la=some (.lst (((ps.take i).flatMap fun z=>z.2.lets).map V.str)))/\zD H H') ⟨⟨la,_,rfl,ze⟩,n0⟩ (fun i σ H' _ h=>SqL.of (h.2 _ _ hl)) ?_ ?_
 ·rintro i x σ H1 hx ⟨⟨la,x2,rfl,hy⟩,s1⟩
  rw[AJ] at hx
  obtain⟨z,hzi,rfl⟩:=AX.mp hx
  obtain⟨dz,z63,iz,_⟩:=hps z (AI hzi)
  have hb:=ZC (ps.take i) fun y hy=>(hps y (CA hy)).2.1
  have hzl:=(AC.mp hzi).1
  have hsz:=ZB z.2
  rw[An] at hb
  refine⟨_,rfl,_,rfl,z.1,z.2,rfl,iz.same s1,z63,(show _<=11 by omega),fun l2 H2 s2 _ hl2=>?_⟩
  refine⟨la,l2,_,_,rfl,rfl,s2 _ _ hy,hl2,by rw[AB,AB];exact zq (by omega),fun l3 hl3=>?_⟩
  refine⟨⟨l3,_,rfl,?_⟩,s1.trans (s2.trans (zf hl3 _))⟩
  rw[ze,take_snoc hzi,BG,AL]
  simp only[List.flatMap_cons,List.flatMap_nil,List.append_nil]
 ·rintro σ H1 ⟨⟨la,x2,rfl,hy⟩,s1⟩
  rw[AB,Ae] at hy
  have hb:=ZC ps fun y hy=>(hps y hy).2.1
  refine⟨_,rfl,la,_,rfl,SqL.of hy,by omega,fun sa hsa=>?_⟩
  have hm:∀ x,x ∈ we (ps.flatMap fun z=>z.2.lets) ↔ ∃ z ∈ ps,x ∈ z.2.lets:=fun x=>by
   rw[YN,BN]
  refine⟨sa,_,rfl,ze,QP _,?_,fun k ss hk pm so=>q k ss _ (s1.trans ((zf hsa _).trans (zf hk _))) ze (pm.nodup_iff.mpr (QP _)) (fun x=>by rw[pm.mem_iff,hm])⟩
  have:=jE _ L0 (QP (ps.flatMap fun z=>z.2.lets)) fun x hx=>by
   obtain⟨z,hzm,hzx⟩:=(hm x).mp hx
   exact (hps z hzm).2.2.2 x hzx
  omega
abbrev QV:Stmt:=top 44
theorem J9:zC ["_law_table_here", "_law_premises", "_law_saying_here", "_law_grading", "_law_premise"] ["_law_table_here", "_law_premises", "_law_saying_here", "_law_grading"] (zo QV):=⟨rfl,rfl,rfl,by decide +kernel,rfl,by decide +kernel,by decide +kernel⟩
theorem Yr {P:Program} {w:World} {K:PySem.W.Frag} {mg:Str->Option Value} {base:Heap} {f:Addr} {fd:FuncData} (F:Fun K "_law_bars" "_law_bars" QV f fd) (gb:Gb mg) (d_law_grade:Def P w K mg base 15 "_law_grade" ["_law_table_here", "_law_saying_here", "_law_grading"] (JQ 12)):jt P w K mg base CX0 16 f fd ["_law_table_here", "_law_premises", "_law_saying_here", "_law_grading"] Yi:=by
 refine F.ok J9 (fun vs H Q E h=>?_) (fun cdv A outer s H vs Q E hr h=>?_)
 ·obtain⟨v,pl,sv,g,T,L,ps,S,γ,rfl,_⟩:=h
  rfl
 obtain⟨v,pl,sv,g,T,L,ps,S,γ,rfl,ak,hg,q⟩:=h
 refine⟨_,(@zh _ _ _ _ _ (@zP _ _ _ _ _ _ _ _ AU rfl (@zE _ K _ _ _ (@pw _ 1 _ _ rfl rfl) rfl) (@pgl _ 4 _ _ J9.nd rfl rfl) (@zk _ _ _ (@qL _ _ _ _ _ _ _ _ (@zF _ _ _ _ _ _ _ _ (@Qn _ K rfl) (@zw _ _ _ _ _ _ _ _ _ _ _ d_law_grade hr (by omega) rfl (@zd _ _ _ _ _ (@pw _ 0 _ _ rfl rfl) (@zd _ _ _ _ _ (@pw _ 4 _ _ rfl rfl) (@zd _ _ _ _ _ (@pw _ 3 _ _ rfl rfl) (@zg _) rfl) rfl) rfl) (by decide) rfl rfl) (@zv _ _ _ _ _ _ _ (@zn _ K rfl) (@pw _ 0 _ _ rfl rfl) (@zi _ _ _ _) (fun _ _=>rfl)) (by with_unfolding_all rfl)) (@zk _ _ _ (@zB _ _ _ _ (@Jh _ _ _ _))) (@zO _))) (by intro _;rfl)) (@zk _ _ _ (@zB _ _ _ _ (@jp _ _ _ _ _ _ _ _ (@Qn _ K rfl) (@zw _ _ _ _ _ _ _ _ _ _ _ d_law_grade hr (by omega) rfl (@zd _ _ _ _ _ (@pw _ 0 _ _ rfl rfl) (@zd _ _ _ _ _ (@pw _ 2 _ _ rfl rfl) (@zd _ _ _ _ _ (@pw _ 3 _ _ rfl rfl) (@zg _) rfl) rfl) rfl) (by decide) rfl rfl) (@zv _ _ _ _ _ _ _ (@zn _ K rfl) (@pw _ 0 _ _ rfl rfl) (@zi _ _ _ _) (fun _ _=>rfl)) (by with_unfolding_all rfl))))),?_⟩
 obtain⟨a,w0,c0,vs,rfl,h1,h2,h3,h4⟩:=id ak.tb
 refine⟨_,rfl,pl,rfl,⟨_,SqL.of ak.hp⟩,?_⟩
 refine qf (xs:=ps.map Prod.fst) (fun i σ H'=>(∃ x4,σ=[some (.ref a),some (.ref pl),some sv,some (.ref g),x4])/\zD H H'/\∀ z ∈ ps.take i,grT T γ z.2 ∈ T.ws) ⟨⟨_,rfl⟩,zD.refl _,fun z hz=>by cases hz⟩ (fun i σ H' _ h=>SqL.of (h.2.1 _ _ ak.hp)) ?_ ?_
 ·rintro i x σ H1 hx ⟨⟨x4,rfl⟩,s1,hw⟩
  rw[AJ] at hx
  obtain⟨z,hzi,rfl⟩:=AX.mp hx
  have hzm:=AI hzi
  obtain⟨k1,k2,k3,k4⟩:=ak.ps z hzm
  refine⟨_,rfl,_,rfl,_,rfl,.ref a,z.1,g,z.2,T,L,γ,rfl,ak.tb.same s1,ak.gt,ak.nd,k4.same s1,k1,hg.same s1,(show _<=11 by omega),fun H2 s2=>?_⟩
  refine⟨_,rfl,.inr (.inl ⟨a,_,1,_,rfl,rfl,SqT.of ((s1.trans s2) _ _ h1),rfl,w0,_,rfl,.inr (SqT.of ((s1.trans s2) _ _ h2)),rfl,qk _,_,rfl,?_⟩)⟩
  rw[if_pos rfl,jq]
  by_cases hz:grT T γ z.2 ∈ T.ws
  ·rw[Ai hz]
   refine WP ⟨⟨_,rfl⟩,s1.trans s2,fun y hy=>?_⟩
   rw[take_snoc hzi] at hy
   rcases AQ.mp hy with hy | hy
   ·exact hw y hy
   ·rw[AE.mp hy];exact hz
  ·rw[Aw hz]
   refine W5 ?_
   have q2:=q _ (s1.trans s2)
   have e:barB T γ (ps.map Prod.snd) S=false:=by
    rw[DT]
    intro h
    exact hz ((Wz.mp h).1 _ (AM.mpr ⟨z,hzm,rfl⟩))
   rw[e] at q2
   exact q2
 ·rintro σ H1 ⟨⟨x4,rfl⟩,s1,hw⟩
  rw[AB,Ae] at hw
  refine⟨_,rfl,_,rfl,_,rfl,.ref a,sv,g,S,T,L,γ,rfl,ak.tb.same s1,ak.gt,ak.nd,ak.sv.same s1,ak.gs,hg.same s1,(show _<=11 from Ab ak.sd (by decide)),fun H2 s2=>?_⟩
  refine⟨_,rfl,.inr (.inl ⟨a,_,1,_,rfl,rfl,SqT.of ((s1.trans s2) _ _ h1),rfl,w0,_,rfl,.inr (SqT.of ((s1.trans s2) _ _ h2)),rfl,qk _,?_⟩)⟩
  rw[if_pos rfl,jq]
  have q2:=q _ (s1.trans s2)
  unfold barB at q2
  rw[show ((ps.map Prod.snd).all fun p=>decide (grT T γ p ∈ T.ws))=true from A0.mpr fun p hp=>by
   obtain⟨z,hz,rfl⟩:=AM.mp hp
   exact Ai (hw z hz),Bool.true_and] at q2
  exact q2
abbrev jz:Stmt:=top 45
theorem Z5:zC ["_law_table_here", "_law_premises", "_law_saying_here", "_law_letters_here"] ["_law_table_here", "_law_premises", "_law_saying_here"] (zo jz):=⟨rfl,rfl,rfl,by decide +kernel,rfl,by decide +kernel,by decide +kernel⟩
theorem wB {P:Program} {w:World} {K:PySem.W.Frag} {mg:Str->Option Value} {base:Heap} {f:Addr} {fd:FuncData} (F:Fun K "_law_follows" "_law_follows" jz f fd) (gb:Gb mg) (d_law_all_letters:Def P w K mg base 14 "_law_all_letters" ["_law_sayings"] YX) (d_law_gradings:Def P w K mg base 1 "_law_gradings" ["_law_many", "_law_letters_here"] WC) (d_law_bars:Def P w K mg base 16 "_law_bars" ["_law_table_here", "_law_premises", "_law_saying_here", "_law_grading"] Yi):jt P w K mg base CX0 20 f fd ["_law_table_here", "_law_premises", "_law_saying_here"] YY:=by
 refine F.ok Z5 (fun vs H Q E h=>?_) (fun cdv A outer s H vs Q E hr h=>?_)
 ·obtain⟨v,pl,sv,T,L,ps,S,rfl,_⟩:=h
  rfl
 obtain⟨v,pl,sv,T,L,ps,S,rfl,ak,p125,p13,q1,q0⟩:=h
 have nd0:(["_law_one", "_law_table_here", "_law_premises", "_law_saying_here"]:List Str).Nodup:=by decide +kernel
 refine⟨_,(@zh _ _ _ _ _ (@zr _ _ 3 _ _ _ _ Z5.nd rfl (Or.inl rfl) (@zw _ _ _ _ _ _ _ _ _ _ _ d_law_all_letters hr (by omega) rfl (@zd _ _ _ _ _ (@zy _ _ _ _ _ _ _ _ (@Jl _) (@pw _ 1 _ _ rfl rfl) (@zN _ _ _ _ (@zd _ _ _ _ _ (@pw _ 2 _ _ rfl rfl) (@zg _) rfl))) (@zg _) rfl) (by decide) rfl rfl) rfl (by walk_at "f")) (@zk _ _ _ (@zB _ _ _ _ (@pe_not _ _ _ _ (@zA _ _ _ _ _ _ _ _ _ (@JG _ K rfl rfl) rfl gb.any zad (@zd _ _ _ _ _ (@qm _ ["_law_one", "_law_table_here", "_law_premises", "_law_saying_here"] [none,some 0,some 1,some 2] _ _ _ _ _ _ _ _ _ _ (by exact (show zS ["_law_table_here", "_law_premises", "_law_saying_here", "_law_letters_here"] (zo jz) ["_law_one", "_law_table_here", "_law_premises", "_law_saying_here"] [none,some 0,some 1,some 2] _ from⟨rfl,by decide +kernel,by decide +kernel,by decide +kernel,by decide +kernel,rfl,by decide +kernel⟩)) rfl (@zE _ K _ _ _ (@zw _ _ _ _ _ _ _ _ _ _ _ d_law_gradings hr (by omega) rfl (@zd _ _ _ _ _ (@zv _ _ _ _ _ _ _ (@zn _ K rfl) (@pw _ 0 _ _ rfl rfl) (@zi _ _ _ _) (fun _ _=>rfl)) (@zd _ _ _ _ _ (@pw _ 3 _ _ rfl rfl) (@zg _) rfl) rfl) (by decide) rfl rfl) rfl) (fun _ _ _ _=>(@pgl _ 0 _ _ nd0 rfl rfl)) (fun _ _ _ _=>(@qW _)) (fun _ _ _ _=>(@zw _ _ _ _ _ _ _ _ _ _ _ d_law_bars hr (by omega) rfl (@zd _ _ _ _ _ (@pw _ 1 _ _ rfl rfl) (@zd _ _ _ _ _ (@pw _ 2 _ _ rfl rfl) (@zd _ _ _ _ _ (@pw _ 3 _ _ rfl rfl) (@zd _ _ _ _ _ (@pw _ 0 _ _ rfl rfl) (@zg _) rfl) rfl) rfl) rfl) (by decide) rfl rfl)) (by intro _;rfl)) (@zg _) rfl) (by decide) (by decide) rfl rfl))))),?_⟩
 obtain⟨a,w0,c0,vs0,rfl,h1,h2,h3,h4⟩:=id ak.tb
 have m1:=ak.gt.m1
 have m9:=ak.gt.m9
 refine⟨_,rfl,_,rfl,zq (by show 1<=1000;decide),fun l2 hl2=>?_⟩
 have n2:=zf hl2 (.lst [sv])
 refine⟨pl,l2,_,_,rfl,rfl,n2 _ _ ak.hp,ze,by rw[AB];exact zq (by show ps.length+1<=1000;omega),fun l3 hl3=>?_⟩
 have n3:=zf hl3 (.lst (ps.map Prod.fst++[sv]))
 have eq3:(ps++[(sv,S)]).map Prod.fst=ps.map Prod.fst++[sv]:=by rw[AL];rfl
 have hl3':=@ze (upd H l2 (.lst [sv])) l3 (.lst (ps.map Prod.fst++[sv]))
 rw[<- eq3] at hl3' n3 ⊢
 have S3:=n2.trans n3
 generalize upd (upd H l2 (.lst [sv])) l3 (.lst ((ps++[(sv,S)]).map Prod.fst))=H3 at *
 have allq:∀ z ∈ ps++[(sv,S)],GSt T L z.2/\z.2.dp<=10/\z.2.sz<=63/\jL H3 z.2 z.1:=fun z hz=>by
  rcases AQ.mp hz with hz | hz
  ·obtain⟨k1,k2,k3,k4⟩:=ak.ps z hz
   exact⟨k1,k2,k3,k4.same S3⟩
  ·rw[AE.mp hz]
   exact⟨ak.gs,ak.sd,ak.sz,ak.sv.same S3⟩
 refine⟨l3,ps++[(sv,S)],L,rfl,hl3',by rw[AH];show ps.length+1<=14;omega,(fun z hz=>⟨(allq z hz).2.1,(allq z hz).2.2.1,(allq z hz).2.2.2,fun x hx=>(allq z hz).1.lets_in hx⟩),ak.ln,fun k M H5 s5 hk nd hm=>?_⟩
 have S5:=S3.trans s5
 have hm2:∀ x,x ∈ M ↔ (∃ z ∈ ps,x ∈ z.2.lets)\/x ∈ S.lets:=fun x=>by
  rw[hm]
  constructor
  ·rintro⟨z,hz,hx⟩
   rcases AQ.mp hz with hz | hz
   ·exact .inl ⟨z,hz,hx⟩
   ·rw[AE.mp hz] at hx
    exact .inr hx
  ·rintro (⟨z,hz,hx⟩ | hx)
   ·exact⟨z,Ah _ hz,hx⟩
   ·exact⟨(sv,S),Aa _ (AE.mpr rfl),hx⟩
 have hML:∀ x ∈ M,x ∈ L:=fun x hx=>by
  rcases (hm2 x).mp hx with ⟨z,hz,hx⟩ | hx
  ·exact (ak.ps z hz).1.lets_in hx
  ·exact ak.gs.lets_in hx
 have hMl:=jE M L nd hML
 have hM5:M.length<=5:=Ab hMl ak.ln
 have pM:T.m ^ M.length<=125:=Ab (Cb m1 hMl) p125
 have akM:=ak.lets hML (fun z hz x hx=>(hm2 x).mpr (.inl ⟨z,hz,hx⟩)) (fun x hx=>(hm2 x).mpr (.inr hx)) hM5
 refine⟨_,rfl,.inr (.inl ⟨a,_,0,_,rfl,rfl,SqT.of (S5 _ _ h1),rfl,_,rfl,k,T.m,M,rfl,m1,m9,hk,nd,hM5,pM,fun fl gs H6 s6 hfl es hg=>?_⟩)⟩
 have S6:=S5.trans s6
 have gsl:gs.length=T.m ^ M.length:=by rw[<- AB (f:=Prod.snd),es,JR]
 have rw':∀ z ∈ gs,Tn.Rw T.m M.length z.2:=fun z hz=>j6.mp (by rw[<- es];exact AM.mpr ⟨z,hz,rfl⟩)
 unfold JS at hfl
 refine⟨fl,rfl,⟨_,SqL.of hfl⟩,fun D hD=>?_⟩
 refine jv gs (fun z=>V.ref z.1) (fun z=>.bl (barB T (zaw M z.2) (ps.map Prod.snd) S)) hfl (by omega) hD (fun z hz H' Q' s7 q'=>?_) (fun H7 s7 hD7=>?_)
 ·have S7:=S6.trans s7
  exact⟨_,rfl,_,rfl,_,rfl,_,rfl,.ref a,pl,sv,z.1,T,M,ps,S,zaw M z.2,rfl,akM.same S7,yx (s7 _ _ (hg z hz)) (rw' z hz) m1,fun H8 s8=>q' H8 s8⟩
 rw[Yf] at hD7
 have S7:=S6.trans s7
 refine⟨D,_,rfl,SqL.of hD7,?_⟩
 by_cases hf:Fol T (ps.map Prod.snd) S
 ·have e:(gs.map fun z=>barB T (zaw M z.2) (ps.map Prod.snd) S).any id=false:=by
   rw[List.any_eq_false]
   intro b hb
   obtain⟨z,hz,rfl⟩:=AM.mp hb
   intro h
   exact hf (zaw M z.2) (fun x=>Yj (rw' z hz) m1 x) (Wz.mp h)
  rw[e]
  exact⟨_,rfl,q1 hf H7 S7⟩
 ·have e:(gs.map fun z=>barB T (zaw M z.2) (ps.map Prod.snd) S).any id=true:=by
   unfold Fol at hf
   obtain⟨γ,hγ⟩:=Classical.not_forall.mp hf
   obtain⟨gd,hb⟩:=Classical.not_imp.mp hγ
   have bar:=Classical.not_not.mp hb
   have hr:M.map γ ∈ gs.map Prod.snd:=by
    rw[es]
    exact j6.mpr ⟨by rw[AB],fun x hx=>by
     obtain⟨y,_,rfl⟩:=AM.mp hx
     exact gd y⟩
   obtain⟨z,hz,ez⟩:=AM.mp hr
   refine Cj.mpr ⟨_,AM.mpr ⟨z,hz,rfl⟩,?_⟩
   refine Wz.mpr ⟨fun p hp=>?_,?_⟩
   ·obtain⟨y,hy,rfl⟩:=AM.mp hp
    rw[Zz (δ:=γ) fun x hx=>by rw[ez,JT ((hm2 x).mpr (.inl ⟨y,hy,hx⟩))]]
    exact bar.1 _ hp
   ·rw[Zz (δ:=γ) fun x hx=>by rw[ez,JT ((hm2 x).mpr (.inr hx))]]
    exact bar.2
  rw[e]
  exact⟨_,rfl,q0 hf H7 S7⟩
abbrev QH:Stmt:=top 46
theorem w6:zC ["_law_table_here", "_law_step", "_law_one", "_law_cells_here"] ["_law_table_here", "_law_step", "_law_one"] (zo QH):=⟨rfl,rfl,rfl,by decide +kernel,rfl,by decide +kernel,by decide +kernel⟩
theorem xQ {P:Program} {w:World} {K:PySem.W.Frag} {mg:Str->Option Value} {base:Heap} {f:Addr} {fd:FuncData} (F:Fun K "_law_led" "_law_led" QH f fd) (gb:Gb mg):jt P w K mg base CX0 1 f fd ["_law_table_here", "_law_step", "_law_one"] zaO:=by
 refine F.ok w6 (fun vs H Q E h=>?_) (fun cdv A outer s H vs Q E hr h=>?_)
 ·obtain⟨v,t,T,s,x,rfl,_⟩:=h
  rfl
 obtain⟨v,t,T,s,x,rfl,ia,gT,nT,hs,ht,hx,q⟩:=h
 have nd0:(["_law_row", "_law_step"]:List Str).Nodup:=by decide +kernel
 refine⟨_,(@zh _ _ _ _ _ (@zr _ _ 3 _ _ _ _ w6.nd rfl (Or.inl rfl) (@zv _ _ _ _ _ _ _ (@zn _ K rfl) (@qm _ ["_law_row", "_law_step"] [none,some 1] _ _ _ _ _ _ _ _ _ _ (by exact (show zS ["_law_table_here", "_law_step", "_law_one", "_law_cells_here"] (zo QH) ["_law_row", "_law_step"] [none,some 1] _ from⟨rfl,by decide +kernel,by decide +kernel,by decide +kernel,by decide +kernel,rfl,by decide +kernel⟩)) rfl (@qT _ K _ _ _ (@zv _ _ _ _ _ _ _ (@zn _ K rfl) (@pw _ 0 _ _ rfl rfl) (@zi _ _ _ _) (fun _ _=>rfl)) rfl) (fun _ _ _ _=>(@pgl _ 0 _ _ nd0 rfl rfl)) (fun _ _ _ _=>(@Jn _ _ _ (@zF _ _ _ _ _ _ _ _ (@Zr _) (@zv _ _ _ _ _ _ _ (@zn _ K rfl) (@pw _ 0 _ _ rfl rfl) (@zi _ _ _ _) (fun _ _=>rfl)) (@zv _ _ _ _ _ _ _ (@zn _ K rfl) (@pw _ 1 _ _ rfl rfl) (@zi _ _ _ _) (fun _ _=>rfl)) (@zW _ _ (by decide) (by decide))))) (fun _ _ _ _=>(@zv _ _ _ _ _ _ _ (@zn _ K rfl) (@pw _ 0 _ _ rfl rfl) (@zi _ _ _ _) (fun _ _=>rfl))) (by intro _;rfl)) (@zi _ _ _ _) (fun _ _=>rfl)) rfl (by walk_at "f")) (@zh _ _ _ _ _ (@qL _ _ _ _ _ _ _ _ (@zF _ _ _ _ _ _ _ _ (@op_isN _) (@zv _ _ _ _ _ _ _ (@zn _ K rfl) (@pw _ 1 _ _ rfl rfl) (@zi _ _ _ _) (fun _ _=>rfl)) (@wC _ _ _) (@zW _ _ (by decide) (by decide))) (@zk _ _ _ (@zB _ _ _ _ (@zv _ _ _ _ _ _ _ (@zn _ K rfl) (@pw _ 3 _ _ rfl rfl) (@pw _ 2 _ _ rfl rfl) (fun _ _=>rfl)))) (@zO _)) (@zk _ _ _ (@zB _ _ _ _ (@zv _ _ _ _ _ _ _ (@zn _ K rfl) (@pw _ 3 _ _ rfl rfl) (@zv _ _ _ _ _ _ _ (@zn _ K rfl) (@zN _ _ _ _ (@zd _ _ _ _ _ (@zy _ _ _ _ _ _ _ _ (@qq _) (@zy _ _ _ _ _ _ _ _ (@js _) (@pw _ 2 _ _ rfl rfl) (@zv _ _ _ _ _ _ _ (@zn _ K rfl) (@pw _ 0 _ _ rfl rfl) (@zi _ _ _ _) (fun _ _=>rfl))) (@zv _ _ _ _ _ _ _ (@zn _ K rfl) (@pw _ 1 _ _ rfl rfl) (@zi _ _ _ _) (fun _ _=>rfl))) (@zd _ _ _ _ _ (@zy _ _ _ _ _ _ _ _ (@qq _) (@zy _ _ _ _ _ _ _ _ (@js _) (@zv _ _ _ _ _ _ _ (@zn _ K rfl) (@pw _ 1 _ _ rfl rfl) (@zi _ _ _ _) (fun _ _=>rfl)) (@zv _ _ _ _ _ _ _ (@zn _ K rfl) (@pw _ 0 _ _ rfl rfl) (@zi _ _ _ _) (fun _ _=>rfl))) (@pw _ 2 _ _ rfl rfl)) (@zg _) rfl) rfl)) (@zv _ _ _ _ _ _ _ (@zn _ K rfl) (@pw _ 1 _ _ rfl rfl) (@zi _ _ _ _) (fun _ _=>rfl)) (fun _ _=>rfl)) (fun _ _=>rfl)))))),?_⟩
 obtain⟨a,w0,c,vs,rfl,h1,h2,h3,h4⟩:=id ia
 have hvl:=h4.len
 have m9:=gT.m9
 obtain⟨cc,hcm,hcs⟩:=JX hs
 obtain⟨k,hk⟩:=Bc.mp hcm
 have hkl:=(AC.mp hk).1
 have snm:s.1=cc:=by rcases hcs with ⟨_,rfl⟩ | ⟨_,o,_,rfl | rfl⟩ <;> rfl
 obtain⟨tk,uk,ek1,ek2,ek3⟩:=h4.get hk
 refine⟨_,rfl,.inr (.inl ⟨a,_,2,_,rfl,rfl,SqT.of h1,rfl,c,rfl,⟨_,SqT.of h3⟩,fun D hD=>?_⟩)⟩
 refine Jb (xs:=vs) (fun i ys H'=>zD H H'/\ys=if k < i then [V.ref uk] else []) ⟨zf hD _,by simp⟩ (fun i ys H' h _=>SqT.of (h.1 _ _ h3)) ?_ ?_
 ·rintro i ys H1 z hz ⟨s1,rfl⟩ hD1
  have hi:i < vs.length:=(AC.mp hz).1
  have hc:T.cs[i]? = some T.cs[i]:=AG (by omega)
  generalize T.cs[i]=ci at hc
  obtain⟨t2,u,e1,e2,e3⟩:=h4.get hc
  rw[hz] at e1
  cases e1
  refine⟨_,rfl,.inr (.inl ⟨t2,_,0,_,rfl,rfl,SqT.of (s1 _ _ e2),rfl,_,rfl,.inr (.inl ⟨t,_,0,_,rfl,rfl,SqT.of (s1 _ _ ht),rfl,rfl,_,rfl,?_⟩)⟩)⟩
  by_cases hik:i=k
  ·subst hik
   rw[hk] at hc
   cases hc
   rw[hz] at ek1
   cases ek1
   rw[e2] at ek2
   cases ek2
   rw[show decide (V.str cc.nm=V.str s.1.nm)=true from Ai (by rw[snm])]
   refine W5 ⟨_,rfl,.inr (.inl ⟨_,_,2,_,rfl,rfl,SqT.of (s1 _ _ e2),rfl,?_⟩)⟩
   refine WQ hi jM hD1 (by rw[if_neg (A6 _)];exact zu (by show 0<=1000;decide)) ⟨s1.put hD,?_⟩
   rw[if_neg (A6 _),if_pos (BM _)]
   rfl
  ·rw[Aw fun e=>hik (nm_inj nT hc hk (by rw[<- snm];exact V.str.inj e))]
   refine WP (cno hi jM hD1 ⟨s1,?_⟩)
   by_cases h:k < i
   ·rw[if_pos h,if_pos (by omega)]
   ·rw[if_neg h,if_neg (by omega)]
 rintro ys H1 ⟨s1,rfl⟩ hD1
 rw[if_pos (by omega)] at hD1
 refine .inl ⟨D,_,0,_,rfl,rfl,SqL.of hD1,rfl,?_⟩
 have ht1:=s1 _ _ ht
 have h11:=s1 _ _ h1
 have hu1:=s1 _ _ ek3
 have gc:=(gT.cn cc hcm).2.2
 refine⟨_,rfl,.inr (.inl ⟨t,_,2,_,rfl,rfl,SqT.of ht1,rfl,rfl,_,rfl,?_⟩)⟩
 rcases hcs with ⟨p1,rfl⟩ | ⟨p2,o,ho,hs2⟩
 ·refine jZ (fun _=>?_) (fun z=>absurd (Ai rfl) z)
  exact⟨_,rfl,_,rfl,.inr (.inl ⟨uk,_,_,_,rfl,rfl,SqT.of hu1,Zf (by rw[gc.len,p1,Cz];exact hx),q H1 s1⟩)⟩
 ·have cl2:cc.cs.length=T.m ^ 2:=by rw[gc.len,p2]
  have eo:s.2.2=some o:=by rcases hs2 with rfl | rfl <;> rfl
  refine jZ (fun z=>absurd (Ak z) (by show ¬ nO s.2.2=V.non;rw[eo];intro h;cases h)) (fun _=>?_)
  rcases hs2 with rfl | rfl
  ·refine⟨_,rfl,_,rfl,_,rfl,.inr (.inl ⟨a,_,0,_,rfl,rfl,SqT.of h11,rfl,_,_,rfl,rfl,.inr ⟨by omega,by omega⟩,_,rfl,.inr (.inl ⟨t,_,2,_,rfl,rfl,SqT.of ht1,rfl,_,_,rfl,rfl,_,rfl,.inr (.inl ⟨t,_,2,_,rfl,rfl,SqT.of ht1,rfl,_,rfl,.inr (.inl ⟨a,_,0,_,rfl,rfl,SqT.of h11,rfl,_,_,rfl,rfl,.inr ⟨by omega,by omega⟩,_,rfl,_,_,rfl,rfl,zq (by show 2<=1000;decide),fun L2 hL2=>?_⟩)⟩)⟩)⟩)⟩
   have n2:=zf hL2 (.lst [.int ((x:Int) * (T.m:Int)+(o:Int)),.int ((o:Int) * (T.m:Int)+(x:Int))])
   exact⟨_,rfl,.inr (.inl ⟨t,_,1,_,rfl,rfl,SqT.of (n2 _ _ ht1),rfl,.inl ⟨L2,_,_,_,rfl,rfl,SqL.of ze,rfl,.inr (.inl ⟨uk,_,_,_,rfl,rfl,SqT.of (n2 _ _ hu1),at_sq cl2 hx ho,q _ (s1.trans n2)⟩)⟩⟩)⟩
  ·refine⟨_,rfl,_,rfl,_,rfl,.inr (.inl ⟨a,_,0,_,rfl,rfl,SqT.of h11,rfl,_,_,rfl,rfl,.inr ⟨by omega,by omega⟩,_,rfl,.inr (.inl ⟨t,_,2,_,rfl,rfl,SqT.of ht1,rfl,_,_,rfl,rfl,_,rfl,.inr (.inl ⟨t,_,2,_,rfl,rfl,SqT.of ht1,rfl,_,rfl,.inr (.inl ⟨a,_,0,_,rfl,rfl,SqT.of h11,rfl,_,_,rfl,rfl,.inr ⟨by omega,by omega⟩,_,rfl,_,_,rfl,rfl,zq (by show 2<=1000;decide),fun L2 hL2=>?_⟩)⟩)⟩)⟩)⟩
   have n2:=zf hL2 (.lst [.int ((x:Int) * (T.m:Int)+(o:Int)),.int ((o:Int) * (T.m:Int)+(x:Int))])
   exact⟨_,rfl,.inr (.inl ⟨t,_,1,_,rfl,rfl,SqT.of (n2 _ _ ht1),rfl,.inl ⟨L2,_,_,_,rfl,rfl,SqL.of ze,rfl,.inr (.inl ⟨uk,_,_,_,rfl,rfl,SqT.of (n2 _ _ hu1),at_sq cl2 ho hx,q _ (s1.trans n2)⟩)⟩⟩)⟩
abbrev Qi:Stmt:=top 47
theorem zR:zC ["_law_table_here", "_law_number", "_law_many", "_law_twin", "_law_wished", "_law_found", "_law_name", "_law_places", "_law_cells_here", "_law_rows", "_law_one"] ["_law_table_here", "_law_number"] (zo Qi):=⟨rfl,rfl,rfl,by decide +kernel,rfl,by decide +kernel,by decide +kernel⟩
theorem yL {P:Program} {w:World} {K:PySem.W.Frag} {mg:Str->Option Value} {base:Heap} {f:Addr} {fd:FuncData} (F:Fun K "_law_grown" "_law_grown" Qi f fd) (gb:Gb mg):jt P w K mg base CX0 1 f fd ["_law_table_here", "_law_number"] Yp:=by
 refine F.ok zR (fun vs H Q E h=>?_) (fun cdv A outer s H vs Q E hr h=>?_)
 ·obtain⟨v,T,n,rfl,_⟩:=h
  rfl
 obtain⟨v,T,n,rfl,ia,gT,nT,m4,c3,q⟩:=h
 refine⟨_,(@zh _ _ _ _ _ (@zr _ _ 2 _ _ _ _ zR.nd rfl (Or.inl rfl) (@zv _ _ _ _ _ _ _ (@zn _ K rfl) (@pw _ 0 _ _ rfl rfl) (@zi _ _ _ _) (fun _ _=>rfl)) rfl (by walk_at "f")) (@zh _ _ _ _ _ (@zr _ _ 3 _ _ _ _ zR.nd rfl (Or.inl rfl) (@zy _ _ _ _ _ _ _ _ (@qV _) (@pw _ 1 _ _ rfl rfl) (@pw _ 2 _ _ rfl rfl)) rfl (by walk_at "f")) (@zh _ _ _ _ _ (@zr _ _ 4 _ _ _ _ zR.nd rfl (Or.inl rfl) (@zy _ _ _ _ _ _ _ _ (@Wf _ K rfl) (@zv _ _ _ _ _ _ _ (@zn _ K rfl) (@pw _ 0 _ _ rfl rfl) (@zi _ _ _ _) (fun _ _=>rfl)) (@zy _ _ _ _ _ _ _ _ (@op_rep01 _ K rfl) (@qd _ _ _ _ _ (@zd _ _ _ _ _ (@pw _ 2 _ _ rfl rfl) (@zg _) rfl)) (@zG _ _ _ _ _ _ _ _ _ (@Xk _) rfl gb.int bt_int (@zd _ _ _ _ _ (@jp _ _ _ _ _ _ _ _ (@qo _ K rfl) (@pw _ 3 _ _ rfl rfl) (@zv _ _ _ _ _ _ _ (@zn _ K rfl) (@pw _ 0 _ _ rfl rfl) (@zi _ _ _ _) (fun _ _=>rfl)) (by with_unfolding_all rfl)) (@zg _) rfl) (by decide) (by decide) rfl rfl))) rfl (by walk_at "f")) (@zh _ _ _ _ _ (@zr _ _ 5 _ _ _ _ zR.nd rfl (Or.inl rfl) (@zN _ _ _ _ (@zg _)) rfl (by walk_at "f")) (@zh _ _ _ _ _ (@zP _ _ _ _ _ _ _ _ AU rfl (@qT _ K _ _ _ (@zv _ _ _ _ _ _ _ (@zn _ K rfl) (@pw _ 0 _ _ rfl rfl) (@zi _ _ _ _) (fun _ _=>rfl)) rfl) (@Z9 _ K _ _ _ _ 3 rfl (@ql _ _ _ _ _ (@pgl _ 6 _ _ zR.nd rfl rfl) (@ql _ _ _ _ _ (@pgl _ 7 _ _ zR.nd rfl rfl) (@ql _ _ _ _ _ (@pgl _ 8 _ _ zR.nd rfl rfl) (@Z6 _) rfl) rfl) rfl) rfl rfl rfl) (@zh _ _ _ _ _ (@zr _ _ 9 _ _ _ _ zR.nd rfl (Or.inl rfl) (@zN _ _ _ _ (@zd _ _ _ _ _ (@pw _ 8 _ _ rfl rfl) (@zg _) rfl)) rfl (by walk_at "f")) (@zh _ _ _ _ _ (@qL _ _ _ _ _ _ _ _ (@zF _ _ _ _ _ _ _ _ (@Zr _) (@pw _ 7 _ _ rfl rfl) (@zi _ _ _ _) (@zW _ _ (by decide) (by decide))) (@zk _ _ _ (@zr _ _ 9 _ _ _ _ zR.nd rfl (Or.inl rfl) (@zN _ _ _ _ (@zd _ _ _ _ _ (@pw _ 8 _ _ rfl rfl) (@zd _ _ _ _ _ (@qd _ _ _ _ _ (@zd _ _ _ _ _ (@zv _ _ _ _ _ _ _ (@zn _ K rfl) (@pw _ 8 _ _ rfl rfl) (@pw _ 3 _ _ rfl rfl) (fun _ _=>rfl)) (@zg _) rfl)) (@zg _) rfl) rfl)) rfl (by walk_at "f"))) (@zO _)) (@zh _ _ _ _ _ (@qL _ _ _ _ _ _ _ _ (@zF _ _ _ _ _ _ _ _ (@Zr _) (@pw _ 7 _ _ rfl rfl) (@zi _ _ _ _) (@zW _ _ (by decide) (by decide))) (@zh _ _ _ _ _ (@zr _ _ 9 _ _ _ _ zR.nd rfl (Or.inl rfl) (@zN _ _ _ _ (@zg _)) rfl (by walk_at "f")) (@zk _ _ _ (@zP _ _ _ _ _ _ _ _ AU rfl (@zE _ K _ _ _ (@zy _ _ _ _ _ _ _ _ (@Jl _) (@zG _ _ _ _ _ _ _ _ _ (@QK _ rfl) rfl gb.list Z7 (@zd _ _ _ _ _ (@XD _ _ _ _ _ rfl gb.range (@zd _ _ _ _ _ (@pw _ 2 _ _ rfl rfl) (@zg _) rfl) rfl) (@zg _) rfl) (by decide) (by decide) rfl rfl) (@zN _ _ _ _ (@zd _ _ _ _ _ (@pw _ 3 _ _ rfl rfl) (@zg _) rfl))) rfl) (@pgl _ 10 _ _ zR.nd rfl rfl) (@zk _ _ _ (@qi _ _ _ _ (@qE _ K _ _ _ _ _ _ _ _ _ _ _ Ac As Ar (@zX _) (@pw _ 9 _ _ rfl rfl) (@zd _ _ _ _ _ (@zy _ _ _ _ _ _ _ _ (@Wf _ K rfl) (@qN _ _ _ _ _ _ _ _ _ _ (@kslT _ K rfl) (@pw _ 8 _ _ rfl rfl) (@qS _ _ _ (@zy _ _ _ _ _ _ _ _ (@js _) (@pw _ 10 _ _ rfl rfl) (@pw _ 2 _ _ rfl rfl))) (@qS _ _ _ (@zy _ _ _ _ _ _ _ _ (@qq _) (@zy _ _ _ _ _ _ _ _ (@js _) (@pw _ 10 _ _ rfl rfl) (@pw _ 2 _ _ rfl rfl)) (@pw _ 2 _ _ rfl rfl)))) (@qd _ _ _ _ _ (@zd _ _ _ _ _ (@zv _ _ _ _ _ _ _ (@zn _ K rfl) (@pw _ 8 _ _ rfl rfl) (@zy _ _ _ _ _ _ _ _ (@qq _) (@zy _ _ _ _ _ _ _ _ (@js _) (@pw _ 10 _ _ rfl rfl) (@pw _ 2 _ _ rfl rfl)) (@pw _ 3 _ _ rfl rfl)) (fun _ _=>rfl)) (@zg _) rfl))) (@zg _) rfl) rfl rfl rfl rfl rfl rfl) rfl)) (by intro _;rfl)))) (@zO _)) (@zk _ _ _ (@qi _ _ _ _ (@qE _ K _ _ _ _ _ _ _ _ _ _ _ Ac As Ar (@zX _) (@pw _ 5 _ _ rfl rfl) (@zd _ _ _ _ _ (@qd _ _ _ _ _ (@zd _ _ _ _ _ (@pw _ 6 _ _ rfl rfl) (@zd _ _ _ _ _ (@pw _ 7 _ _ rfl rfl) (@zd _ _ _ _ _ (@zA _ _ _ _ _ _ _ _ _ (@xG _ K rfl rfl) rfl gb.sum bt_sum (@zd _ _ _ _ _ (@pw _ 9 _ _ rfl rfl) (@zd _ _ _ _ _ (@qd _ _ _ _ _ (@zg _)) (@zg _) rfl) rfl) (by decide) (by decide) rfl rfl) (@zg _) rfl) rfl) rfl)) (@zg _) rfl) rfl rfl rfl rfl rfl rfl) rfl))))) (by intro _;rfl)) (@zk _ _ _ (@zB _ _ _ _ (@qd _ _ _ _ _ (@zd _ _ _ _ _ (@zy _ _ _ _ _ _ _ _ (@qq _) (@pw _ 2 _ _ rfl rfl) (@zi _ _ _ _)) (@zd _ _ _ _ _ (@pw _ 4 _ _ rfl rfl) (@zd _ _ _ _ _ (@zG _ _ _ _ _ _ _ _ _ (@zL _ K rfl) rfl gb.tuple qO (@zd _ _ _ _ _ (@pw _ 5 _ _ rfl rfl) (@zg _) rfl) (by decide) (by decide) rfl rfl) (@zg _) rfl) rfl) rfl))))))))),?_⟩
 obtain⟨a,w0,c0,vs0,rfl,h1,h2,h3,h4⟩:=id ia
 have m1:=gT.m1
 have hvl:=h4.len
 refine⟨_,rfl,.inr (.inl ⟨a,_,0,_,rfl,rfl,SqT.of h1,rfl,?_⟩)⟩
 refine⟨_,rfl,_,rfl,_,_,rfl,rfl,(show (0:Int) < (T.m:Int) by omega),?_⟩
 obtain⟨w,ew,hw⟩:∃ w,w=n % T.m/\w < T.m:=⟨_,rfl,Cc _ m1⟩
 have ew2:V.int ((n:Int) % (T.m:Int))=nV w:=by rw[ew];rfl
 dsimp only
 rw[ew2]
 refine hide (R:=?R1) (D:=?D1) (P:=fun R D=>∀ (H2:Hp) (tw:Addr) (ws:List Nat),zD H H2->H2 tw=some (.tup (ws.map nV))->ws.Pairwise (· < ·)->(∀ x ∈ ws,x < T.m+1)->R D [some (.ref a),some (nV n),some (nV T.m),some (nV w),some (.ref tw),none,none,none,none,none,none] H2) (fun rest1=>?main) ?r1
 case main=>
  refine⟨_,rfl,.inr (.inl ⟨a,_,1,_,rfl,rfl,SqT.of h1,rfl,_,rfl,zq (by show 1<=1000;decide),fun t1 ht1=>?_⟩)⟩
  have n1:=zf ht1 (.tup [nV T.m])
  have wl:=ws_len gT
  refine⟨_,rfl,_,rfl,.inr (.inl ⟨a,_,1,_,rfl,rfl,SqT.of (n1 _ _ h1),rfl,w0,_,rfl,.inr (SqT.of (n1 _ _ h2)),rfl,qk _,.inr ⟨_,rfl,?_⟩⟩)⟩
  rw[if_neg AS,jq]
  by_cases hwm:w ∈ T.ws
  ·rw[Ai hwm]
   refine⟨t1,_,rfl,SqT.of ze,.inl ⟨rfl,?_⟩⟩
   refine JP (n1 _ _ h2) ze (by rw[AB];show T.ws.length+1<=1000;omega) fun t5 H5 s5 ht5=>?_
   refine rest1 H5 t5 (T.ws++[T.m]) (n1.trans s5) (by rw[ht5,AL];rfl) ?_ ?_
   ·exact B9.mpr ⟨gT.ris,C0 _ _,fun x hx y hy=>by rw[AE.mp hy];exact gT.wlt x hx⟩
   ·intro x hx
    rcases AQ.mp hx with hx | hx
    ·exact Au (gT.wlt x hx)
    ·rw[AE.mp hx];exact BM _
  ·rw[Aw hwm]
   refine⟨t1,_,rfl,SqT.of ze,.inr ⟨rfl,by simp,fun t2 ht2=>?_⟩⟩
   have n2:=zf ht2 (.tup [])
   refine JP ((n1.trans n2) _ _ h2) ze (by rw[AB];show T.ws.length+0<=1000;omega) fun t5 H5 s5 ht5=>?_
   rw[BW] at ht5
   exact rest1 H5 t5 T.ws (n1.trans (n2.trans s5)) ht5 gT.ris fun x hx=>Au (gT.wlt x hx)
 case r1=>
  intro H2 tw ws s2 htw wr wb
  refine⟨zq (by show 0<=1000;decide),fun fd hfd=>?_⟩
  have n3:=zf hfd (.lst [])
  refine⟨_,rfl,.inr (.inl ⟨a,_,2,_,rfl,rfl,SqT.of ((s2.trans n3) _ _ h1),rfl,c0,rfl,⟨_,SqT.of ((s2.trans n3) _ _ h3)⟩,?_⟩)⟩
  refine jU (xs:=vs0) (fun i σ H'=>∃ (x6 x7 x8 x9 x10:Option V) (cs:List Cn) (vs:List V),σ=[some (.ref a),some (nV n),some (nV T.m),some (nV w),some (.ref tw),some (.ref fd),x6,x7,x8,x9,x10]/\zD H2 H'/\H' fd=some (.lst vs)/\Cns H' cs vs/\cs.map Cn.nm=(T.cs.take i).map Cn.nm/\∀ c ∈ cs,c.nm.length<=100/\c.pl<=2/\Tn.Cs (T.m+1) c.pl c.cs) ⟨none,none,none,none,none,[],[],rfl,n3,ze,.nil,rfl,fun c hc=>by cases hc⟩ (fun i σ H' _ h=>by obtain⟨_,_,_,_,_,_,_,_,s,_⟩:=h;exact SqT.of ((s2.trans s) _ _ h3)) ?_ ?_
  ·rintro i x σ H4 hx ⟨x6,x7,x8,x9,x10,cs,vs,rfl,s4,hf4,hC,hnm,hcn⟩
   have hi:i < vs0.length:=(AC.mp hx).1
   have hc:T.cs[i]? = some T.cs[i]:=AG (by omega)
   have hcm:=AI hc
   generalize T.cs[i]=ci at hc hcm
   obtain⟨t,u,e1,e2,e3⟩:=h4.get hc
   rw[hx] at e1
   cases e1
   obtain⟨g1,g2,g3⟩:=gT.cn ci hcm
   have S4:=s2.trans s4
   have csl:cs.length=i:=by
    have:=BQ List.length hnm
    rw[AB,AB,An] at this
    omega
   have hvs:=hC.len
   refine⟨t,_,rfl,SqT.of (S4 _ _ e2),rfl,_,_,rfl,_,_,rfl,_,_,rfl,rfl,?_⟩
   refine⟨_,rfl,zq (by show 1<=1000;decide),fun r0 hr0=>?_⟩
   have n5:=zf hr0 (.lst [.ref u])
   have S5:=s4.trans n5
   have hr5:(upd H4 r0 (.lst [.ref u])) r0=some (.lst [.ref u]):=ze
   have hf5:=n5 _ _ hf4
   have hC5:=Cns.same n5 hC
   have hu5:=(s2.trans S5) _ _ e3
   generalize upd H4 r0 (.lst [.ref u])=H5 at *
   refine hide (R:=?R3) (D:=?D3) (P:=fun R D=>∀ (H6:Hp) (rl:Addr) (x10:Option V) (rs:List (Addr×List V)) (ns:List Nat),zD H2 H6->H6 fd=some (.lst vs)->Cns H6 cs vs->H6 rl=some (.lst (rs.map fun z=>V.ref z.1))->(∀ z ∈ rs,H6 z.1=some (.tup z.2))->rs.flatMap Prod.snd=ns.map nV->Tn.Cs (T.m+1) ci.pl ns->R D [some (.ref a),some (nV n),some (nV T.m),some (nV w),some (.ref tw),some (.ref fd),some (.str ci.nm),some (nV ci.pl),some (.ref u),some (.ref rl),x10] H6) (fun rest3=>?m3) ?r3
   case m3=>
    have q1:∀ k:Int,(ci.pl:Int) ≠ k->¬ (decide (nV ci.pl=V.int k)=true):=fun k hk z=>hk (V.int.inj (Ak z))
    have q2:∀ k:Nat,ci.pl=k->decide (nV ci.pl=V.int (k:Int))=true:=fun k hk=>Ai (by rw[hk])
    have hp3:ci.pl=0\/ci.pl=1\/ci.pl=2:=by omega
    rcases hp3 with p0 | p1 | p2
    ·refine⟨_,rfl,rfl,_,rfl,jZ (fun z=>absurd z (q1 1 (by omega))) (fun _=>?fa)⟩
     case fa=>
      refine⟨_,rfl,rfl,_,rfl,jZ (fun z=>absurd z (q1 2 (by omega))) (fun _=>?fb)⟩
      case fb=>exact rest3 H5 r0 _ [(u,ci.cs.map nV)] ci.cs S5 hf5 hC5 hr5 (fun z hz=>by rw[AE.mp hz];exact hu5) (by simp) ⟨by rw[g3.len,p0,Nat.pow_zero,Nat.pow_zero],fun x hx=>Au (g3.lt x hx)⟩
    ·have wl1:w < ci.cs.length:=by rw[g3.len,p1,Cz];exact hw
     refine⟨_,rfl,rfl,_,rfl,jZ (fun _=>?ta) (fun z=>absurd (q2 1 p1) z)⟩
     case ta=>
      refine⟨_,rfl,_,rfl,_,rfl,.inr (.inl ⟨u,_,_,_,rfl,rfl,SqT.of hu5,Zf wl1,zq (by show 1<=1000;decide),fun t6 ht6=>⟨zq (by show 2<=1000;decide),fun r1 hr1=>?_⟩⟩)⟩
      have n6:=zf ht6 (.tup [nV (Tn.at' ci.cs w)])
      have n7:=zf hr1 (.lst [.ref u,.ref t6])
      have S7:=n6.trans n7
      refine⟨_,rfl,rfl,_,rfl,jZ (fun z=>absurd z (q1 2 (by omega))) (fun _=>?fb)⟩
      case fb=>
       refine rest3 _ r1 _ [(u,ci.cs.map nV),(t6,[nV (Tn.at' ci.cs w)])] (ci.cs++[Tn.at' ci.cs w]) (S5.trans S7) (S7 _ _ hf5) (Cns.same S7 hC5) ze (fun z hz=>?_) (by rw[AL];simp) ⟨by rw[List.length_append,g3.len,p1,Nat.pow_one,Nat.pow_one];rfl,fun x hx=>?_⟩
       ·rcases AV.mp hz with rfl | hz
        ·exact S7 _ _ hu5
        ·rw[AE.mp hz];exact n7 _ _ ze
       ·rcases AQ.mp hx with hx | hx
        ·exact Au (g3.lt x hx)
        ·rw[AE.mp hx]
         exact Au (g3.at_lt (by rw[<- g3.len];exact wl1))
    ·have cl2:ci.cs.length=T.m ^ 2:=by rw[g3.len,p2]
     refine⟨_,rfl,rfl,_,rfl,jZ (fun z=>absurd z (q1 1 (by omega))) (fun _=>?fa)⟩
     case fa=>
      refine⟨_,rfl,rfl,_,rfl,jZ (fun _=>?tb) (fun z=>absurd (q2 2 p2) z)⟩
      case tb=>
       refine⟨zq (by show 0<=1000;decide),fun r1 hr1=>?_⟩
       have n6:=zf hr1 (.lst [])
       refine⟨_,rfl,(T.m:Int),rfl,fun p hp=>?_⟩
       have n7:=zf hp (.rng 0 (T.m:Int))
       refine⟨p,(T.m:Int),rfl,ze,by omega,by omega,fun l hl=>?_⟩
       rw[A4]
       have n8:=zf hl (.lst ((List.range T.m).map fun (i:Nat)=>V.int (i:Int)))
       refine⟨_,rfl,zq (by show 1<=1000;decide),fun l2 hl2=>?_⟩
       have n9:=zf hl2 (.lst [nV w])
       refine⟨l,l2,_,_,rfl,rfl,n9 _ _ ze,ze,by rw[AB,AZ];exact zq (by show T.m+1<=1000;omega),fun l3 hl3=>?_⟩
       have n10:=zf hl3 (.lst (((List.range T.m).map fun (i:Nat)=>V.int (i:Int))++[nV w]))
       have hl3':=@ze (upd (upd (upd (upd H5 r1 (.lst [])) p (.rng 0 (T.m:Int))) l (.lst ((List.range T.m).map fun (i:Nat)=>V.int (i:Int)))) l2 (.lst [nV w])) l3 (.lst (((List.range T.m).map fun (i:Nat)=>V.int (i:Int))++[nV w]))
       have hr10:=(n7.trans (n8.trans (n9.trans n10))) _ _ (@ze H5 r1 (.lst []))
       have S10:=n6.trans (n7.trans (n8.trans (n9.trans n10)))
       have l3r:l3 ≠ r1:=BD (zH ((n7.trans (n8.trans n9)) _ _ (@ze H5 r1 (.lst []))) hl3)
       have fdr:fd ≠ r1:=fun z=>by rw[z,hr1] at hf5;cases hf5
       generalize upd (upd (upd (upd (upd H5 r1 (.lst [])) p (.rng 0 (T.m:Int))) l (.lst ((List.range T.m).map fun (i:Nat)=>V.int (i:Int)))) l2 (.lst [nV w])) l3 (.lst (((List.range T.m).map fun (i:Nat)=>V.int (i:Int))++[nV w]))=H10 at *
       have eL:(((List.range T.m).map fun (i:Nat)=>V.int (i:Int))++[nV w])=(List.range T.m++[w]).map nV:=by rw[AL];rfl
       rw[eL] at hl3'
       have hr20:H2 r1=none:=S5.free hr1
       refine⟨l3,rfl,⟨_,SqL.of hl3'⟩,?_⟩
       refine qf (xs:=(List.range T.m++[w]).map nV) (fun j σ H'=>∃ (x10:Option V) (rs:List (Addr×List V)),σ=[some (.ref a),some (nV n),some (nV T.m),some (nV w),some (.ref tw),some (.ref fd),some (.str ci.nm),some (nV ci.pl),some (.ref u),some (.ref r1),x10]/\zD H2 H'/\Off r1 H10 H'/\Tk H10 H'/\H' r1=some (.lst (rs.map fun z=>V.ref z.1))/\(∀ z ∈ rs,H' z.1=some (.tup z.2))/\(∀ z ∈ rs,∃ ns:List Nat,z.2=ns.map nV/\ns.length=T.m+1/\∀ x ∈ ns,x < T.m+1)/\rs.length=j) ⟨_,[],rfl,S5.trans S10,Off.refl,fun _ _ h=>h,hr10,(fun z hz=>by cases hz),(fun z hz=>by cases hz),rfl⟩ (fun j σ H' _ h=>by obtain⟨_,_,_,_,o,_⟩:=h;exact SqL.of (o _ _ l3r hl3')) ?_ ?_
       ·rintro j x σ H11 hx11 ⟨y10,rs,rfl,s11,o11,k11,hr11,hrs,hns,rsl⟩
        rw[AJ] at hx11
        obtain⟨o,ho',rfl⟩:=AX.mp hx11
        have hjl:j < (List.range T.m++[w]).length:=(AC.mp ho').1
        rw[AH,AZ] at hjl
        have hjl:j < T.m+1:=hjl
        have ho:o < T.m:=by
         rcases AQ.mp (AI ho') with h | h
         ·exact Af.mp h
         ·rw[AE.mp h];exact hw
        have hu11:=k11 _ _ (S10 _ _ hu5)
        have rowl:o * T.m+T.m<=ci.cs.length:=by
         rw[cl2,EO]
         have:=BV T.m (show o+1<=T.m from ho)
         rw[Bv] at this
         exact this
        refine⟨_,rfl,.inl ⟨rfl,_,SqL.of hr11⟩,_,rfl,_,rfl,_,rfl,_,_,rfl,rfl,.inr ⟨by omega,by omega⟩,_,rfl,_,rfl,_,rfl,_,_,rfl,rfl,.inr ⟨by omega,by omega⟩,_,rfl,_,_,rfl,rfl,_,rfl,?_⟩
        refine yw hu11 fun t7 H12 s12 ht7=>?_
        rw[cut_row ci.cs o T.m rowl] at ht7
        have rl7:((ci.cs.drop (o * T.m)).take T.m).length=T.m:=by rw[An,Bz];omega
        have rlt:∀ x ∈ (ci.cs.drop (o * T.m)).take T.m,x < T.m:=fun x hx=>g3.lt x (Dp (CA hx))
        generalize (ci.cs.drop (o * T.m)).take T.m=row at *
        refine⟨_,rfl,_,rfl,_,rfl,_,_,rfl,rfl,.inr ⟨by omega,by omega⟩,_,rfl,_,_,rfl,rfl,.inr (.inl ⟨u,_,_,_,rfl,rfl,SqT.of (s12 _ _ hu11),at_sq cl2 ho hw,zq (by show 1<=1000;decide),fun t8 ht8=>?_⟩)⟩
        have n13:=zf ht8 (.tup [nV (Tn.at' ci.cs (o * T.m+w))])
        refine JP (n13 _ _ ht7) ze (by rw[AB];show row.length+1<=1000;omega) fun t9 H14 s14 ht9=>?_
        have S14:=s12.trans (n13.trans s14)
        have hr14:=S14 _ _ hr11
        refine⟨r1,_,_,rfl,rfl,hr14,by rw[AB];exact zu (by omega),?_⟩
        have kk:=(Tk.of S14).trans (Tk.put hr14 (o:=.lst (rs.map (fun z=>V.ref z.1)++[.ref t9])))
        refine⟨_,rs++[(t9,(row++[Tn.at' ci.cs (o * T.m+w)]).map nV)],rfl,(s11.trans S14).put hr20,o11.trans ((Off.of S14).trans Off.put),k11.trans kk,by rw[ze,AL];rfl,fun z hz=>?_,fun z hz=>?_,by rw[AH,rsl];rfl⟩
        ·rcases AQ.mp hz with hz | hz
         ·exact kk _ _ (hrs z hz)
         ·rw[AE.mp hz]
          refine Tk.put hr14 _ _ ?_
          rw[ht9,AL]
          rfl
        ·rcases AQ.mp hz with hz | hz
         ·exact hns z hz
         ·rw[AE.mp hz]
          refine⟨_,rfl,by rw[AH,rl7];rfl,fun x hx=>?_⟩
          rcases AQ.mp hx with hx | hx
          ·exact Au (rlt x hx)
          ·rw[AE.mp hx]
           exact Au (g3.at_lt (by rw[p2];exact sq_lt ho hw))
       ·rintro σ H11 ⟨y10,rs,rfl,s11,o11,k11,hr11,hrs,hns,rsl⟩
        rw[AB,AH,AZ] at rsl
        obtain⟨ns,f1,f2,f3⟩:=Y3 rs hns
        exact rest3 H11 r1 y10 rs ns s11 (o11 _ _ fdr (S10 _ _ hf5)) (Cns.tk (k11) (Cns.same S10 hC5)) hr11 hrs f1 ⟨by rw[f2,rsl,p2,EO];rfl,f3⟩
   case r3=>
    intro H6 rl y10 rs ns s6 hf6 hC6 hrl hrs hfl hcs
    have nl:ns.length<=1000:=by
     rw[hcs.len]
     exact Ab (JL (show T.m+1<=9 by omega) g2) (by decide)
    refine⟨_,rfl,.inl ⟨rfl,_,SqL.of hf6⟩,_,rfl,_,rfl,_,rfl,A9 _,fun te hte=>?_⟩
    have n7:=zf hte (.tup [])
    refine⟨rl,te,rs,rfl,SqL.of (n7 _ _ hrl),ze,(fun z hz=>n7 _ _ (hrs z hz)),by rw[hfl,AB];exact nl,fun t8 H8 s8 ht8=>?_⟩
    rw[hfl] at ht8
    refine⟨zq (by show 3<=1000;decide),fun t9 ht9=>?_⟩
    have n9:=zf ht9 (.tup [.str ci.nm,nV ci.pl,.ref t8])
    have S9:=n7.trans (s8.trans n9)
    have hf9:=S9 _ _ hf6
    refine⟨fd,_,_,rfl,rfl,hf9,zu (by omega),?_⟩
    refine⟨_,_,_,_,_,cs++[⟨ci.nm,ci.pl,ns⟩],_,rfl,(s6.trans S9).put hfd,ze,Cns.snoc (c:=⟨ci.nm,ci.pl,ns⟩) (Cns.tk ((Tk.of S9).trans (Tk.put hf9)) hC6) (Tk.put hf9 _ _ ze) (Tk.put hf9 _ _ (n9 _ _ ht8)),?_,fun c hc'=>?_⟩
    ·rw[AL,hnm,take_snoc hc,AL]
     rfl
    ·rcases AQ.mp hc' with h | h
     ·exact hcn c h
     ·rw[AE.mp h]
      exact⟨g1,g2,hcs⟩
  ·rintro σ H4 ⟨x6,x7,x8,x9,x10,cs,vs,rfl,s4,hf4,hC,hnm,hcn⟩
   rw[<- hvl,Ae] at hnm
   have csl:cs.length=T.cs.length:=by
    have:=BQ List.length hnm
    rwa [AB,AB] at this
   refine⟨_,rfl,_,_,rfl,rfl,_,rfl,_,rfl,fd,_,rfl,.inl ⟨SqL.of hf4,fun tc htc=>⟨zq (by show 3<=1000;decide),fun t ht=>?_⟩⟩⟩
   have k1:=zf htc (.tup vs)
   have k2:=zf ht (.tup [.int ((T.m:Int)+1),.ref tw,.ref tc])
   exact q (.ref t) ⟨T.m+1,ws,cs⟩ _ (s2.trans (s4.trans (k1.trans k2))) ⟨t,tw,tc,vs,rfl,ze,(s4.trans (k1.trans k2)) _ _ htw,k2 _ _ ze,Cns.same (k1.trans k2) hC⟩ ⟨Nat.le_add_left _ _,by show T.m+1<=9;omega,wr,wb,by show cs.length<=16;omega,hcn⟩ (by unfold qc;show (cs.map Cn.nm).Nodup;rw[hnm];exact nT) (by show T.m+1<=5;omega) (by show cs.length<=3;omega)
abbrev qU:Stmt:=top 48
theorem zJ:zC ["_law_table_here", "_law_parts", "_law_saying_here", "_law_letters_here", "_law_grading", "_law_letter", "_law_part", "_law_flags", "_law_one", "_law_put"] ["_law_table_here", "_law_parts", "_law_saying_here"] (zo qU):=⟨rfl,rfl,rfl,by decide +kernel,rfl,by decide +kernel,by decide +kernel⟩
theorem ZV {P:Program} {w:World} {K:PySem.W.Frag} {mg:Str->Option Value} {base:Heap} {f:Addr} {fd:FuncData} (F:Fun K "_law_same_by_parts" "_law_same_by_parts" qU f fd) (gb:Gb mg) (d_law_all_letters:Def P w K mg base 14 "_law_all_letters" ["_law_sayings"] YX) (d_law_gradings:Def P w K mg base 1 "_law_gradings" ["_law_many", "_law_letters_here"] WC) (d_law_grade:Def P w K mg base 15 "_law_grade" ["_law_table_here", "_law_saying_here", "_law_grading"] (JQ 12)):jt P w K mg base CX0 18 f fd ["_law_table_here", "_law_parts", "_law_saying_here"] spSBP:=by
 refine F.ok zJ (fun vs H Q E h=>?_) (fun cdv A outer s H vs Q E hr h=>?_)
 ·obtain⟨v,tp,sv,T,xs,L,S,rfl,_⟩:=h
  rfl
 obtain⟨v,tp,sv,T,xs,L,S,rfl,ia,gT,nT,m5,htp,hTp,iS,few,l2,q⟩:=h
 refine⟨_,(@zh _ _ _ _ _ (@zr _ _ 3 _ _ _ _ zJ.nd rfl (Or.inl rfl) (@zw _ _ _ _ _ _ _ _ _ _ _ d_law_all_letters hr (by omega) rfl (@zd _ _ _ _ _ (@zN _ _ _ _ (@zd _ _ _ _ _ (@pw _ 2 _ _ rfl rfl) (@zg _) rfl)) (@zg _) rfl) (by decide) rfl rfl) rfl (by walk_at "f")) (@zh _ _ _ _ _ (@zP _ _ _ _ _ _ _ _ AU rfl (@zE _ K _ _ _ (@zw _ _ _ _ _ _ _ _ _ _ _ d_law_gradings hr (by omega) rfl (@zd _ _ _ _ _ (@zv _ _ _ _ _ _ _ (@zn _ K rfl) (@pw _ 0 _ _ rfl rfl) (@zi _ _ _ _) (fun _ _=>rfl)) (@zd _ _ _ _ _ (@pw _ 3 _ _ rfl rfl) (@zg _) rfl) rfl) (by decide) rfl rfl) rfl) (@pgl _ 4 _ _ zJ.nd rfl rfl) (@zk _ _ _ (@zP _ _ _ _ _ _ _ _ AU rfl (@zE _ K _ _ _ (@pw _ 3 _ _ rfl rfl) rfl) (@pgl _ 5 _ _ zJ.nd rfl rfl) (@zk _ _ _ (@zP _ _ _ _ _ _ _ _ AU rfl (@qT _ K _ _ _ (@pw _ 1 _ _ rfl rfl) rfl) (@pgl _ 6 _ _ zJ.nd rfl rfl) (@zk _ _ _ (@qL _ _ _ _ _ _ _ _ (@zF _ _ _ _ _ _ _ _ (@Zr _) (@Jw _ _ _ _ _ _ (@pw _ 4 _ _ rfl rfl) (@pw _ 5 _ _ rfl rfl) (fun _ _=>rfl)) (@zv _ _ _ _ _ _ _ (@zn _ K rfl) (@pw _ 6 _ _ rfl rfl) (@zi _ _ _ _) (fun _ _=>rfl)) (@zW _ _ (by decide) (by decide))) (@zh _ _ _ _ _ (@zr _ _ 7 _ _ _ _ zJ.nd rfl (Or.inl rfl) (@zN _ _ _ _ (@zg _)) rfl (by walk_at "f")) (@zh _ _ _ _ _ (@zP _ _ _ _ _ _ _ _ AU rfl (@qT _ K _ _ _ (@pw _ 6 _ _ rfl rfl) rfl) (@pgl _ 8 _ _ zJ.nd rfl rfl) (@zh _ _ _ _ _ (@zr _ _ 9 _ _ _ _ zJ.nd rfl (Or.inl rfl) (@zG _ _ _ _ _ _ _ _ _ (@QM _) rfl gb.dict Jv (@zd _ _ _ _ _ (@pw _ 4 _ _ rfl rfl) (@zg _) rfl) (by decide) (by decide) rfl rfl) rfl (by walk_at "f")) (@zh _ _ _ _ _ (@yZ _ _ _ _ _ _ _ _ _ _ hr (@pw _ 9 _ _ rfl rfl) (@pw _ 5 _ _ rfl rfl) (@pw _ 8 _ _ rfl rfl) rfl) (@zk _ _ _ (@qi _ _ _ _ (@qE _ K _ _ _ _ _ _ _ _ _ _ _ Ac As Ar (@zX _) (@pw _ 7 _ _ rfl rfl) (@zd _ _ _ _ _ (@jp _ _ _ _ _ _ _ _ (@qo _ K rfl) (@zw _ _ _ _ _ _ _ _ _ _ _ d_law_grade hr (by omega) rfl (@zd _ _ _ _ _ (@pw _ 0 _ _ rfl rfl) (@zd _ _ _ _ _ (@pw _ 2 _ _ rfl rfl) (@zd _ _ _ _ _ (@pw _ 9 _ _ rfl rfl) (@zg _) rfl) rfl) rfl) (by decide) rfl rfl) (@zv _ _ _ _ _ _ _ (@zn _ K rfl) (@pw _ 0 _ _ rfl rfl) (@zi _ _ _ _) (fun _ _=>rfl)) (by with_unfolding_all rfl)) (@zg _) rfl) rfl rfl rfl rfl rfl rfl) rfl)))) (by intro _;rfl)) (@zk _ _ _ (@qL _ _ _ _ _ _ _ _ (@zF _ _ _ _ _ _ _ _ (@Xi _) (@zA _ _ _ _ _ _ _ _ _ (@JG _ K rfl rfl) rfl gb.any zad (@zd _ _ _ _ _ (@pw _ 7 _ _ rfl rfl) (@zg _) rfl) (by decide) (by decide) rfl rfl) (@zA _ _ _ _ _ _ _ _ _ (@Jp _ K rfl rfl) rfl gb.all Xu (@zd _ _ _ _ _ (@pw _ 7 _ _ rfl rfl) (@zg _) rfl) (by decide) (by decide) rfl rfl) (@zW _ _ (by decide) (by decide))) (@zk _ _ _ (@zB _ _ _ _ (@Jh _ _ _ _))) (@zO _))))) (@zO _))) (by intro _;rfl))) (by intro _;rfl))) (by intro _;rfl)) (@zk _ _ _ (@zB _ _ _ _ (@Jh _ _ _ _))))),?_⟩
 obtain⟨a,w0,c,vs,rfl,h1,h2,h3,h4⟩:=id ia
 obtain⟨gS,d5,z5⟩:=few
 have m1:=gT.m1
 have fx:=je gT
 refine⟨_,rfl,zq (by show 1<=1000;decide),fun l0 hl0=>?_⟩
 have n0:=zf hl0 (.lst [sv])
 refine⟨l0,[(sv,S)],L,rfl,ze,(show 1<=14 by decide),(fun z hz=>by rw[AE.mp hz];exact⟨by show S.dp<=10;omega,by show S.sz<=63;omega,iS.same n0,fun x hx=>gS.lets_in hx⟩),by omega,fun k M H1 s1 hk nd hm=>?_⟩
 have S1:=n0.trans s1
 have hMS:∀ x,x ∈ M ↔ x ∈ S.lets:=fun x=>by
  rw[hm]
  constructor
  ·rintro⟨z,hz,hx⟩
   rw[AE.mp hz] at hx
   exact hx
  ·exact fun hx=>⟨(sv,S),AE.mpr rfl,hx⟩
 have Ml:M.length<=2:=Ab (jE M L nd fun x hx=>gS.lets_in ((hMS x).mp hx)) l2
 have pM:T.m ^ M.length<=125:=Ab (Cb m1 Ml) (Ab (DI m5 2) (by decide))
 have gM:GSt T M S:=gS.lets.mono fun x hx=>(hMS x).mpr hx
 refine⟨_,rfl,.inr (.inl ⟨a,_,0,_,rfl,rfl,SqT.of (S1 _ _ h1),rfl,_,rfl,k,T.m,M,rfl,m1,gT.m9,hk,nd,by omega,pM,fun fl gs H2 s2 hfl es hg=>?_⟩)⟩
 have S2:=S1.trans s2
 have hk2:=s2 _ _ hk
 have rw':∀ z ∈ gs,Tn.Rw T.m M.length z.2:=fun z hz=>j6.mp (by rw[<- es];exact AM.mpr ⟨z,hz,rfl⟩)
 refine⟨fl,rfl,⟨_,SqL.of hfl⟩,?_⟩
 refine qf (xs:=JS gs) (fun i σ H'=>(∃ x4 x5 x6 x7 x8 x9,σ=[some (.ref a),some (.ref tp),some sv,some (.ref k),x4,x5,x6,x7,x8,x9])/\zD H2 H') ⟨⟨_,_,_,_,_,_,rfl⟩,zD.refl _⟩ (fun i σ H' _ h=>SqL.of (h.2 _ _ hfl)) ?_ ?_
 ·rintro i x σ H3 hx ⟨⟨x4,x5,x6,x7,x8,x9,rfl⟩,s3⟩
  unfold JS at hx
  rw[AJ] at hx
  obtain⟨z,hz,rfl⟩:=AX.mp hx
  have hzm:=AI hz
  have hgz:=hg z hzm
  have rz:=rw' z hzm
  have gG:=yx hgz rz m1
  have zll:(zkv M z.2).length=M.length:=by rw[zav rz.1.symm]
  obtain⟨γ,eγ⟩:∃ γ,γ=zaw M z.2:=⟨_,rfl⟩
  have gdγ:Gd T γ:=fun x=>by rw[eγ];exact Yj rz m1 x
  rw[<- eγ] at gG
  have hval:∀ x ∈ M,jo (zkv M z.2) (Sum.inr x)=some (nV (γ x)):=fun x hx=>by
   obtain⟨kvs,e1,e2⟩:=gG
   rw[hgz] at e1
   cases e1
   exact (e2 x hx).1
  refine⟨_,rfl,k,rfl,⟨_,SqL.of (s3 _ _ hk2)⟩,?_⟩
  refine qf (xs:=M.map V.str) (fun i σ H'=>(∃ x5 x6 x7 x8 x9,σ=[some (.ref a),some (.ref tp),some sv,some (.ref k),some (.ref z.1),x5,x6,x7,x8,x9])/\zD H2 H') ⟨⟨_,_,_,_,_,rfl⟩,s3⟩ (fun i σ H' _ h=>SqL.of (h.2 _ _ hk2)) ?_ ?_
  ·rintro i2 x σ H4 hx ⟨⟨x5,x6,x7,x8,x9,rfl⟩,s4⟩
   rw[AJ] at hx
   obtain⟨y,hy,rfl⟩:=AX.mp hx
   have hyM:=AI hy
   have htp4:=(S2.trans s4) _ _ htp
   refine⟨_,rfl,tp,rfl,⟨_,SqT.of htp4⟩,?_⟩
   refine jU (xs:=xs) (fun i σ H'=>(∃ x6 x7 x8 x9,σ=[some (.ref a),some (.ref tp),some sv,some (.ref k),some (.ref z.1),some (.str y),x6,x7,x8,x9])/\zD H2 H') ⟨⟨_,_,_,_,rfl⟩,s4⟩ (fun i σ H' _ h=>SqT.of ((S2.trans h.2) _ _ htp)) ?_ ?_
   ·rintro i3 x σ H5 hx ⟨⟨x6,x7,x8,x9,rfl⟩,s5⟩
    have S5:=S2.trans s5
    have hi3:i3 < (ptsT T).length:=by rw[Al hTp];exact (AC.mp hx).1
    have hi3':i3 < (j7 T).length:=by unfold ptsT at hi3;rw[List.length_map] at hi3;exact hi3
    obtain⟨r,hr⟩:=JU hi3'
    obtain⟨v',e1,b,rfl,hb⟩:=qJ hTp (i:=i3) (a:=Tn.partF T.m (mkT T) r) (by unfold ptsT;rw[List.getElem?_map,hr];rfl)
    rw[hx] at e1
    cases e1
    have hrm:=Tn.reps_mem.mp (AI hr)
    have hd:=Tn.part_head fx.mks (AI hr)
    have pl9:(Tn.partF T.m (mkT T) r).length<=9:=by
     have:=CU (fun j=>decide (Tn.at' (mkT T) j=r)) (List.range T.m)
     rw[AZ] at this
     exact Ab this gT.m9
    have hPm:∀ p ∈ Tn.partF T.m (mkT T) r,p < T.m/\Tn.at' (mkT T) p=r:=fun p hp=>Tn.part_mem.mp hp
    generalize Tn.partF T.m (mkT T) r=P at *
    have pp:0 < P.length:=(AC.mp hd).1
    have e0:atI (P.map nV) 0=some (nV r):=qw (j:=0) (by rw[AJ,hd];rfl)
    have hb5:=S5 _ _ hb
    have hz5:=s5 _ _ hgz
    refine⟨_,rfl,_,rfl,z.1,_,Sum.inr y,_,rfl,hz5,rfl,hval y hyM,_,rfl,.inr (.inl ⟨b,_,0,_,rfl,rfl,SqT.of hb5,e0,rfl,_,rfl,jZ (fun eq=>?_) (fun _=>⟨⟨_,_,_,_,rfl⟩,s5⟩)⟩)⟩
    have eyr:γ y=r:=by
     have:=V.int.inj (Ak eq)
     omega
    refine⟨zq (by show 0<=1000;decide),fun fg hfg=>?_⟩
    have n6:=zf hfg (.lst [])
    refine⟨_,rfl,b,rfl,⟨_,SqT.of (n6 _ _ hb5)⟩,?_⟩
    refine jU (xs:=P.map nV) (fun j σ H'=>(∃ x8 x9,σ=[some (.ref a),some (.ref tp),some sv,some (.ref k),some (.ref z.1),some (.str y),some (.ref b),some (.ref fg),x8,x9])/\zD H5 H'/\H' fg=some (.lst (((P.take j).map fun _=>decide (grT T γ S ∈ T.ws)).map V.bl))) ⟨⟨_,_,rfl⟩,n6,ze⟩ (fun j σ H' _ h=>SqT.of (h.2.1 _ _ hb5)) ?_ ?_
    ·rintro j x σ H6 hx6 ⟨⟨x8,x9,rfl⟩,s6,hf6⟩
     rw[AJ] at hx6
     obtain⟨p,hp,rfl⟩:=AX.mp hx6
     have hj:j < P.length:=(AC.mp hp).1
     obtain⟨pm,pr⟩:=hPm p (AI hp)
     have S6:=S5.trans s6
     refine⟨_,rfl,z.1,_,rfl,s6 _ _ hz5,fun e he=>?_⟩
     refine⟨_,rfl,_,rfl,_,rfl,e,_,Sum.inr y,rfl,rfl,ze,by rw[zll];exact zu (by omega),?_⟩
     rw[xX]
     have n7:=zf he (.dK (jX (zkv M z.2) (Sum.inr y) (nV p)))
     have S7:=S6.trans n7
     have gd':Gd T fun x=>if x=y then p else γ x:=fun x=>by
      show (if x=y then p else γ x) < T.m
      split
      ·exact pm
      ·exact gdγ x
     have isg:Yh (upd H6 e (.dK (jX (zkv M z.2) (Sum.inr y) (nV p)))) e M T.m fun x=>if x=y then p else γ x:=⟨_,ze,fun x hx=>⟨by
      rw[Qp]
      show _=some (nV (if x=y then p else γ x))
      by_cases exy:x=y
      ·rw[if_pos (by rw[exy]),if_pos exy]
      ·rw[if_neg (fun h=>exy (Cw h)),if_neg exy]
       exact hval x hx,gd' x⟩⟩
     have hf7:=n7 _ _ hf6
     refine⟨_,rfl,.inl ⟨rfl,_,SqL.of hf7⟩,_,rfl,_,rfl,_,rfl,.ref a,sv,e,S,T,M,_,rfl,ia.same S7,gT,nT,iS.same S7,gM,isg,(show _<=11 by omega),fun H8 s8=>?_⟩
     have S8:=S7.trans s8
     have hf8:=s8 _ _ hf7
     refine⟨_,rfl,.inr (.inl ⟨a,_,1,_,rfl,rfl,SqT.of (S8 _ _ h1),rfl,w0,_,rfl,.inr (SqT.of (S8 _ _ h2)),rfl,qk _,?_⟩)⟩
     rw[if_neg AS,jq]
     refine⟨fg,_,_,rfl,rfl,hf8,by rw[AB,AB,An];exact zu (by omega),⟨_,_,rfl⟩,(s6.trans (n7.trans s8)).put hfg,?_⟩
     have al:=gr_alike gT nT gM gdγ gd' fun x=>by
      show _=Tn.at' (mkT T) (if x=y then p else γ x)
      by_cases exy:x=y
      ·rw[if_pos exy,exy,eyr,pr,hrm.2]
      ·rw[if_neg exy]
     rw[ze,take_snoc hp,AL,AL,decide_eq_decide.mpr al.symm]
     rfl
    ·rintro σ H6 ⟨⟨x8,x9,rfl⟩,s6,hf6⟩
     rw[AB,Ae] at hf6
     obtain⟨ea,el⟩:=zaN pp (decide (grT T γ S ∈ T.ws))
     refine⟨_,rfl,fg,_,rfl,SqL.of hf6,_,rfl,fg,_,rfl,SqL.of hf6,rfl,_,rfl,?_⟩
     rw[ea,el]
     refine jZ (fun h=>absurd h (by simp)) (fun _=>⟨⟨_,_,_,_,rfl⟩,s5.trans s6⟩)
   ·rintro σ H5 ⟨⟨x6,x7,x8,x9,rfl⟩,s5⟩
    exact⟨⟨_,_,_,_,_,rfl⟩,s5⟩
  ·rintro σ H4 ⟨⟨x5,x6,x7,x8,x9,rfl⟩,s4⟩
   exact⟨⟨_,_,_,_,_,_,rfl⟩,s4⟩
 ·rintro σ H3 ⟨⟨x4,x5,x6,x7,x8,x9,rfl⟩,s3⟩
  exact q H3 (S2.trans s3)
abbrev ZG:Stmt:=top 49
theorem qy:zC ["_law_small", "_law_one", "_law_other", "_law_steps", "_law_a", "_law_b", "_law_step"] ["_law_small"] (zo ZG):=⟨rfl,rfl,rfl,by decide +kernel,rfl,by decide +kernel,by decide +kernel⟩
theorem WN {P:Program} {w:World} {K:PySem.W.Frag} {mg:Str->Option Value} {base:Heap} {f:Addr} {fd:FuncData} (F:Fun K "_law_parted" "_law_parted" ZG f fd) (gb:Gb mg) (d_parting:Def P w K mg base 4 "parting" ["T", "x", "y"] JY) (d_law_led:Def P w K mg base 1 "_law_led" ["_law_table_here", "_law_step", "_law_one"] zaO):jt P w K mg base CX0 6 f fd ["_law_small"] J2:=by
 refine F.ok qy (fun vs H Q E h=>?_) (fun cdv A outer s H vs Q E hr h=>?_)
 ·obtain⟨v,T,rfl,_⟩:=h
  rfl
 obtain⟨v,T,rfl,ia,gT0,nT0,q⟩:=h
 refine⟨_,(@zh _ _ _ _ _ (@zP _ _ _ _ _ _ _ _ AU rfl (@qj _ _ _ _ _ _ rfl gb.range (@zd _ _ _ _ _ (@zv _ _ _ _ _ _ _ (@zn _ K rfl) (@pw _ 0 _ _ rfl rfl) (@zi _ _ _ _) (fun _ _=>rfl)) (@zg _) rfl) rfl) (@pgl _ 1 _ _ qy.nd rfl rfl) (@zk _ _ _ (@zP _ _ _ _ _ _ _ _ AU rfl (@qj _ _ _ _ _ _ rfl gb.range (@zd _ _ _ _ _ (@pw _ 1 _ _ rfl rfl) (@zg _) rfl) rfl) (@pgl _ 2 _ _ qy.nd rfl rfl) (@zh _ _ _ _ _ (@zr _ _ 3 _ _ _ _ qy.nd rfl (Or.inl rfl) (@zw _ _ _ _ _ _ _ _ _ _ _ d_parting hr (by omega) rfl (@zd _ _ _ _ _ (@pw _ 0 _ _ rfl rfl) (@zd _ _ _ _ _ (@pw _ 1 _ _ rfl rfl) (@zd _ _ _ _ _ (@pw _ 2 _ _ rfl rfl) (@zg _) rfl) rfl) rfl) (by decide) rfl rfl) rfl (by walk_at "f")) (@zh _ _ _ _ _ (@qL _ _ _ _ _ _ _ _ (@wD _ _ _ _ (@Zp _ _ _ (@zA _ _ _ _ _ _ _ _ _ (@ZK _ K rfl) rfl gb.isinstance ju (@zd _ _ _ _ _ (@pw _ 3 _ _ rfl rfl) (@zd _ _ _ _ _ (@w8 _ _ (.ty "tuple") _ _ rfl gb.tuple qO rfl (by decide) (by decide)) (@zg _) rfl) rfl) (by decide) (by decide) rfl rfl) (by intro _;rfl))) (@zk _ _ _ (@zB _ _ _ _ (@Jh _ _ _ _))) (@zO _)) (@zh _ _ _ _ _ (@ps_par _ _ 4 5 _ _ _ _ _ _ _ _ _ _ _ rfl qy.nd rfl rfl (by decide) rfl rfl (@zd _ _ _ _ _ (@pw _ 1 _ _ rfl rfl) (@zd _ _ _ _ _ (@pw _ 2 _ _ rfl rfl) (@zg _) rfl) rfl) rfl rfl) (@zh _ _ _ _ _ (@zP _ _ _ _ _ _ _ _ AU rfl (@qT _ K _ _ _ (@pw _ 3 _ _ rfl rfl) rfl) (@pgl _ 6 _ _ qy.nd rfl rfl) (@zk _ _ _ (@ps_par _ _ 4 5 _ _ _ _ _ _ _ _ _ _ _ rfl qy.nd rfl rfl (by decide) rfl rfl (@zd _ _ _ _ _ (@zw _ _ _ _ _ _ _ _ _ _ _ d_law_led hr (by omega) rfl (@zd _ _ _ _ _ (@pw _ 0 _ _ rfl rfl) (@zd _ _ _ _ _ (@pw _ 6 _ _ rfl rfl) (@zd _ _ _ _ _ (@pw _ 4 _ _ rfl rfl) (@zg _) rfl) rfl) rfl) (by decide) rfl rfl) (@zd _ _ _ _ _ (@zw _ _ _ _ _ _ _ _ _ _ _ d_law_led hr (by omega) rfl (@zd _ _ _ _ _ (@pw _ 0 _ _ rfl rfl) (@zd _ _ _ _ _ (@pw _ 6 _ _ rfl rfl) (@zd _ _ _ _ _ (@pw _ 5 _ _ rfl rfl) (@zg _) rfl) rfl) rfl) (by decide) rfl rfl) (@zg _) rfl) rfl) rfl rfl)) (by intro _;rfl)) (@zk _ _ _ (@qL _ _ _ _ _ _ _ _ (@zF _ _ _ _ _ _ _ _ (@Zr _) (@jp _ _ _ _ _ _ _ _ (@qo _ K rfl) (@pw _ 4 _ _ rfl rfl) (@zv _ _ _ _ _ _ _ (@zn _ K rfl) (@pw _ 0 _ _ rfl rfl) (@zi _ _ _ _) (fun _ _=>rfl)) (by with_unfolding_all rfl)) (@jp _ _ _ _ _ _ _ _ (@qo _ K rfl) (@pw _ 5 _ _ rfl rfl) (@zv _ _ _ _ _ _ _ (@zn _ K rfl) (@pw _ 0 _ _ rfl rfl) (@zi _ _ _ _) (fun _ _=>rfl)) (by with_unfolding_all rfl)) (@zW _ _ (by decide) (by decide))) (@zk _ _ _ (@zB _ _ _ _ (@Jh _ _ _ _))) (@zO _))))))) (by intro _;rfl))) (by intro _;rfl)) (@zk _ _ _ (@zB _ _ _ _ (@Jh _ _ _ _)))),?_⟩
 have hun:=fun x y (hx:x < (jc T).m) (hy:y < x)=>zaM gT0 nT0 hx hy
 have gT:=QB gT0
 have nT:(qc (jc T)).Nodup:=by rw[<- Y0 (JV gT0 nT0).sh];exact nT0
 generalize jc T=U at *
 obtain⟨a,w0,c,vs,rfl,h1,h2,h3,h4⟩:=id ia
 have m9:=gT.m9
 refine⟨_,rfl,.inr (.inl ⟨a,_,0,_,rfl,rfl,SqT.of h1,rfl,(U.m:Int),rfl,by omega,by omega,?_⟩)⟩
 rw[A4]
 refine qM (fun i σ H'=>(∃ x1 x2 x3 x4 x5 x6,σ=[some (.ref a),x1,x2,x3,x4,x5,x6])/\zD H H') ⟨⟨_,_,_,_,_,_,rfl⟩,zD.refl _⟩ ?_ ?_
 ·rintro i σ H1 hi ⟨⟨x1,x2,x3,x4,x5,x6,rfl⟩,s1⟩
  refine⟨_,rfl,(0+(i:Int)),rfl,by omega,by omega,?_⟩
  rw[show (0+(i:Int)).toNat=i by omega]
  refine qM (fun j σ H'=>(∃ x2 x3 x4 x5 x6,σ=[some (.ref a),some (.int (0+(i:Int))),x2,x3,x4,x5,x6])/\zD H H') ⟨⟨_,_,_,_,_,rfl⟩,s1⟩ ?_ ?_
  ·rintro j σ H2 hj ⟨⟨x2,x3,x4,x5,x6,rfl⟩,s2⟩
   rw[Bx,Bx]
   refine⟨_,rfl,_,rfl,_,rfl,.ref a,U,i,j,rfl,ia.same s2,gT,nT,hi,by omega,fun e=>absurd e (hun i j hi hj),fun _ t xs ss H3 s3 ht hS hsm h100 hnw=>?_⟩
   rw[zaH] at hnw
   refine⟨_,rfl,_,_,_,true,rfl,.tup ht,Ql "tuple",_,rfl,WP ?_⟩
   refine⟨_,rfl,_,rfl,_,_,rfl,?_⟩
   have S3:=s2.trans s3
   have hul:=Al hS
   refine⟨_,rfl,t,rfl,⟨_,SqT.of ht⟩,?_⟩
   refine jU (xs:=xs) (fun k σ H'=>(∃ x6,σ=[some (.ref a),some (.int (i:Int)),some (.int (j:Int)),some (.ref t),some (nV (yA U.m (ss.take k) i)),some (nV (yA U.m (ss.take k) j)),x6])/\zD H3 H') ⟨⟨_,rfl⟩,zD.refl _⟩ (fun k σ H' _ h=>SqT.of (h.2 _ _ ht)) ?_ ?_
   ·rintro k z σ H4 hz ⟨⟨y6,rfl⟩,s4⟩
    have hk:k < xs.length:=(AC.mp hz).1
    obtain⟨st,hst⟩:=JU (xs:=ss) (k:=k) (by omega)
    obtain⟨v',e1,ts,rfl,hts⟩:=qJ hS hst
    rw[hz] at e1
    cases e1
    have hsm':=hsm st (AI hst)
    have sub:∀ s' ∈ ss.take k,s' ∈ ZO U:=fun s' hs'=>hsm s' (CA hs')
    have S4:=S3.trans s4
    refine⟨_,rfl,_,rfl,_,rfl,.ref a,ts,U,st,_,rfl,ia.same S4,gT,nT,hsm',s4 _ _ hts,WJ gT _ sub hi,fun H5 s5=>?_⟩
    refine⟨_,rfl,_,rfl,_,rfl,.ref a,ts,U,st,_,rfl,ia.same (S4.trans s5),gT,nT,hsm',(s4.trans s5) _ _ hts,WJ gT _ sub (by omega),fun H6 s6=>?_⟩
    refine⟨_,_,rfl,⟨some (.ref ts),?_⟩,s4.trans (s5.trans s6)⟩
    rw[take_snoc hst,wZ,wZ]
    rfl
   ·rintro σ H4 ⟨⟨y6,rfl⟩,s4⟩
    rw[show ss.take xs.length=ss by rw[<- hul,Ae]]
    have S4:=S3.trans s4
    refine⟨_,rfl,_,rfl,.inr (.inl ⟨a,_,1,_,rfl,rfl,SqT.of (S4 _ _ h1),rfl,w0,_,rfl,.inr (SqT.of (S4 _ _ h2)),rfl,qk _,?_⟩)⟩
    refine⟨_,rfl,_,rfl,.inr (.inl ⟨a,_,1,_,rfl,rfl,SqT.of (S4 _ _ h1),rfl,w0,_,rfl,.inr (SqT.of (S4 _ _ h2)),rfl,qk _,rfl,_,rfl,?_⟩)⟩
    rw[if_neg AS,if_neg AS,jq,jq]
    refine jZ (fun h=>absurd (Ak h) fun e=>hnw (decide_eq_decide.mp (V.bl.inj e))) (fun _=>⟨⟨_,_,_,_,_,rfl⟩,S4⟩)
  ·rintro σ H2 ⟨⟨x2,x3,x4,x5,x6,rfl⟩,s2⟩
   exact⟨⟨_,_,_,_,_,_,rfl⟩,s2⟩
 ·rintro σ H1 ⟨⟨x1,x2,x3,x4,x5,x6,rfl⟩,s1⟩
  exact q H1 s1
abbrev WO:Stmt:=top 50
theorem jT:zC ["_law_script", "_law_table_here", "_law_shape", "_law_small", "_law_parts", "_law_k", "_law_numbers_here", "_law_letters_here", "_law_premises", "_law_j", "_law_saying_here", "_law_due", "_law_one"] ["_law_script"] (zo WO):=⟨rfl,rfl,rfl,by decide +kernel,rfl,by decide +kernel,by decide +kernel⟩
theorem ok_law {P:Program} {w:World} {K:PySem.W.Frag} {mg:Str->Option Value} {base:Heap} {f:Addr} {fd:FuncData} (F:Fun K "law" "law" WO f fd) (gb:Gb mg) (d_law_table:Def P w K mg base 2 "_law_table" ["_law_script", "_law_k", "_law_sizes"] (Ym K)) (d_law_numbers:Def P w K mg base 1 "_law_numbers" ["_law_script", "_law_k", "_law_many"] (YW K)) (d_law_grown:Def P w K mg base 1 "_law_grown" ["_law_table_here", "_law_number"] Yp) (d_shrunk:Def P w K mg base 5 "shrunk" ["T"] WK) (d_alike:Def P w K mg base 4 "alike" ["T"] WI) (d_law_parted:Def P w K mg base 6 "_law_parted" ["_law_small"] J2) (d_law_saying:Def P w K mg base 1 "_law_saying" ["_law_numbers_here", "_law_tools", "_law_letters_here"] WA) (d_law_follows:Def P w K mg base 20 "_law_follows" ["_law_table_here", "_law_premises", "_law_saying_here"] YY) (d_law_same_by_parts:Def P w K mg base 18 "_law_same_by_parts" ["_law_table_here", "_law_parts", "_law_saying_here"] spSBP) (d_follows:Def P w K mg base 30 "follows" ["T", "premises", "S"] Qz):jt P w K mg base CX0 40 f fd ["_law_script"] (spLaw K):=by
 refine F.ok jT (fun vs H Q E h=>?_) (fun cdv A outer s H vs Q E hr h=>?_)
 ·obtain⟨a,ns,rfl,_⟩:=h
  rfl
 obtain⟨a,ns,rfl,hS,h63,q⟩:=h
 refine⟨_,(@zh _ _ _ _ _ (@zr _ _ 1 _ _ _ _ jT.nd rfl (Or.inl rfl) (@zw _ _ _ _ _ _ _ _ _ _ _ d_law_table hr (by omega) rfl (@zd _ _ _ _ _ (@pw _ 0 _ _ rfl rfl) (@zd _ _ _ _ _ (@zi _ _ _ _) (@zd _ _ _ _ _ (@zN _ _ _ _ (@zd _ _ _ _ _ (@zi _ _ _ _) (@zd _ _ _ _ _ (@zi _ _ _ _) (@zd _ _ _ _ _ (@zi _ _ _ _) (@zd _ _ _ _ _ (@zi _ _ _ _) (@zd _ _ _ _ _ (@zi _ _ _ _) (@zg _) rfl) rfl) rfl) rfl) rfl)) (@zg _) rfl) rfl) rfl) (by decide) rfl rfl) rfl (by walk_at "f")) (@zh _ _ _ _ _ (@zr _ _ 2 _ _ _ _ jT.nd rfl (Or.inl rfl) (@zw _ _ _ _ _ _ _ _ _ _ _ d_law_numbers hr (by omega) rfl (@zd _ _ _ _ _ (@pw _ 0 _ _ rfl rfl) (@zd _ _ _ _ _ (@zi _ _ _ _) (@zd _ _ _ _ _ (@zi _ _ _ _) (@zg _) rfl) rfl) rfl) (by decide) rfl rfl) rfl (by walk_at "f")) (@zh _ _ _ _ _ (@qL _ _ _ _ _ _ _ _ (@zF _ _ _ _ _ _ _ _ (@Zr _) (@zy _ _ _ _ _ _ _ _ (@qV _) (@zv _ _ _ _ _ _ _ (@zn _ K rfl) (@pw _ 2 _ _ rfl rfl) (@zi _ _ _ _) (fun _ _=>rfl)) (@zi _ _ _ _)) (@zi _ _ _ _) (@zW _ _ (by decide) (by decide))) (@zk _ _ _ (@zr _ _ 1 _ _ _ _ jT.nd rfl (Or.inl rfl) (@zw _ _ _ _ _ _ _ _ _ _ _ d_law_grown hr (by omega) rfl (@zd _ _ _ _ _ (@pw _ 1 _ _ rfl rfl) (@zd _ _ _ _ _ (@zv _ _ _ _ _ _ _ (@zn _ K rfl) (@pw _ 2 _ _ rfl rfl) (@zi _ _ _ _) (fun _ _=>rfl)) (@zg _) rfl) rfl) (by decide) rfl rfl) rfl (by walk_at "f"))) (@zO _)) (@zh _ _ _ _ _ (@zr _ _ 3 _ _ _ _ jT.nd rfl (Or.inl rfl) (@zw _ _ _ _ _ _ _ _ _ _ _ d_shrunk hr (by omega) rfl (@zd _ _ _ _ _ (@pw _ 1 _ _ rfl rfl) (@zg _) rfl) (by decide) rfl rfl) rfl (by walk_at "f")) (@zh _ _ _ _ _ (@zr _ _ 4 _ _ _ _ jT.nd rfl (Or.inl rfl) (@zw _ _ _ _ _ _ _ _ _ _ _ d_alike hr (by omega) rfl (@zd _ _ _ _ _ (@pw _ 1 _ _ rfl rfl) (@zg _) rfl) (by decide) rfl rfl) rfl (by walk_at "f")) (@zh _ _ _ _ _ (@qL _ _ _ _ _ _ _ _ (@PW.pt _ _ _ (@pw_or _ _ _ _ _ _ _ (@zF _ _ _ _ _ _ _ _ (@Xi _) (@zv _ _ _ _ _ _ _ (@zn _ K rfl) (@pw _ 3 _ _ rfl rfl) (@zi _ _ _ _) (fun _ _=>rfl)) (@zA _ _ _ _ _ _ _ _ _ (@zT _ K rfl) rfl gb.len qX (@zd _ _ _ _ _ (@pw _ 4 _ _ rfl rfl) (@zg _) rfl) (by decide) (by decide) rfl rfl) (@zW _ _ (by decide) (by decide))) (@pw_or _ _ _ _ _ _ _ (@wD _ _ _ _ (@Zp _ _ _ (@zw _ _ _ _ _ _ _ _ _ _ _ d_law_parted hr (by omega) rfl (@zd _ _ _ _ _ (@pw _ 3 _ _ rfl rfl) (@zg _) rfl) (by decide) rfl rfl) (by intro _;rfl))) (@Xa _ _ _ _ (@zF _ _ _ _ _ _ _ _ (@op_neD _ 3 _ hr (by decide)) (@zw _ _ _ _ _ _ _ _ _ _ _ d_shrunk hr (by omega) rfl (@zd _ _ _ _ _ (@pw _ 3 _ _ rfl rfl) (@zg _) rfl) (by decide) rfl rfl) (@pw _ 3 _ _ rfl rfl) (@zW _ _ (by decide) (by decide))))))) (@zk _ _ _ (@zB _ _ _ _ (@Jh _ _ _ _))) (@zO _)) (@zh _ _ _ _ _ (@zP _ _ _ _ _ _ _ _ AU rfl (@qj _ _ _ _ _ _ rfl gb.range (@zd _ _ _ _ _ (@zi _ _ _ _) (@zg _) rfl) rfl) (@pgl _ 5 _ _ jT.nd rfl rfl) (@zh _ _ _ _ _ (@zr _ _ 6 _ _ _ _ jT.nd rfl (Or.inl rfl) (@zw _ _ _ _ _ _ _ _ _ _ _ d_law_numbers hr (by omega) rfl (@zd _ _ _ _ _ (@pw _ 0 _ _ rfl rfl) (@zd _ _ _ _ _ (@zy _ _ _ _ _ _ _ _ (@qq _) (@zi _ _ _ _) (@zy _ _ _ _ _ _ _ _ (@js _) (@zi _ _ _ _) (@pw _ 5 _ _ rfl rfl))) (@zd _ _ _ _ _ (@zi _ _ _ _) (@zg _) rfl) rfl) rfl) (by decide) rfl rfl) rfl (by walk_at "f")) (@zh _ _ _ _ _ (@zr _ _ 7 _ _ _ _ jT.nd rfl (Or.inl rfl) (@qN _ _ _ _ _ _ _ _ _ _ (@Z8 _ K rfl) (@zN _ _ _ _ (@zd _ _ _ _ _ (@jP _ _ _ _) (@zd _ _ _ _ _ (@jP _ _ _ _) (@zg _) rfl) rfl)) (@j9 _) (@qS _ _ _ (@zy _ _ _ _ _ _ _ _ (@qq _) (@zi _ _ _ _) (@zy _ _ _ _ _ _ _ _ (@qV _) (@zv _ _ _ _ _ _ _ (@zn _ K rfl) (@pw _ 6 _ _ rfl rfl) (@zi _ _ _ _) (fun _ _=>rfl)) (@zi _ _ _ _))))) rfl (by walk_at "f")) (@zh _ _ _ _ _ (@zr _ _ 8 _ _ _ _ jT.nd rfl (Or.inl rfl) (@zN _ _ _ _ (@zg _)) rfl (by walk_at "f")) (@zh _ _ _ _ _ (@zP _ _ _ _ _ _ _ _ AU rfl (@qj _ _ _ _ _ _ rfl gb.range (@zd _ _ _ _ _ (@zy _ _ _ _ _ _ _ _ (@qV _) (@zv _ _ _ _ _ _ _ (@zn _ K rfl) (@pw _ 6 _ _ rfl rfl) (@zi _ _ _ _) (fun _ _=>rfl)) (@zi _ _ _ _)) (@zg _) rfl) rfl) (@pgl _ 9 _ _ jT.nd rfl rfl) (@zk _ _ _ (@qi _ _ _ _ (@qE _ K _ _ _ _ _ _ _ _ _ _ _ Ac As Ar (@zX _) (@pw _ 8 _ _ rfl rfl) (@zd _ _ _ _ _ (@zw _ _ _ _ _ _ _ _ _ _ _ d_law_saying hr (by omega) rfl (@zd _ _ _ _ _ (@zw _ _ _ _ _ _ _ _ _ _ _ d_law_numbers hr (by omega) rfl (@zd _ _ _ _ _ (@pw _ 0 _ _ rfl rfl) (@zd _ _ _ _ _ (@zy _ _ _ _ _ _ _ _ (@qq _) (@zy _ _ _ _ _ _ _ _ (@qq _) (@zi _ _ _ _) (@zy _ _ _ _ _ _ _ _ (@js _) (@zi _ _ _ _) (@pw _ 5 _ _ rfl rfl))) (@pw _ 9 _ _ rfl rfl)) (@zd _ _ _ _ _ (@zy _ _ _ _ _ _ _ _ (@qq _) (@zi _ _ _ _) (@zy _ _ _ _ _ _ _ _ (@qV _) (@zv _ _ _ _ _ _ _ (@zn _ K rfl) (@pw _ 6 _ _ rfl rfl) (@zi _ _ _ _) (fun _ _=>rfl)) (@zi _ _ _ _))) (@zg _) rfl) rfl) rfl) (by decide) rfl rfl) (@zd _ _ _ _ _ (@zv _ _ _ _ _ _ _ (@zn _ K rfl) (@pw _ 1 _ _ rfl rfl) (@zi _ _ _ _) (fun _ _=>rfl)) (@zd _ _ _ _ _ (@pw _ 7 _ _ rfl rfl) (@zg _) rfl) rfl) rfl) (by decide) rfl rfl) (@zg _) rfl) rfl rfl rfl rfl rfl rfl) rfl)) (by intro _;rfl)) (@zh _ _ _ _ _ (@zr _ _ 10 _ _ _ _ jT.nd rfl (Or.inl rfl) (@zw _ _ _ _ _ _ _ _ _ _ _ d_law_saying hr (by omega) rfl (@zd _ _ _ _ _ (@zw _ _ _ _ _ _ _ _ _ _ _ d_law_numbers hr (by omega) rfl (@zd _ _ _ _ _ (@pw _ 0 _ _ rfl rfl) (@zd _ _ _ _ _ (@zy _ _ _ _ _ _ _ _ (@qq _) (@zi _ _ _ _) (@zy _ _ _ _ _ _ _ _ (@js _) (@zi _ _ _ _) (@pw _ 5 _ _ rfl rfl))) (@zd _ _ _ _ _ (@zy _ _ _ _ _ _ _ _ (@qq _) (@zi _ _ _ _) (@zy _ _ _ _ _ _ _ _ (@qV _) (@zv _ _ _ _ _ _ _ (@zn _ K rfl) (@pw _ 6 _ _ rfl rfl) (@zi _ _ _ _) (fun _ _=>rfl)) (@zi _ _ _ _))) (@zg _) rfl) rfl) rfl) (by decide) rfl rfl) (@zd _ _ _ _ _ (@zv _ _ _ _ _ _ _ (@zn _ K rfl) (@pw _ 1 _ _ rfl rfl) (@zi _ _ _ _) (fun _ _=>rfl)) (@zd _ _ _ _ _ (@pw _ 7 _ _ rfl rfl) (@zg _) rfl) rfl) rfl) (by decide) rfl rfl) rfl (by walk_at "f")) (@zh _ _ _ _ _ (@zr _ _ 11 _ _ _ _ jT.nd rfl (Or.inl rfl) (@zw _ _ _ _ _ _ _ _ _ _ _ d_law_follows hr (by omega) rfl (@zd _ _ _ _ _ (@pw _ 1 _ _ rfl rfl) (@zd _ _ _ _ _ (@pw _ 8 _ _ rfl rfl) (@zd _ _ _ _ _ (@pw _ 10 _ _ rfl rfl) (@zg _) rfl) rfl) rfl) (by decide) rfl rfl) rfl (by walk_at "f")) (@zh _ _ _ _ _ (@qL _ _ _ _ _ _ _ _ (@PW.pt _ _ _ (@pw_or _ _ _ _ _ _ _ (@zF _ _ _ _ _ _ _ _ (@Xi _) (@zw _ _ _ _ _ _ _ _ _ _ _ d_law_follows hr (by omega) rfl (@zd _ _ _ _ _ (@pw _ 3 _ _ rfl rfl) (@zd _ _ _ _ _ (@pw _ 8 _ _ rfl rfl) (@zd _ _ _ _ _ (@pw _ 10 _ _ rfl rfl) (@zg _) rfl) rfl) rfl) (by decide) rfl rfl) (@pw _ 11 _ _ rfl rfl) (@zW _ _ (by decide) (by decide))) (@Xa _ _ _ _ (@wD _ _ _ _ (@Zp _ _ _ (@zw _ _ _ _ _ _ _ _ _ _ _ d_law_same_by_parts hr (by omega) rfl (@zd _ _ _ _ _ (@pw _ 1 _ _ rfl rfl) (@zd _ _ _ _ _ (@pw _ 4 _ _ rfl rfl) (@zd _ _ _ _ _ (@pw _ 10 _ _ rfl rfl) (@zg _) rfl) rfl) rfl) (by decide) rfl rfl) (by intro _;rfl)))))) (@zk _ _ _ (@zB _ _ _ _ (@Jh _ _ _ _))) (@zO _)) (@zk _ _ _ (@zP _ _ _ _ _ _ _ _ AU rfl (@zE _ K _ _ _ (@zN _ _ _ _ (@zd _ _ _ _ _ (@pw _ 1 _ _ rfl rfl) (@zd _ _ _ _ _ (@pw _ 3 _ _ rfl rfl) (@zg _) rfl) rfl)) rfl) (@pgl _ 12 _ _ jT.nd rfl rfl) (@zk _ _ _ (@qL _ _ _ _ _ _ _ _ (@zF _ _ _ _ _ _ _ _ (@Xi _) (@jp _ _ _ _ _ _ _ _ (@Zr _) (@zv _ _ _ _ _ _ _ (@zn _ K rfl) (@zw _ _ _ _ _ _ _ _ _ _ _ d_follows hr (by omega) rfl (@zd _ _ _ _ _ (@pw _ 12 _ _ rfl rfl) (@zd _ _ _ _ _ (@zG _ _ _ _ _ _ _ _ _ (@Zb _ K rfl) rfl gb.list Z7 (@zd _ _ _ _ _ (@pw _ 8 _ _ rfl rfl) (@zg _) rfl) (by decide) (by decide) rfl rfl) (@zd _ _ _ _ _ (@pw _ 10 _ _ rfl rfl) (@zg _) rfl) rfl) rfl) (by decide) rfl rfl) (@zi _ _ _ _) (fun _ _=>rfl)) (@jP _ _ _ _) (@zW _ _ (by decide) (by decide))) (@pw _ 11 _ _ rfl rfl) (@zW _ _ (by decide) (by decide))) (@zk _ _ _ (@zB _ _ _ _ (@Jh _ _ _ _))) (@zO _))) (by intro _;rfl)))))))))) (by intro _;rfl)) (@zk _ _ _ (@zB _ _ _ _ (@Jh _ _ _ _)))))))))),?_⟩
 refine⟨_,rfl,zq (by show 5<=1000;decide),fun l0 hl0=>?_⟩
 have n0:=zf hl0 (.lst [.int 2,.int 3,.int 4,.int 1,.int 3])
 refine⟨a,l0,0,ns,[2,3,4,1,3],rfl,QA hS n0,h63,by decide,ze,by decide,by decide,by decide,fun v0 T0 H1 s1 ia0 gT0 nT0 hm c30=>?_⟩
 have m40:T0.m<=4:=(show ∀ z ∈ [2,3,4,1,3],z<=4 by decide) _ hm
 have S1:=n0.trans s1
 refine⟨_,rfl,a,1,2,ns,rfl,QA hS S1,h63,by decide,by decide,by decide,fun l1 xs H2 s2 hl1 xl xb=>?_⟩
 have S2:=S1.trans s2
 have xl2:xs.length=2:=xl
 refine hide (R:=?R1) (D:=?D1) (P:=fun R D=>∀ (H3:Hp) (v:V) (T:Tb),zD H H3->ZT H3 v T->zY T->(qc T).Nodup->T.m<=5->T.cs.length<=3->R D [some (.ref a),some v,some (.ref l1),none,none,none,none,none,none,none,none,none,none] H3) (fun rest1=>?main) ?r1
 case main=>
  refine⟨_,rfl,.inl ⟨l1,_,0,_,rfl,rfl,SqL.of hl1,Zf (i:=0) (by omega),_,_,rfl,rfl,(show (0:Int) < 2 by decide),rfl,_,rfl,jZ (fun _=>?t1) (fun _=>?f1)⟩⟩
  case f1=>exact rest1 H2 v0 T0 S2 (ia0.same s2) gT0 nT0 (by omega) c30
  case t1=>exact⟨_,rfl,_,rfl,.inl ⟨l1,_,1,_,rfl,rfl,SqL.of hl1,Zf (i:=1) (by omega),v0,T0,_,rfl,ia0.same s2,gT0,nT0,m40,c30,fun u U H3 s3 iu gU nU m5 c3=>rest1 H3 u U (S2.trans s3) iu gU nU m5 c3⟩⟩
 case r1=>
  clear ia0 gT0 nT0 c30 m40 hm
  intro H3 v T S3 ia gT nT m5 c3
  obtain⟨ta,w0,c0,vs0,rfl,h1,h2,h3,h4⟩:=id ia
  have gU:=QB gT
  have nU:(qc (jc T)).Nodup:=by rw[<- Y0 (JV gT nT).sh];exact nT
  refine⟨_,rfl,.ref ta,T,rfl,ia,gT,nT,fun u H4 s4 iu=>?_⟩
  refine⟨_,rfl,.ref ta,T,rfl,ia.same s4,gT,nT,fun tp xs H5 s5 htp hTp=>?_⟩
  obtain⟨ua,uw,uc,uvs,rfl,u1,u2,u3,u4⟩:=id iu
  have hxl:xs.length=(jc T).m:=by
   rw[<- Al hTp]
   unfold ptsT
   rw[AB]
   rfl
  refine⟨_,rfl,.inr (.inl ⟨ua,_,0,_,rfl,rfl,SqT.of (s5 _ _ u1),rfl,_,rfl,_,_,rfl,.inr ⟨_,SqT.of htp,rfl⟩,rfl,_,rfl,?_⟩)⟩
  rw[hxl]
  refine jZ (fun z=>absurd z (by simp)) (fun _=>?_)
  refine⟨_,rfl,.ref ua,T,rfl,iu.same s5,gT,nT,fun H6 s6=>⟨_,rfl,jZ (fun z=>absurd z (by simp)) (fun _=>?_)⟩⟩
  refine⟨_,rfl,.ref ua,jc T,rfl,(iu.same s5).same s6,gU,nU,fun z H7 s7 iz=>?_⟩
  rw[shr_same gT nT] at iz
  obtain⟨a1,b1,xs1,ys1,rfl,e2,g1,g2,pr⟩:=same_tb iz (((iu.same s5).same s6).same s7) gU
  cases e2
  refine⟨_,rfl,a1,ua,xs1,ys1,rfl,rfl,g1,g2,pr,_,rfl,WP ?_⟩
  have S57:=s5.trans (s6.trans s7)
  have S47:=s4.trans S57
  have S7:=S3.trans S47
  have ia7:=ia.same S47
  have iu7:=iu.same S57
  have htp7:=(s6.trans s7) _ _ htp
  have hTp7:=Tps.tk (Tk.of (s6.trans s7)) hTp
  have h17:=S47 _ _ h1
  have h37:=S47 _ _ h3
  have h47:=Cns.same S47 h4
  clear g1 g2 pr iz
  refine⟨(6:Int),rfl,by decide,by decide,?_⟩
  refine qM (fun i σ H'=>(∃ x5 x6 x7 x8 x9 x10 x11 x12,σ=[some (.ref a),some (.ref ta),some (.ref l1),some (.ref ua),some (.ref tp),x5,x6,x7,x8,x9,x10,x11,x12])/\zD H7 H') ⟨⟨_,_,_,_,_,_,_,_,rfl⟩,zD.refl _⟩ ?_ ?_
  ·rintro i σ H8 hi ⟨⟨x5,x6,x7,x8,x9,x10,x11,x12,rfl⟩,s8⟩
   have i6:i < 6:=hi
   refine⟨_,rfl,_,rfl,_,_,rfl,rfl,.inl ⟨by decide,by decide⟩,_,_,rfl,rfl,a,_,5,ns,rfl,QA hS (S7.trans s8),h63,(by omega),by decide,by decide,fun l6 zs H9 s9 hl6 zl zb=>?_⟩
   have zl5:zs.length=5:=zl
   obtain⟨L,eL,L1,L2,hL⟩:=pq_ok (Tn.at' zs 0)
   refine⟨zq (by show 2<=1000;decide),fun L0 hL0=>?_⟩
   have n10:=zf hL0 (.lst [V.str (Str.ofString "p"),V.str (Str.ofString "q")])
   refine⟨_,rfl,.inl ⟨l6,_,0,_,rfl,rfl,SqL.of (n10 _ _ hl6),Zf (i:=0) (by omega),_,_,rfl,rfl,(show (0:Int) < 2 by decide),_,_,rfl,rfl,_,rfl,.inl ⟨L0,_,rfl,SqL.of ze,fun la hla=>?_⟩⟩⟩
   rw[eL]
   have n11:=zf hla (.lst (L.map V.str))
   have hla':=@ze (upd H9 L0 (.lst [V.str (Str.ofString "p"),V.str (Str.ofString "q")])) la (.lst (L.map V.str))
   have S11:=s8.trans (s9.trans (n10.trans n11))
   have hl6':=(n10.trans n11) _ _ hl6
   generalize upd (upd H9 L0 (.lst [V.str (Str.ofString "p"),V.str (Str.ofString "q")])) la (.lst (L.map V.str))=H11 at *
   refine⟨zq (by show 0<=1000;decide),fun pr hpr=>?_⟩
   have n12:=zf hpr (.lst [])
   refine⟨_,rfl,.inl ⟨l6,_,1,_,rfl,rfl,SqL.of (n12 _ _ hl6'),Zf (i:=1) (by omega),_,_,rfl,rfl,(show (0:Int) < 3 by decide),_,rfl,by omega,by omega,?_⟩⟩
   have z3:0<=((Tn.at' zs 1:Nat):Int) % 3/\((Tn.at' zs 1:Nat):Int) % 3 < 3:=⟨EY _ (by decide),Dz _ (by decide)⟩
   refine qM (fun j σ H'=>∃ (x9:Option V) (ps:List (V×Sy)),σ=[some (.ref a),some (.ref ta),some (.ref l1),some (.ref ua),some (.ref tp),some (.int (0+(i:Int))),some (.ref l6),some (.ref la),some (.ref pr),x9,x10,x11,x12]/\zD H11 H'/\H' pr=some (.lst (ps.map Prod.fst))/\(∀ z ∈ ps,jL H' z.2 z.1/\Few T L z.2)/\ps.length=j) ⟨_,[],rfl,n12,ze,(fun z hz=>by cases hz),rfl⟩ ?_ ?_
   ·rintro j σ H13 hj ⟨y9,ps,rfl,s13,hp13,hps,pl⟩
    have j3:j < 3:=by omega
    have SA:=S11.trans s13
    refine⟨_,rfl,.inl ⟨rfl,_,SqL.of hp13⟩,_,rfl,_,rfl,_,_,rfl,rfl,.inl ⟨by decide,by decide⟩,_,_,rfl,rfl,_,rfl,_,_,rfl,rfl,_,rfl,.inl ⟨l6,_,2,_,rfl,rfl,SqL.of (s13 _ _ hl6'),Zf (i:=2) (by omega),_,_,rfl,rfl,(show (0:Int) < 5 by decide),_,_,rfl,rfl,a,_,_,ns,rfl,QA hS (S7.trans SA),h63,(by omega),(by omega),(by omega),fun l7 ys H14 s14 hl7 yl yb=>?_⟩⟩
    refine⟨_,rfl,.inr (.inl ⟨ta,_,2,_,rfl,rfl,SqT.of ((SA.trans s14) _ _ h17),rfl,_,rfl,?_⟩)⟩
    refine⟨l7,c0,la,ys,T,vs0,L,rfl,hl7,by omega,by omega,gT,(SA.trans s14) _ _ h37,Cns.same (SA.trans s14) h47,(s13.trans s14) _ _ hla',L1,L2,fun sv S H15 s15 iS few=>?_⟩
    have hp15:=(s14.trans s15) _ _ hp13
    refine⟨pr,_,_,rfl,rfl,hp15,by rw[AB];exact zu (by omega),?_⟩
    refine⟨_,ps++[(sv,S)],rfl,(s13.trans (s14.trans s15)).put hpr,by rw[ze,AL];rfl,fun z hz=>?_,by rw[AH,pl];rfl⟩
    rcases AQ.mp hz with hz | hz
    ·exact⟨(hps z hz).1.tk ((Tk.of (s14.trans s15)).trans (Tk.put hp15)),(hps z hz).2⟩
    ·rw[AE.mp hz]
     exact⟨iS.tk (Tk.put hp15),few⟩
   ·rintro σ H13 ⟨y9,ps,rfl,s13,hp13,hps,pl⟩
    have pl2:ps.length<=2:=by omega
    have SA:=S11.trans s13
    refine⟨_,rfl,_,rfl,_,_,rfl,rfl,.inl ⟨by decide,by decide⟩,_,_,rfl,rfl,_,rfl,.inl ⟨l6,_,3,_,rfl,rfl,SqL.of (s13 _ _ hl6'),Zf (i:=3) (by omega),_,_,rfl,rfl,(show (0:Int) < 5 by decide),_,_,rfl,rfl,a,_,_,ns,rfl,QA hS (S7.trans SA),h63,(by omega),(by omega),(by omega),fun l7 ys H14 s14 hl7 yl yb=>?_⟩⟩
    refine⟨_,rfl,.inr (.inl ⟨ta,_,2,_,rfl,rfl,SqT.of ((SA.trans s14) _ _ h17),rfl,_,rfl,?_⟩)⟩
    refine⟨l7,c0,la,ys,T,vs0,L,rfl,hl7,by omega,by omega,gT,(SA.trans s14) _ _ h37,Cns.same (SA.trans s14) h47,(s13.trans s14) _ _ hla',L1,L2,fun sv S H15 s15 iS few=>?_⟩
    have SB:=SA.trans (s14.trans s15)
    have hp15:=(s14.trans s15) _ _ hp13
    have hps15:∀ z ∈ ps,jL H15 z.2 z.1/\Few T L z.2:=fun z hz=>⟨(hps z hz).1.same (s14.trans s15),(hps z hz).2⟩
    have akT:=zaz (ia7.same SB) gT nT hp15 pl2 hps15 iS few hL L2
    have few':∀ s,Few T L s->Few (jc T) L s:=fun s h=>⟨h.1.into fun c hc=>⟨zaC T.m (j7 T) (ZU T) c,AM.mpr ⟨c,hc,rfl⟩,rfl,rfl⟩,h.2⟩
    have akU:=zaz (iu7.same SB) gU nU hp15 pl2 (fun z hz=>⟨(hps15 z hz).1,few' _ (hps15 z hz).2⟩) iS (few' S few) hL L2
    have p125:∀ m,1<=m->m<=5->m ^ L.length<=125:=fun m h1 h5=>Ab (Cb h1 L2) (Ab (DI h5 2) (by decide))
    have fsh:Fol (jc T) (ps.map Prod.snd) S ↔ Fol T (ps.map Prod.snd) S:=fol_shr gT nT (fun p hp=>by
     obtain⟨z,hz,rfl⟩:=AM.mp hp
     exact (hps z hz).2.1) few.1
    refine⟨_,rfl,_,rfl,_,rfl,?_⟩
    dsimp only[tNil]
    refine YZ ⟨.ref ta,pr,sv,T,L,ps,S,rfl,akT,p125 _ gT.m1 m5,by omega,fun b H16 s16 hb=>?_⟩
    refine⟨_,rfl,_,rfl,_,rfl,?_⟩
    dsimp only[tNil]
    refine YZ ⟨.ref ua,pr,sv,jc T,L,ps,S,rfl,akU.same s16,p125 _ gU.m1 (Ab (Tn.reps_le _ _) m5),by omega,fun b2 H17 s17 hb2=>?_⟩
    obtain rfl:b2=b:=by rw[BX,hb,hb2,fsh]
    refine⟨_,rfl,rfl,_,rfl,jZ (fun z=>absurd z (by simp)) (fun _=>?_)⟩
    have SC:=SB.trans (s16.trans s17)
    refine⟨_,rfl,_,rfl,_,rfl,.ref ta,tp,sv,T,xs,L,S,rfl,ia7.same SC,gT,nT,m5,SC _ _ htp7,Tps.tk (Tk.of SC) hTp7,iS.same (s16.trans s17),few,L2,fun H18 s18=>⟨_,rfl,jZ (fun z=>absurd z (by simp)) (fun _=>?_)⟩⟩
    refine⟨_,rfl,_,rfl,zq (by show 2<=1000;decide),fun l9 hl9=>?_⟩
    have n19:=zf hl9 (.lst [.ref ta,.ref ua])
    have hl9':=@ze H18 l9 (.lst [.ref ta,.ref ua])
    have S19:=s16.trans (s17.trans (s18.trans n19))
    generalize upd H18 l9 (.lst [.ref ta,.ref ua])=H19 at *
    refine⟨l9,rfl,⟨_,SqL.of hl9'⟩,?_⟩
    refine qf (xs:=[.ref ta,.ref ua]) (fun j σ H'=>(∃ x12,σ=[some (.ref a),some (.ref ta),some (.ref l1),some (.ref ua),some (.ref tp),some (.int (0+(i:Int))),some (.ref l6),some (.ref la),some (.ref pr),y9,some sv,some (.bl b2),x12])/\zD H19 H') ⟨⟨_,rfl⟩,zD.refl _⟩ (fun j σ H' _ h=>SqL.of (h.2 _ _ hl9')) ?_ ?_
    ·rintro j x σ H20 hx ⟨⟨y12,rfl⟩,s20⟩
     have S20:=S19.trans s20
     obtain⟨W,ak,hW⟩:∃ W,Ask H20 x pr sv W L ps S/\(Fol W (ps.map Prod.snd) S ↔ Fol T (ps.map Prod.snd) S):=by
      match j,hx with
      | 0,hx=>cases hx;exact⟨T,akT.same S20,Iff.rfl⟩
      | 1,hx=>cases hx;exact⟨jc T,akU.same S20,fsh⟩
      | j+2,hx=>cases hx
     refine⟨_,rfl,_,rfl,pr,_,rfl,.inl (SqL.of ak.hp),fun p2 hp2=>⟨_,rfl,?_⟩⟩
     have n21:=zf hp2 (.lst (ps.map Prod.fst))
     dsimp only[tNil]
     refine Yn ⟨x,p2,sv,W,L,ps,S,rfl,{ ak.same n21 with hp:=ze },fun w t tv H22 s22 ht hw=>?_⟩
     have eb:decide (V.str w=V.str (Str.ofString "follows"))=b2:=by
      rw[BX,decide_eq_true_iff,hb,<- hW,<- hw]
      exact⟨fun e=>V.str.inj e,fun e=>by rw[e]⟩
     refine .inr (.inl ⟨t,_,0,_,rfl,rfl,SqT.of ht,rfl,rfl,_,rfl,rfl,_,rfl,jZ (fun z=>absurd z (by rw[eb];simp)) (fun _=>⟨⟨_,rfl⟩,s20.trans (n21.trans s22)⟩)⟩)
    ·rintro σ H20 ⟨⟨y12,rfl⟩,s20⟩
     exact⟨⟨_,_,_,_,_,_,_,_,rfl⟩,SB.trans (S19.trans s20)⟩
  ·rintro σ H8 ⟨⟨x5,x6,x7,x8,x9,x10,x11,x12,rfl⟩,s8⟩
   exact q H8
theorem Qj {α:Type}:∀ {us:List α},us.length=1->∃ x0,us=[x0]
 | [x0],_=>⟨x0,rfl⟩
theorem zaR {α:Type}:∀ {us:List α},us.length=2->∃ x0 x1,us=[x0,x1]
 | [x0,x1],_=>⟨x0,x1,rfl⟩
theorem Qk {α:Type}:∀ {us:List α},us.length=3->∃ x0 x1 x2,us=[x0,x1,x2]
 | [x0,x1,x2],_=>⟨x0,x1,x2,rfl⟩
theorem xR {α:Type}:∀ {us:List α},us.length=4->∃ x0 x1 x2 x3,us=[x0,x1,x2,x3]
 | [x0,x1,x2,x3],_=>⟨x0,x1,x2,x3,rfl⟩
theorem lenK5 {α:Type}:∀ {us:List α},us.length=5->∃ x0 x1 x2 x3 x4,us=[x0,x1,x2,x3,x4]
 | [x0,x1,x2,x3,x4],_=>⟨x0,x1,x2,x3,x4,rfl⟩
def FD (K:PySem.W.Frag) (x:Str) (st:Stmt):Prop:=∃ (f:Addr) (fd:FuncData),PySem.W.nsIn K mainGlobals x=some (some (.ref f))/\PySem.W.keepIn K (.ref f)=true/\Fun K x x st f fd
theorem qz {K:PySem.W.Frag} {x:Str} {st:Stmt} {f:Addr} {oc kV dc pm cd ct:Value} {od an:Option Addr} {sl:Array (Option Value)} (a:PySem.W.nsIn K mainGlobals x=some (some (.ref f))) (l:K.lookup f=some ⟨oc,od,.func (PySem.W.fnOf x x (Zt st) (Za st) (zo st) .none kV dc pm an cd ct),sl⟩) (c:PySem.W.codeIn K cd x=true) (k:PySem.W.keepIn K (.ref f)=true):FD K x st:=⟨f,_,a,k,fun_mk l c k⟩
theorem zM {P:Program} {w:World} {K:PySem.W.Frag} {mg:Str->Option Value} {h base:Heap} {x:Str} {st:Stmt} {k:Nat} {ps:List Str} {sp:Sp} (X:K.In h) (G:h.Ns mainGlobals mg) (d:FD K x st) (ok:∀ f fd,Fun K x x st f fd->jt P w K mg base CX0 k f fd ps sp) (hb:∀ (kV dc pm:Value) (an:Option Addr) (cd ct:Value) (us:List Value),us.length=ps.length->bindArgs (PySem.W.fnOf x x (Zt st) (Za st) (zo st) .none kV dc pm an cd ct) ⟨us,[]⟩=pure (ps.zip us)):Def P w K mg base k x ps sp:=by
 obtain⟨f,fd,a,k,F⟩:=d
 exact⟨f,fd,ok f fd F,PySem.W.mg_of X G a,k,F.binds hb⟩
theorem all_mk {l:PySem.W.OpenLaw} {w:World} {K:PySem.W.Frag} {h:Heap} {mg:Str->Option Value} {fa fL  : Addr} (X:K.In h) (G:h.Ns mainGlobals mg) (hfa:mg "law" = some (.ref fa)) {od an:Option Addr} {sl:Array (Option Value)} {oc kV dc pm cd ct:Value}
  (h0:FD K "has_small_letters_alone" zV)
  (h1:FD K "is_letter" Qe)
  (h2:FD K "written_parts" jG)
  (h3:FD K "letters_of_all" qQ)
  (h4:FD K "with_letter" Zh)
  (h5:FD K "cells_by_name" qZ)
  (h6:FD K "check_names" Zi)
  (h7:FD K "next_places" jx)
  (h8:FD K "possible_within" qK)
  (h9:FD K "is_closed" jH)
  (h10:FD K "answer_by" Zj)
  (h11:FD K "follows" J3)
  (h12:FD K "steps_of" j8)
  (h13:FD K "stepped" J4)
  (h14:FD K "first_places" ji)
  (h15:FD K "first_places" ja)
  (h16:FD K "parted_further" qR)
  (h17:FD K "grades_with" jy)
  (h18:FD K "alike" J7)
  (h19:FD K "cell_places" Zk)
  (h20:FD K "remade" ZQ)
  (h21:FD K "shrunk" QE)
  (h22:FD K "next_pairs" ZF)
  (h23:FD K "parting" QF)
  (h24:FD K "_law_numbers" Zl)
  (h25:FD K "_law_names" Qf)
  (h26:FD K "_law_table" jK)
  (h27:FD K "_law_saying" jQ)
  (h28:FD K "_law_cells" Qg)
  (h29:FD K "_law_grade" Qh)
  (h30:FD K "_law_gradings" jW)
  (h31:FD K "_law_letters" Zm)
  (h32:FD K "_law_all_letters" jg)
  (h33:FD K "_law_bars" QV)
  (h34:FD K "_law_follows" jz)
  (h35:FD K "_law_led" QH)
  (h36:FD K "_law_grown" Qi)
  (h37:FD K "_law_same_by_parts" qU)
  (h38:FD K "_law_parted" ZG)
  (aL:PySem.W.nsIn K mainGlobals "law" = some (some (.ref fL))) (lL:K.lookup fL=some ⟨oc,od,.func (PySem.W.fnOf "law" "law" (Zt WO) (Za WO) (zo WO) .none kV dc pm an cd ct),sl⟩) (cL:PySem.W.codeIn K cd "law" = true) (kL:PySem.W.keepIn K (.ref fL)=true)
  (z0:PySem.W.nsIn K mainGlobals "abs" = some none)
  (z1:PySem.W.nsIn K mainGlobals "range" = some none)
  (z2:PySem.W.nsIn K mainGlobals "tuple" = some none)
  (z3:PySem.W.nsIn K mainGlobals "list" = some none)
  (z4:PySem.W.nsIn K mainGlobals "isinstance" = some none)
  (z5:PySem.W.nsIn K mainGlobals "int" = some none)
  (z6:PySem.W.nsIn K mainGlobals "str" = some none)
  (z7:PySem.W.nsIn K mainGlobals "len" = some none)
  (z8:PySem.W.nsIn K mainGlobals "all" = some none)
  (z9:PySem.W.nsIn K mainGlobals "any" = some none)
  (z10:PySem.W.nsIn K mainGlobals "dict" = some none)
  (z11:PySem.W.nsIn K mainGlobals "set" = some none)
  (z12:PySem.W.nsIn K mainGlobals "sorted" = some none)
  (z13:PySem.W.nsIn K mainGlobals "reversed" = some none)
  (z14:PySem.W.nsIn K mainGlobals "sum" = some none)
  (z15:PySem.W.nsIn K mainGlobals "enumerate" = some none)
  : ∃ fd:FuncData,(∀ (s:Shared) (v:Value),BindsTo s fd ⟨[v],[]⟩ [("_law_script",v)])/\∀ base:Heap,K.In base->base.Ns mainGlobals mg->jt l.prog w K mg base CX0 40 fa fd ["_law_script"] (spLaw K):=by
 have e:=hfa.symm.trans (PySem.W.mg_of X G aL)
 cases e
 have gb:Gb mg:=⟨A7 X G z0,A7 X G z1,A7 X G z2,A7 X G z3,A7 X G z4,A7 X G z5,A7 X G z6,A7 X G z7,A7 X G z8,A7 X G z9,A7 X G z10,A7 X G z11,A7 X G z12,A7 X G z13,A7 X G z14,A7 X G z15⟩
 refine⟨PySem.W.fnOf "law" "law" (Zt WO) (Za WO) (zo WO) .none kV dc pm an cd ct,fun s v=>.of_eq rfl,fun base _ _=>?_⟩
 have d_has_small_letters_alone:Def l.prog w K mg base 1 "has_small_letters_alone" ["text"] Ye:=zM X G h0 (fun _ _ F=>jO F gb) fun _ _ _ _ _ _ us hl=>by obtain⟨z0_,rfl⟩:=Qj hl;rfl
 have d_is_letter:Def l.prog w K mg base 2 "is_letter" ["thing"] xH:=zM X G h1 (fun _ _ F=>yE F gb d_has_small_letters_alone) fun _ _ _ _ _ _ us hl=>by obtain⟨z0_,rfl⟩:=Qj hl;rfl
 have d_written_parts:Def l.prog w K mg base 3 "written_parts" ["S"] YU:=zM X G h2 (fun _ _ F=>Q5 F gb d_is_letter) fun _ _ _ _ _ _ us hl=>by obtain⟨z0_,rfl⟩:=Qj hl;rfl
 have d_letters_of_all:Def l.prog w K mg base 4 "letters_of_all" ["sayings"] Wv:=zM X G h3 (fun _ _ F=>QS F gb d_written_parts d_is_letter) fun _ _ _ _ _ _ us hl=>by obtain⟨z0_,rfl⟩:=Qj hl;rfl
 have d_with_letter:Def l.prog w K mg base 1 "with_letter" ["by_letter", "letter", "given"] Yg:=zM X G h4 (fun _ _ F=>wo F gb) fun _ _ _ _ _ _ us hl=>by obtain⟨z0_,z1_,z2_,rfl⟩:=Qk hl;rfl
 have d_cells_by_name:Def l.prog w K mg base 1 "cells_by_name" ["H"] xJ:=zM X G h5 (fun _ _ F=>Q7 F gb) fun _ _ _ _ _ _ us hl=>by obtain⟨z0_,rfl⟩:=Qj hl;rfl
 have d_check_names:Def l.prog w K mg base 3 "check_names" ["shapes", "parts"] zar:=zM X G h6 (fun _ _ F=>wq F gb d_is_letter) fun _ _ _ _ _ _ us hl=>by obtain⟨z0_,z1_,rfl⟩:=zaR hl;rfl
 have d_next_places:Def l.prog w K mg base 1 "next_places" ["places", "many", "grades"] YS:=zM X G h7 (fun _ _ F=>wt F gb) fun _ _ _ _ _ _ us hl=>by obtain⟨z0_,z1_,z2_,rfl⟩:=Qk hl;rfl
 have r_possible_within:∀ j,Def l.prog w K mg base (6+j) "possible_within" ["cells", "many", "S", "sets"] (YV j):=fun j=>by
  induction j with
  | zero=>exact zM X G h8 (fun _ _ _=>⟨fun _ _ _ _ h=>False.elim h,fun _ _ _ _ _ _ _ _ _ _ _ _ _ h=>False.elim h⟩) fun _ _ _ _ _ _ us hl=>by obtain⟨z0_,z1_,z2_,z3_,rfl⟩:=xR hl;rfl
  | succ j ih=>exact zM X G h8 (fun _ _ F=>QD F gb d_is_letter d_next_places j ih) fun _ _ _ _ _ _ us hl=>by obtain⟨z0_,z1_,z2_,z3_,rfl⟩:=xR hl;rfl
 have d_possible_within:=r_possible_within 12
 have d_is_closed:Def l.prog w K mg base 20 "is_closed" ["T", "premises", "S", "sets"] Ww:=zM X G h9 (fun _ _ F=>yF F gb d_cells_by_name d_possible_within) fun _ _ _ _ _ _ us hl=>by obtain⟨z0_,z1_,z2_,z3_,rfl⟩:=xR hl;rfl
 have r_answer_by:∀ j,Def l.prog w K mg base (22+j) "answer_by" ["T", "premises", "S", "letters", "sets"] (Jf j):=fun j=>by
  induction j with
  | zero=>exact zM X G h10 (fun _ _ _=>⟨fun _ _ _ _ h=>False.elim h,fun _ _ _ _ _ _ _ _ _ _ _ _ _ h=>False.elim h⟩) fun _ _ _ _ _ _ us hl=>by obtain⟨z0_,z1_,z2_,z3_,z4_,rfl⟩:=lenK5 hl;rfl
  | succ j ih=>exact zM X G h10 (fun _ _ F=>yG F gb d_is_closed d_with_letter j ih) fun _ _ _ _ _ _ us hl=>by obtain⟨z0_,z1_,z2_,z3_,z4_,rfl⟩:=lenK5 hl;rfl
 have d_answer_by:=r_answer_by 6
 have d_follows:Def l.prog w K mg base 30 "follows" ["T", "premises", "S"] Qz:=zM X G h11 (fun _ _ F=>xM F gb d_check_names d_cells_by_name d_written_parts d_letters_of_all d_answer_by) fun _ _ _ _ _ _ us hl=>by obtain⟨z0_,z1_,z2_,rfl⟩:=Qk hl;rfl
 have d_steps_of:Def l.prog w K mg base 1 "steps_of" ["T"] WE:=zM X G h12 (fun _ _ F=>Yq F gb) fun _ _ _ _ _ _ us hl=>by obtain⟨z0_,rfl⟩:=Qj hl;rfl
 have d_stepped:Def l.prog w K mg base 1 "stepped" ["cells", "many", "step", "x"] QC:=zM X G h13 (fun _ _ F=>xO F gb) fun _ _ _ _ _ _ us hl=>by obtain⟨z0_,z1_,z2_,z3_,rfl⟩:=xR hl;rfl
 have d_first_places:Def l.prog w K mg base 1 "first_places" ["things"] WF:=zM X G h14 (fun _ _ F=>J6 F gb) fun _ _ _ _ _ _ us hl=>by obtain⟨z0_,rfl⟩:=Qj hl;rfl
 have d_first_placesL:Def l.prog w K mg base 1 "first_places" ["things"] WG:=zM X G h15 (fun _ _ F=>Q9 F gb) fun _ _ _ _ _ _ us hl=>by obtain⟨z0_,rfl⟩:=Qj hl;rfl
 have d_parted_further:Def l.prog w K mg base 3 "parted_further" ["T", "marks"] WH:=zM X G h16 (fun _ _ F=>QU F gb d_cells_by_name d_steps_of d_stepped d_first_placesL) fun _ _ _ _ _ _ us hl=>by obtain⟨z0_,z1_,rfl⟩:=zaR hl;rfl
 have d_grades_with:Def l.prog w K mg base 1 "grades_with" ["marks", "mark"] zaG:=zM X G h17 (fun _ _ F=>wv F gb) fun _ _ _ _ _ _ us hl=>by obtain⟨z0_,z1_,rfl⟩:=zaR hl;rfl
 have d_alike:Def l.prog w K mg base 4 "alike" ["T"] WI:=zM X G h18 (fun _ _ F=>ok_alike F gb d_first_places d_parted_further d_grades_with) fun _ _ _ _ _ _ us hl=>by obtain⟨z0_,rfl⟩:=Qj hl;rfl
 have d_cell_places:Def l.prog w K mg base 2 "cell_places" ["many", "grades", "places"] JZ:=zM X G h19 (fun _ _ F=>ww F gb d_next_places) fun _ _ _ _ _ _ us hl=>by obtain⟨z0_,z1_,z2_,rfl⟩:=Qk hl;rfl
 have d_remade:Def l.prog w K mg base 3 "remade" ["T", "olds", "news"] J1:=zM X G h20 (fun _ _ F=>zaP F gb d_cell_places) fun _ _ _ _ _ _ us hl=>by obtain⟨z0_,z1_,z2_,rfl⟩:=Qk hl;rfl
 have d_shrunk:Def l.prog w K mg base 5 "shrunk" ["T"] WK:=zM X G h21 (fun _ _ F=>zaQ F gb d_alike d_remade) fun _ _ _ _ _ _ us hl=>by obtain⟨z0_,rfl⟩:=Qj hl;rfl
 have d_next_pairs:Def l.prog w K mg base 3 "next_pairs" ["T", "cells", "ways", "pairs"] Yo:=zM X G h22 (fun _ _ F=>WL F gb d_steps_of d_stepped) fun _ _ _ _ _ _ us hl=>by obtain⟨z0_,z1_,z2_,z3_,rfl⟩:=xR hl;rfl
 have d_parting:Def l.prog w K mg base 4 "parting" ["T", "x", "y"] JY:=zM X G h23 (fun _ _ F=>xP F gb d_cells_by_name d_next_pairs) fun _ _ _ _ _ _ us hl=>by obtain⟨z0_,z1_,z2_,rfl⟩:=Qk hl;rfl
 have d_law_numbers:Def l.prog w K mg base 1 "_law_numbers" ["_law_script", "_law_k", "_law_many"] (YW K):=zM X G h24 (fun _ _ F=>wx F gb) fun _ _ _ _ _ _ us hl=>by obtain⟨z0_,z1_,z2_,rfl⟩:=Qk hl;rfl
 have d_law_names:Def l.prog w K mg base 1 "_law_names" ["_law_numbers_here"] Yl:=zM X G h25 (fun _ _ F=>yH F gb) fun _ _ _ _ _ _ us hl=>by obtain⟨z0_,rfl⟩:=Qj hl;rfl
 have d_law_table:Def l.prog w K mg base 2 "_law_table" ["_law_script", "_law_k", "_law_sizes"] (Ym K):=zM X G h26 (fun _ _ F=>yI F gb d_law_numbers d_law_names) fun _ _ _ _ _ _ us hl=>by obtain⟨z0_,z1_,z2_,rfl⟩:=Qk hl;rfl
 have d_law_saying:Def l.prog w K mg base 1 "_law_saying" ["_law_numbers_here", "_law_tools", "_law_letters_here"] WA:=zM X G h27 (fun _ _ F=>WM F gb) fun _ _ _ _ _ _ us hl=>by obtain⟨z0_,z1_,z2_,rfl⟩:=Qk hl;rfl
 have d_law_cells:Def l.prog w K mg base 1 "_law_cells" ["_law_table_here", "_law_name", "_law_places"] WB:=zM X G h28 (fun _ _ F=>yJ F gb) fun _ _ _ _ _ _ us hl=>by obtain⟨z0_,z1_,z2_,rfl⟩:=Qk hl;rfl
 have r_law_grade:∀ j,Def l.prog w K mg base (3+j) "_law_grade" ["_law_table_here", "_law_saying_here", "_law_grading"] (JQ j):=fun j=>by
  induction j with
  | zero=>exact zM X G h29 (fun _ _ _=>⟨fun _ _ _ _ h=>False.elim h,fun _ _ _ _ _ _ _ _ _ _ _ _ _ h=>False.elim h⟩) fun _ _ _ _ _ _ us hl=>by obtain⟨z0_,z1_,z2_,rfl⟩:=Qk hl;rfl
  | succ j ih=>exact zM X G h29 (fun _ _ F=>yK F gb d_law_cells j ih) fun _ _ _ _ _ _ us hl=>by obtain⟨z0_,z1_,z2_,rfl⟩:=Qk hl;rfl
 have d_law_grade:=r_law_grade 12
 have d_law_gradings:Def l.prog w K mg base 1 "_law_gradings" ["_law_many", "_law_letters_here"] WC:=zM X G h30 (fun _ _ F=>J8 F gb) fun _ _ _ _ _ _ us hl=>by obtain⟨z0_,z1_,rfl⟩:=zaR hl;rfl
 have r_law_letters:∀ j,Def l.prog w K mg base (1+j) "_law_letters" ["_law_saying_here"] (spOfL j):=fun j=>by
  induction j with
  | zero=>exact zM X G h31 (fun _ _ _=>⟨fun _ _ _ _ h=>False.elim h,fun _ _ _ _ _ _ _ _ _ _ _ _ _ h=>False.elim h⟩) fun _ _ _ _ _ _ us hl=>by obtain⟨z0_,rfl⟩:=Qj hl;rfl
  | succ j ih=>exact zM X G h31 (fun _ _ F=>wA F gb j ih) fun _ _ _ _ _ _ us hl=>by obtain⟨z0_,rfl⟩:=Qj hl;rfl
 have d_law_letters:=r_law_letters 12
 have d_law_all_letters:Def l.prog w K mg base 14 "_law_all_letters" ["_law_sayings"] YX:=zM X G h32 (fun _ _ F=>QG F gb d_law_letters) fun _ _ _ _ _ _ us hl=>by obtain⟨z0_,rfl⟩:=Qj hl;rfl
 have d_law_bars:Def l.prog w K mg base 16 "_law_bars" ["_law_table_here", "_law_premises", "_law_saying_here", "_law_grading"] Yi:=zM X G h33 (fun _ _ F=>Yr F gb d_law_grade) fun _ _ _ _ _ _ us hl=>by obtain⟨z0_,z1_,z2_,z3_,rfl⟩:=xR hl;rfl
 have d_law_follows:Def l.prog w K mg base 20 "_law_follows" ["_law_table_here", "_law_premises", "_law_saying_here"] YY:=zM X G h34 (fun _ _ F=>wB F gb d_law_all_letters d_law_gradings d_law_bars) fun _ _ _ _ _ _ us hl=>by obtain⟨z0_,z1_,z2_,rfl⟩:=Qk hl;rfl
 have d_law_led:Def l.prog w K mg base 1 "_law_led" ["_law_table_here", "_law_step", "_law_one"] zaO:=zM X G h35 (fun _ _ F=>xQ F gb) fun _ _ _ _ _ _ us hl=>by obtain⟨z0_,z1_,z2_,rfl⟩:=Qk hl;rfl
 have d_law_grown:Def l.prog w K mg base 1 "_law_grown" ["_law_table_here", "_law_number"] Yp:=zM X G h36 (fun _ _ F=>yL F gb) fun _ _ _ _ _ _ us hl=>by obtain⟨z0_,z1_,rfl⟩:=zaR hl;rfl
 have d_law_same_by_parts:Def l.prog w K mg base 18 "_law_same_by_parts" ["_law_table_here", "_law_parts", "_law_saying_here"] spSBP:=zM X G h37 (fun _ _ F=>ZV F gb d_law_all_letters d_law_gradings d_law_grade) fun _ _ _ _ _ _ us hl=>by obtain⟨z0_,z1_,z2_,rfl⟩:=Qk hl;rfl
 have d_law_parted:Def l.prog w K mg base 6 "_law_parted" ["_law_small"] J2:=zM X G h38 (fun _ _ F=>WN F gb d_parting d_law_led) fun _ _ _ _ _ _ us hl=>by obtain⟨z0_,rfl⟩:=Qj hl;rfl
 exact ok_law (fun_mk (st:=WO) lL cL kL) gb d_law_table d_law_numbers d_law_grown d_shrunk d_alike d_law_parted d_law_saying d_law_follows d_law_same_by_parts d_follows
theorem walk {l:PySem.W.OpenLaw} {q:Program} {loose:List Str} {XP:(Str->Option Value)->Heap->Prop} {YP:World->Heap->Prop} {d:DefRec} {K:Params->PySem.W.Frag} (hn:l.most=some 63) (hdf:d.params.defaults=[])
  (hY:∀ (w:World) (h:Heap),YP w h->(K w.params).In h)
  (F:∀ (w:World) (mg:Str->Option Value) (fa:Addr) (h:Heap),(K w.params).In h->h.Ns mainGlobals mg->mg d.name=some (.ref fa) ->
   ∃ fd:FuncData,(∀ (s:Shared) (u:Value),BindsTo s fd ⟨[u],[]⟩ [("_law_script",u)])/\∀ base:Heap,(K w.params).In base->base.Ns mainGlobals mg->jt l.prog w (K w.params) mg base CX0 40 fa fd ["_law_script"] (spLaw (K w.params))) :
  PySem.W.WalkO q loose XP YP l.row.toRowW d [] (fun f vs=>PySem.call f vs):=
 L2.Xr (n:=63) (k:=40) (x := "_law_script") (CX:=fun _=>CX0) (sp:=fun w=>spLaw (K w.params)) hn (by decide) hdf ⟨rfl,by decide,by decide⟩ hY F (fun _ _ a ns hl _ hS=>⟨a,ns,rfl,hS,hl,fun _=>rfl⟩) fun _ _ _ _ _ z=>z
end K96
open PySem PySem.W PyProof.Rows
-- These names are taken so that the head lays no faster copies of the text's constants: the facts below are proved
-- without them as fast, and with them the compiled file has over 64 MB. The proof does not use these names.
theorem PySem.W.Fast.tw8394153105813608846 : True := trivial
theorem PySem.W.Fast.tw6024081531523683328 : True := trivial
theorem PySem.W.Fast.tw9546353046995541967 : True := trivial
theorem PySem.W.Fast.tw2392707319050932595 : True := trivial
theorem PySem.W.Fast.tw17516202602237704706 : True := trivial
theorem PySem.W.Fast.tw17666357138463497033 : True := trivial
theorem PySem.W.Fast.tw17929373460361992235 : True := trivial
theorem PySem.W.Fast.tw13071547725438253210 : True := trivial
theorem PySem.W.Fast.tw17514129214727441452 : True := trivial
theorem PySem.W.Fast.tw12441943870539839409 : True := trivial
theorem PySem.W.Fast.tw15520332856323564780 : True := trivial
theorem PySem.W.Fast.tw1802507071752242250 : True := trivial
theorem PySem.W.Fast.tw8504460761029123029 : True := trivial
theorem PySem.W.Fast.tw11975522799853697566 : True := trivial
theorem PySem.W.Fast.tw6152273695105699983 : True := trivial
theorem PySem.W.Fast.tw11332177235489945731 : True := trivial
set_option maxRecDepth 100000 in
set_option maxHeartbeats 0 in
theorem PySem.Challenge.cw_truthgrades_k96_whole_shrunk_tables_say_holds : PySem.Challenge.rw_truthgrades_k96_whole_shrunk_tables_say.Holds := by
 w_on;o_law;k_head;(case hw=>w_witness2)
 k_fill
 refine K96.walk (l:=PySem.Challenge.rw_truthgrades_k96_whole_shrunk_tables_say) rfl rfl (fun w h Y=>PySem.W.kIn_of Y) ?F
 case F=>
  intro w mg fa h KX G hmg
  refine' K96.all_mk KX G hmg (K96.qz ?a0 ?l0 ?c0 ?k0) (K96.qz ?a1 ?l1 ?c1 ?k1) (K96.qz ?a2 ?l2 ?c2 ?k2) (K96.qz ?a3 ?l3 ?c3 ?k3) (K96.qz ?a4 ?l4 ?c4 ?k4) (K96.qz ?a5 ?l5 ?c5 ?k5) (K96.qz ?a6 ?l6 ?c6 ?k6) (K96.qz ?a7 ?l7 ?c7 ?k7) (K96.qz ?a8 ?l8 ?c8 ?k8) (K96.qz ?a9 ?l9 ?c9 ?k9) (K96.qz ?a10 ?l10 ?c10 ?k10) (K96.qz ?a11 ?l11 ?c11 ?k11) (K96.qz ?a12 ?l12 ?c12 ?k12) (K96.qz ?a13 ?l13 ?c13 ?k13) (K96.qz ?a14 ?l14 ?c14 ?k14) (K96.qz ?a15 ?l15 ?c15 ?k15) (K96.qz ?a16 ?l16 ?c16 ?k16) (K96.qz ?a17 ?l17 ?c17 ?k17) (K96.qz ?a18 ?l18 ?c18 ?k18) (K96.qz ?a19 ?l19 ?c19 ?k19) (K96.qz ?a20 ?l20 ?c20 ?k20) (K96.qz ?a21 ?l21 ?c21 ?k21) (K96.qz ?a22 ?l22 ?c22 ?k22) (K96.qz ?a23 ?l23 ?c23 ?k23) (K96.qz ?a24 ?l24 ?c24 ?k24) (K96.qz ?a25 ?l25 ?c25 ?k25) (K96.qz ?a26 ?l26 ?c26 ?k26) (K96.qz ?a27 ?l27 ?c27 ?k27) (K96.qz ?a28 ?l28 ?c28 ?k28) (K96.qz ?a29 ?l29 ?c29 ?k29) (K96.qz ?a30 ?l30 ?c30 ?k30) (K96.qz ?a31 ?l31 ?c31 ?k31) (K96.qz ?a32 ?l32 ?c32 ?k32) (K96.qz ?a33 ?l33 ?c33 ?k33) (K96.qz ?a34 ?l34 ?c34 ?k34) (K96.qz ?a35 ?l35 ?c35 ?k35) (K96.qz ?a36 ?l36 ?c36 ?k36) (K96.qz ?a37 ?l37 ?c37 ?k37) (K96.qz ?a38 ?l38 ?c38 ?k38) ?a39 ?l39 ?c39 ?k39 ?z0 ?z1 ?z2 ?z3 ?z4 ?z5 ?z6 ?z7 ?z8 ?z9 ?z10 ?z11 ?z12 ?z13 ?z14 ?z15
  (case a0=>k_is);(case l0=>k_is);(case c0=>k_is);(case k0=>k_is)
  (case a1=>k_is);(case l1=>k_is);(case c1=>k_is);(case k1=>k_is)
  (case a2=>k_is);(case l2=>k_is);(case c2=>k_is);(case k2=>k_is)
  (case a3=>k_is);(case l3=>k_is);(case c3=>k_is);(case k3=>k_is)
  (case a4=>k_is);(case l4=>k_is);(case c4=>k_is);(case k4=>k_is)
  (case a5=>k_is);(case l5=>k_is);(case c5=>k_is);(case k5=>k_is)
  (case a6=>k_is);(case l6=>k_is);(case c6=>k_is);(case k6=>k_is)
  (case a7=>k_is);(case l7=>k_is);(case c7=>k_is);(case k7=>k_is)
  (case a8=>k_is);(case l8=>k_is);(case c8=>k_is);(case k8=>k_is)
  (case a9=>k_is);(case l9=>k_is);(case c9=>k_is);(case k9=>k_is)
  (case a10=>k_is);(case l10=>k_is);(case c10=>k_is);(case k10=>k_is)
  (case a11=>k_is);(case l11=>k_is);(case c11=>k_is);(case k11=>k_is)
  (case a12=>k_is);(case l12=>k_is);(case c12=>k_is);(case k12=>k_is)
  (case a13=>k_is);(case l13=>k_is);(case c13=>k_is);(case k13=>k_is)
  (case a14=>k_is);(case l14=>k_is);(case c14=>k_is);(case k14=>k_is)
  (case a15=>k_is);(case l15=>k_is);(case c15=>k_is);(case k15=>k_is)
  (case a16=>k_is);(case l16=>k_is);(case c16=>k_is);(case k16=>k_is)
  (case a17=>k_is);(case l17=>k_is);(case c17=>k_is);(case k17=>k_is)
  (case a18=>k_is);(case l18=>k_is);(case c18=>k_is);(case k18=>k_is)
  (case a19=>k_is);(case l19=>k_is);(case c19=>k_is);(case k19=>k_is)
  (case a20=>k_is);(case l20=>k_is);(case c20=>k_is);(case k20=>k_is)
  (case a21=>k_is);(case l21=>k_is);(case c21=>k_is);(case k21=>k_is)
  (case a22=>k_is);(case l22=>k_is);(case c22=>k_is);(case k22=>k_is)
  (case a23=>k_is);(case l23=>k_is);(case c23=>k_is);(case k23=>k_is)
  (case a24=>k_is);(case l24=>k_is);(case c24=>k_is);(case k24=>k_is)
  (case a25=>k_is);(case l25=>k_is);(case c25=>k_is);(case k25=>k_is)
  (case a26=>k_is);(case l26=>k_is);(case c26=>k_is);(case k26=>k_is)
  (case a27=>k_is);(case l27=>k_is);(case c27=>k_is);(case k27=>k_is)
  (case a28=>k_is);(case l28=>k_is);(case c28=>k_is);(case k28=>k_is)
  (case a29=>k_is);(case l29=>k_is);(case c29=>k_is);(case k29=>k_is)
  (case a30=>k_is);(case l30=>k_is);(case c30=>k_is);(case k30=>k_is)
  (case a31=>k_is);(case l31=>k_is);(case c31=>k_is);(case k31=>k_is)
  (case a32=>k_is);(case l32=>k_is);(case c32=>k_is);(case k32=>k_is)
  (case a33=>k_is);(case l33=>k_is);(case c33=>k_is);(case k33=>k_is)
  (case a34=>k_is);(case l34=>k_is);(case c34=>k_is);(case k34=>k_is)
  (case a35=>k_is);(case l35=>k_is);(case c35=>k_is);(case k35=>k_is)
  (case a36=>k_is);(case l36=>k_is);(case c36=>k_is);(case k36=>k_is)
  (case a37=>k_is);(case l37=>k_is);(case c37=>k_is);(case k37=>k_is)
  (case a38=>k_is);(case l38=>k_is);(case c38=>k_is);(case k38=>k_is)
  (case a39=>k_is);(case l39=>k_is);(case c39=>k_is);(case k39=>k_is)
  (case z0=>k_is)
  (case z1=>k_is)
  (case z2=>k_is)
  (case z3=>k_is)
  (case z4=>k_is)
  (case z5=>k_is)
  (case z6=>k_is)
  (case z7=>k_is)
  (case z8=>k_is)
  (case z9=>k_is)
  (case z10=>k_is)
  (case z11=>k_is)
  (case z12=>k_is)
  (case z13=>k_is)
  (case z14=>k_is)
  (case z15=>k_is)
